/- A number of 64 bits, out of a row. -/
import Derived.Test.YtkgkdhocmglklaaDoorTru
namespace Go.Proofs.YtkgkdhocmglklaaDoor
open Go.RowKit

theorem i64_of {x : Int} (h : (Lit.int .i64 x).wf = true) : I64 x := by
  simp only [Lit.wf, IntKind.min, IntKind.max, IntKind.signed, IntKind.bits, Bool.and_eq_true, decide_eq_true_eq, if_true] at h
  unfold I64
  omega

end Go.Proofs.YtkgkdhocmglklaaDoor
