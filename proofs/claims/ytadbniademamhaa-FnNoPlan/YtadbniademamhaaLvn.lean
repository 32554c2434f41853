/- Numbers within limits. -/
import Derived.Test.YtadbniademamhaaUpd
import Derived.Test.YtadbniademamhaaPic
namespace Go.Proofs.Ytadbniademamhaa
open Go.RowKit

theorem inB_iff {x lo hi : Int} : inB x lo hi = true ↔ lo ≤ x ∧ x ≤ hi := by unfold inB; simp
theorem alW_all {f : Nat → Int} {lo hi : Int} : ∀ {n : Nat}, (∀ q, q < n → inB (f q) lo hi = true) → alW f lo hi n = true
  | 0, _ => rfl
  | n + 1, h => by unfold alW; rw [alW_all (fun q hq => h q (by omega)), h n (by omega)]; rfl

end Go.Proofs.Ytadbniademamhaa
