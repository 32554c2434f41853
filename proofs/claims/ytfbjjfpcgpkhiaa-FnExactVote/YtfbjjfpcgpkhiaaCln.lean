/- slices.Clone over a list of numbers that lies somewhere. -/
import Derived.Test.YtfbjjfpcgpkhiaaHom
import Derived.Lib.SliceRun
import Derived.Lib.Walk
import Derived.WalkKit
namespace Go.Proofs.Ytfbjjfpcgpkhiaa
open Go.RowKit Go.Lib

theorem ints_fl (f : Nat → Int) (n j : Nat) (u : Value) (h : (ints (fl f n))[j]? = some u) : j < n ∧ u = .int .i64 (f j) := by
  have hl : (ints (fl f n)).length = n := by simp [ints, fl_len]
  have hj : j < n := by
    have := (List.getElem?_eq_some_iff.1 h).1
    omega
  refine ⟨hj, ?_⟩
  have e : (ints (fl f n))[j]? = some (.int .i64 ((fl f n).getD j 0)) := by
    simp [ints, List.getD, List.getElem?_eq_getElem (show j < (fl f n).length by rw [fl_len]; exact hj)]
  rw [e, fl_at f n j hj] at h
  exact (Option.some.inj h).symm

end Go.Proofs.Ytfbjjfpcgpkhiaa
