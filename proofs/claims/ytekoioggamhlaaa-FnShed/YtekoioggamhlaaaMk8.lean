/- Masks: the specification and the program. -/
import Derived.Test.YtekoioggamhlaaaHom
namespace Go.Proofs.Ytekoioggamhlaaa
open Go.RowKit

/-- each is 0 or 1 -/
def bit1 (f : Nat → Int) (n : Nat) : Prop := ∀ k, k < n → f k = 0 ∨ f k = 1

def maskB (W H : Int) (n : Nat) (f : Nat → Int) : Bool := okB W H n f && alW f 0 1 n
theorem maskB_parts {W H : Int} {n : Nat} {f : Nat → Int} (h : maskB W H n f = true) : okB W H n f = true ∧ n ≤ 4096 ∧ bit1 f n := by
  unfold maskB at h
  simp only [Bool.and_eq_true] at h
  obtain ⟨h1, h2, h3, h4⟩ := okB_parts h.1
  have := prod_bounds h1 h2
  refine ⟨h.1, by omega, fun k hk => ?_⟩
  have := alW_at h.2 hk
  unfold inB at this
  simp at this
  omega

end Go.Proofs.Ytekoioggamhlaaa
