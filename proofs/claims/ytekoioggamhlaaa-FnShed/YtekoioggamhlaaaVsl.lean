/- What is visited around a place, as a list. -/
import Derived.Test.YtekoioggamhlaaaOff
import Derived.Test.YtekoioggamhlaaaG8a
namespace Go.Proofs.Ytekoioggamhlaaa
open Go.RowKit

/-- the pixels around p, in the order of the offsets -/
def visL (W H p : Int) (g f : Nat → Int) : Nat → List Int
  | 0 => []
  | k + 1 => if hasB W H (p % W + g (k * 2)) (p / W + g (k * 2 + 1)) = true then visL W H p g f k ++ [f ((p / W + g (k * 2 + 1)) * W + (p % W + g (k * 2))).toNat] else visL W H p g f k
theorem visL_len (W H p : Int) (g f : Nat → Int) : ∀ k, (visL W H p g f k).length ≤ k
  | 0 => by simp [visL]
  | k + 1 => by
    have := visL_len W H p g f k
    unfold visL
    split
    · simp; omega
    · omega
theorem visL_mem {W H p : Int} {g f : Nat → Int} {n : Nat} (hn : (n : Int) = W * H) {P : Int → Prop} (hP : ∀ k, k < n → P (f k)) : ∀ k, ∀ x ∈ visL W H p g f k, P x
  | 0, x, hx => by simp [visL] at hx
  | k + 1, x, hx => by
    unfold visL at hx
    cases hq : hasB W H (p % W + g (k * 2)) (p / W + g (k * 2 + 1))
    · rw [hq] at hx
      exact visL_mem hn hP k x (by simpa using hx)
    · rw [hq] at hx
      obtain ⟨q0, q1⟩ := place_lt hq hn
      simp only [if_true, List.mem_append, List.mem_singleton] at hx
      rcases hx with hx | rfl
      · exact visL_mem hn hP k x hx
      · exact hP _ (by omega)
theorem visL_mono (W H p : Int) (g f : Nat → Int) : ∀ k m, k ≤ m → (visL W H p g f k).length ≤ (visL W H p g f m).length
  | k, 0, h => by rw [show k = 0 by omega]; exact Nat.le_refl _
  | k, m + 1, h => by
    by_cases e : k = m + 1
    · rw [e]; exact Nat.le_refl _
    · have := visL_mono W H p g f k m (by omega)
      rw [visL]
      split
      · simp; omega
      · omega
theorem visL_pos {W H p : Int} {g f : Nat → Int} {k m : Nat} (hk : k < m) (h : hasB W H (p % W + g (k * 2)) (p / W + g (k * 2 + 1)) = true) : 0 < (visL W H p g f m).length := by
  have := visL_mono W H p g f (k + 1) m hk
  rw [visL, if_pos h] at this
  simp at this
  omega
end Go.Proofs.Ytekoioggamhlaaa
