/- A frame is right on both sides alike. -/
import Derived.Test.YtjdbiaoheoialaaMpo
import Derived.Test.YtjdbiaoheoialaaFrO
namespace Go.Proofs.Ytjdbiaoheoialaa
open Go.RowKit Go.Lib

theorem alW_fvN (M T : Nat → Int) (lo hi : Int) : alW (fvN M T) lo hi 12 = (alW M lo hi 9 && alW T lo hi 3) := by
  show (((alW M lo hi 9 && inB (T 0) lo hi) && inB (T 1) lo hi) && inB (T 2) lo hi) = (alW M lo hi 9 && (((true && inB (T 0) lo hi) && inB (T 1) lo hi) && inB (T 2) lo hi))
  cases alW M lo hi 9 <;> cases inB (T 0) lo hi <;> cases inB (T 1) lo hi <;> cases inB (T 2) lo hi <;> rfl
theorem fvG_M (D : Int) (M T : Nat → Int) : ∀ i, i ≤ 9 → fvG D M T i = Nat.gcd D.toNat (cgcd M i)
  | 0, _ => by simp [fvG, cgcd]
  | i + 1, h => by
    have e : fvG D M T (i + 1) = Nat.gcd (fvG D M T i) (fvN M T i).natAbs := rfl
    have f : fvN M T i = M i := by unfold fvN; rw [if_pos (by omega)]
    rw [e, f, fvG_M D M T i (by omega), Nat.gcd_assoc]
    rfl
theorem fvG_T (D : Int) (M T : Nat → Int) : ∀ i, fvG D M T (9 + i) = Nat.gcd (fvG D M T 9) (cgcd T i)
  | 0 => by simp [cgcd]
  | i + 1 => by
    have e : fvG D M T (9 + (i + 1)) = Nat.gcd (fvG D M T (9 + i)) (fvN M T (9 + i)).natAbs := rfl
    have f : fvN M T (9 + i) = T i := by unfold fvN; rw [if_neg (by omega), Nat.add_sub_cancel_left]
    rw [e, f, fvG_T D M T i, Nat.gcd_assoc]
    rfl
theorem fvG_mdiv {D : Int} (h : 1 ≤ D) (M T : Nat → Int) : fvG D M T 12 = mdiv M T D := by
  have h1 := fvG_T D M T 3
  rw [fvG_M D M T 9 (by omega)] at h1
  have h2 : D.natAbs = D.toNat := by omega
  unfold mdiv
  rw [h2]
  refine h1.trans ?_
  rw [Nat.gcd_assoc, Nat.gcd_comm]
theorem sgn_ne (x : Int) : (sgn x != 0) = (x != 0) := by
  unfold sgn
  by_cases h1 : x < 0
  · rw [if_pos h1]
    have : x ≠ 0 := by omega
    simp [this]
  · rw [if_neg h1]
    by_cases h2 : x = 0
    · simp [h2]
    · simp [h2]
theorem frI_eq (D : Int) (n0 : Nat) (M : Nat → Int) (n1 : Nat) (T : Nat → Int) : frI D n0 M n1 T = frmB D n0 M n1 T := by
  unfold frI frmB len93 rightB limB
  rw [alW_fvN, sgn_ne]
  cases hD : inB D 1 1000000
  · cases decide (n0 = 9) <;> cases decide (n1 = 3) <;> cases alW M (-1000000) 1000000 9 <;> cases alW T (-1000000) 1000000 3 <;> rfl
  · have h1 : 1 ≤ D := by unfold inB at hD; simp at hD; omega
    rw [fvG_mdiv h1]
    cases decide (n0 = 9) <;> cases decide (n1 = 3) <;> cases alW M (-1000000) 1000000 9 <;> cases alW T (-1000000) 1000000 3 <;> rfl

end Go.Proofs.Ytjdbiaoheoialaa
