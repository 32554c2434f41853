/- Misfit, answered by the specification. -/
import Derived.Test.YtcghjecnbingfaaMsi
namespace Go.Proofs.Ytcghjecnbingfaa
open Go.RowKit

theorem dsq_bound {g l : Nat → Int} {m : Nat} (hd : ∀ k, k < m → -326945 ≤ g k - l k ∧ g k - l k ≤ 326945) : ∀ k, k < m → 0 ≤ dsq g l k ∧ dsq g l k ≤ 106893033025 := fun k hk => by
  obtain ⟨h1, h2⟩ := hd k hk
  unfold dsq
  generalize g k - l k = d at *
  rcases Int.le_total 0 d with h | h
  · have h5 := Int.mul_le_mul h2 h2 h (show (0 : Int) ≤ 326945 by omega)
    have := Int.mul_nonneg h h
    omega
  · have h5 := Int.mul_le_mul (show -d ≤ 326945 by omega) (show -d ≤ 326945 by omega) (show 0 ≤ -d by omega) (show (0 : Int) ≤ 326945 by omega)
    have := Int.mul_nonneg_of_nonpos_of_nonpos h h
    rw [Int.neg_mul_neg] at h5
    omega
theorem dsq_sum {g l : Nat → Int} {m : Nat} (hm : m ≤ 1048576) (hd : ∀ k, k < m → -326945 ≤ g k - l k ∧ g k - l k ≤ 326945) : ∀ k, k ≤ m → 0 ≤ Lnm.sm (dsq g l) k ∧ Lnm.sm (dsq g l) k ≤ 113000000000000000
  | 0, _ => by simp [Lnm.sm]
  | k + 1, hk => by
    have e : ∀ j, j ≤ k + 1 → 0 ≤ Lnm.sm (dsq g l) j := by
      intro j
      induction j with
      | zero => intro _; simp [Lnm.sm]
      | succ j ih =>
        intro hj
        have := dsq_bound hd j (by omega)
        have := ih (by omega)
        show 0 ≤ Lnm.sm (dsq g l) j + dsq g l j
        omega
    have h2 := Lnm.sm_bound (f := dsq g l) (M := 106893033025) (n := k + 1) (fun j hj => by have := dsq_bound hd j (by omega); omega)
    refine ⟨e _ (Nat.le_refl _), ?_⟩
    omega

end Go.Proofs.Ytcghjecnbingfaa
