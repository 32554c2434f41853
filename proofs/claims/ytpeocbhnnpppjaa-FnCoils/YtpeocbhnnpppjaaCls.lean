/- What two coils saw folded is solved to its residues wherever they tell two rows apart. -/
import Derived.Test.YtpeocbhnnpppjaaInv
namespace Go.Proofs.Ytpeocbhnnpppjaa
open Go.RowKit

theorem res_res (x : Int) : res (res x) = res x := by
  unfold res; exact Int.emod_emod_of_dvd _ (Int.dvd_refl _)
theorem res_mul_l (x y : Int) : res (res x * y) = res (x * y) := by
  unfold res; rw [Int.mul_emod, Int.emod_emod_of_dvd _ (Int.dvd_refl _), ← Int.mul_emod]
theorem res_mul_r (x y : Int) : res (x * res y) = res (x * y) := by
  rw [Int.mul_comm, res_mul_l, Int.mul_comm]
theorem res_sub2 (x y : Int) : res (res x - res y) = res (x - y) := by
  unfold res; rw [← Int.sub_emod]

theorem slv_ok (x y a0 a1 b0 b1 : Int) (h : crs a0 a1 b0 b1 ≠ 0) :
    slv1 a0 a1 b0 b1 (res (x * a0 + y * a1)) (res (x * b0 + y * b1)) = res x ∧ slv2 a0 a1 b0 b1 (res (x * a0 + y * a1)) (res (x * b0 + y * b1)) = res y := by
  obtain ⟨d0, d1⟩ := crs_bd a0 a1 b0 b1
  have hi := inv_mul (crs a0 a1 b0 b1) (by omega) d1
  have e1 : (x * a0 + y * a1) * b1 - a1 * (x * b0 + y * b1) = x * (a0 * b1 - a1 * b0) := by grind
  have e2 : a0 * (x * b0 + y * b1) - (x * a0 + y * a1) * b0 = y * (a0 * b1 - a1 * b0) := by grind
  have c1 : crs (res (x * a0 + y * a1)) a1 (res (x * b0 + y * b1)) b1 = res (x * crs a0 a1 b0 b1) := by
    unfold crs
    rw [res_mul_r, ← e1, ← res_sub2, res_mul_l, res_mul_r, res_sub2]
  have c2 : crs a0 (res (x * a0 + y * a1)) b0 (res (x * b0 + y * b1)) = res (y * crs a0 a1 b0 b1) := by
    unfold crs
    rw [res_mul_r, ← e2, ← res_sub2, res_mul_r, res_mul_l, res_sub2]
  unfold slv1 slv2
  rw [if_neg h, if_neg h, c1, c2]
  generalize crs a0 a1 b0 b1 = D at *
  constructor
  · rw [res_mul_l, Int.mul_assoc, ← res_mul_r, hi, Int.mul_one]
  · rw [res_mul_l, Int.mul_assoc, ← res_mul_r, hi, Int.mul_one]

end Go.Proofs.Ytpeocbhnnpppjaa
