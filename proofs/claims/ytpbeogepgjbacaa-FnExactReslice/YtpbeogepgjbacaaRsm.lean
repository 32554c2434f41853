/- Reslice: numbers. -/
import Derived.Test.YtpbeogepgjbacaaRsv
import Derived.Test.YtpbeogepgjbacaaMvn
import Derived.Test.YtpbeogepgjbacaaBrn
namespace Go.Proofs.Ytpbeogepgjbacaa
open Go.RowKit

/-- the voxel at (x, y, z) -/
def rsN (t : Nat → Int) (X Y Z : Int) (M T : Nat → Int) (D x y z : Int) : Int :=
  vxN t X Y Z ((mvX M T x y z 0).tdiv (mvG M T D x y z)) ((mvX M T x y z 1).tdiv (mvG M T D x y z)) ((mvX M T x y z 2).tdiv (mvG M T D x y z)) (D.tdiv (mvG M T D x y z))
/-- voxel q of the new volume -/
def rsF (t : Nat → Int) (X Y Z : Int) (M T : Nat → Int) (D : Int) (nx ny : Nat) (q : Nat) : Int := rsN t X Y Z M T D ((q % nx : Nat) : Int) ((q / nx % ny : Nat) : Int) ((q / nx / ny : Nat) : Int)
theorem rsF_at (t : Nat → Int) (X Y Z : Int) (M T : Nat → Int) (D : Int) {nx ny x y z : Nat} (hx : x < nx) (hy : y < ny) : rsF t X Y Z M T D nx ny ((z * ny + y) * nx + x) = rsN t X Y Z M T D (x : Int) (y : Int) (z : Int) := by
  obtain ⟨h1, h2, h3, h4⟩ := dec3 z hx hy
  unfold rsF
  rw [h1, h2, h3, h4]
theorem mul_b32 {m : Int} {x : Nat} (hm : -1000000 ≤ m ∧ m ≤ 1000000) (hx : x < 32) : -32000000 ≤ m * (x : Int) ∧ m * (x : Int) ≤ 32000000 := by
  have h1 : m * (x : Int) ≤ 1000000 * (x : Int) := Int.mul_le_mul_of_nonneg_right hm.2 (by omega)
  have h2 : -1000000 * (x : Int) ≤ m * (x : Int) := Int.mul_le_mul_of_nonneg_right hm.1 (by omega)
  omega
theorem mvX_b {M T : Nat → Int} (hM : ∀ k, k < 9 → -1000000 ≤ M k ∧ M k ≤ 1000000) (hT : ∀ k, k < 3 → -1000000 ≤ T k ∧ T k ≤ 1000000) {x y z : Nat} (hx : x < 32) (hy : y < 32) (hz : z < 32) {i : Nat} (hi : i < 3) : (mvX M T x y z i).natAbs ≤ 97000000 := by
  have a1 := mul_b32 (hM (3 * i) (by omega)) hx
  have a2 := mul_b32 (hM (3 * i + 1) (by omega)) hy
  have a3 := mul_b32 (hM (3 * i + 2) (by omega)) hz
  have a4 := hT i hi
  unfold mvX
  omega
theorem mvG_dvd (M T : Nat → Int) (D x y z : Int) : ((mvG M T D x y z : Nat) : Int) ∣ D := by
  unfold mvG
  refine Int.dvd_trans (Int.gcd_dvd_right _ _) (Int.gcd_dvd_right _ _)
theorem dq_b {D : Int} {g : Nat} (h1 : 1 ≤ D) (h2 : D ≤ 1000000) (hg : (g : Int) ∣ D) : ∃ d : Nat, D.tdiv g = (d : Int) ∧ 1 ≤ d ∧ d ≤ 1000000 := by
  obtain ⟨c, hc⟩ := hg
  have hg0 : 0 < g := by
    rcases Nat.eq_zero_or_pos g with e | e
    · subst e; simp at hc; omega
    · exact e
  have hq : D.tdiv g = c := by rw [hc]; exact Int.mul_tdiv_cancel_left _ (by omega)
  have k1 := Int.natAbs_tdiv_le_natAbs D (g : Int)
  have hc0 : 0 < c := by
    rcases Int.lt_or_le 0 c with e | e
    · exact e
    · have : (g : Int) * c ≤ 0 := Int.mul_nonpos_of_nonneg_of_nonpos (by omega) e
      omega
  refine ⟨c.toNat, by rw [hq]; omega, by omega, ?_⟩
  rw [hq] at k1
  omega
theorem voxelOf_any (X Y Z : Int) (a : Option Addr) (n cap : Nat) (t : Nat → Int) (hX : 1 ≤ X ∧ X ≤ 32) (hY : 1 ≤ Y ∧ Y ≤ 32) (hZ : 1 ≤ Z ∧ Z ≤ 32) (hn : (n : Int) = X * Y * Z) {M T : Nat → Int} {D : Int} (hD : 1 ≤ D ∧ D ≤ 1000000)
    (hM : ∀ k, k < 9 → -1000000 ≤ M k ∧ M k ≤ 1000000) (hT : ∀ k, k < 3 → -1000000 ≤ T k ∧ T k ≤ 1000000) {x y z : Nat} (hx : x < 32) (hy : y < 32) (hz : z < 32) (w : World) (h : Px a n t w) :
    Calls Try.prog 32 #[vVolume X Y Z a n cap, plV (mvX M T x y z 0) (mvX M T x y z 1) (mvX M T x y z 2) D (mvG M T D x y z)] w fun e w' => e = .returned (.int .i64 (rsN t X Y Z M T D (x : Int) (y : Int) (z : Int))) ∧ Below w.heap.size w w' := by
  obtain ⟨d, hd, hd1, hd2⟩ := dq_b hD.1 hD.2 (mvG_dvd M T D x y z)
  have b0 := mvX_b hM hT hx hy hz (show 0 < 3 by omega)
  have b1 := mvX_b hM hT hx hy hz (show 1 < 3 by omega)
  have b2 := mvX_b hM hT hx hy hz (show 2 < 3 by omega)
  have k0 := Int.natAbs_tdiv_le_natAbs (mvX M T x y z 0) (mvG M T D x y z : Nat)
  have k1 := Int.natAbs_tdiv_le_natAbs (mvX M T x y z 1) (mvG M T D x y z : Nat)
  have k2 := Int.natAbs_tdiv_le_natAbs (mvX M T x y z 2) (mvG M T D x y z : Nat)
  unfold rsN plV
  rw [hd]
  exact voxelNear_any X Y Z a n cap t hX hY hZ hn _ _ _ d hd1 hd2 (by omega) (by omega) (by omega) w h

end Go.Proofs.Ytpbeogepgjbacaa
