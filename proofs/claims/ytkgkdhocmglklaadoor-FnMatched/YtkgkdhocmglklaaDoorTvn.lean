/- Cubes that are turned: numbers alone. -/
import Derived.Test.YtkgkdhocmglklaaDoorTrx
import Derived.Test.YtkgkdhocmglklaaDoorVli
namespace Go.Proofs.YtkgkdhocmglklaaDoor
open Go.RowKit

theorem volB_parts {X Y Z : Int} {n : Nat} {f : Nat → Int} (h : volB X Y Z n f = true) : (1 ≤ X ∧ X ≤ 32) ∧ (1 ≤ Y ∧ Y ≤ 32) ∧ (1 ≤ Z ∧ Z ≤ 32) ∧ (n : Int) = X * Y * Z ∧ n ≤ 32768 := by
  unfold volB inB at h
  simp only [Bool.and_eq_true, decide_eq_true_eq] at h
  obtain ⟨hX, hY, hZ, hn, _⟩ := h
  refine ⟨hX, hY, hZ, hn, ?_⟩
  have h1 : X * Y ≤ 32 * 32 := Int.mul_le_mul hX.2 hY.2 (by omega) (by omega)
  have h0 : 0 ≤ X * Y := Int.mul_nonneg (by omega) (by omega)
  have h2 : X * Y * Z ≤ 1024 * 32 := Int.mul_le_mul h1 hZ.2 (by omega) (by omega)
  omega

/-- is it a cube -/
def cubB (X Y Z : Int) (n : Nat) (f : Nat → Int) : Bool := volB X Y Z n f && (decide (X = Y) && decide (X = Z))

/-- the three numbers of place k -/
def kx (X : Int) (k : Nat) : Int := (k : Int) % X
def ky (X : Int) (k : Nat) : Int := (k : Int) / X % X
def kz (X : Int) (k : Nat) : Int := (k : Int) / X / X

theorem kxyz {X : Int} (hX : 1 ≤ X) {k : Nat} (hk : (k : Int) < X * X * X) : (0 ≤ kx X k ∧ kx X k ≤ X - 1) ∧ (0 ≤ ky X k ∧ ky X k ≤ X - 1) ∧ (0 ≤ kz X k ∧ kz X k ≤ X - 1) := by
  have a0 := Int.emod_nonneg (k : Int) (show X ≠ 0 by omega)
  have a1 := Int.emod_lt_of_pos (k : Int) (show 0 < X by omega)
  have b0 := Int.emod_nonneg ((k : Int) / X) (show X ≠ 0 by omega)
  have b1 := Int.emod_lt_of_pos ((k : Int) / X) (show 0 < X by omega)
  have c0 : 0 ≤ (k : Int) / X := Int.ediv_nonneg (by omega) (by omega)
  have c1 : 0 ≤ (k : Int) / X / X := Int.ediv_nonneg c0 (by omega)
  have d0 : (k : Int) / X < X * X := Int.ediv_lt_of_lt_mul (by omega) hk
  have d1 : (k : Int) / X / X < X := Int.ediv_lt_of_lt_mul (by omega) d0
  unfold kx ky kz
  omega

/-- a number of the place that voxel k goes to -/
def tp (a b c d X : Int) (i k : Nat) : Int := (mv (mtx a b c d) i (2 * kx X k - X + 1) (2 * ky X k - X + 1) (2 * kz X k - X + 1) + X - 1) / 2
/-- that place -/
def tg (a b c d X : Int) (k : Nat) : Int := (tp a b c d X 2 k * X + tp a b c d X 1 k) * X + tp a b c d X 0 k

theorem tp_in {a b c d X : Int} (h : tkB a b c d = true) (hX : 1 ≤ X) {k : Nat} (hk : (k : Int) < X * X * X) {i : Nat} (hi : i < 3) :
    (-(X - 1) ≤ mv (mtx a b c d) i (2 * kx X k - X + 1) (2 * ky X k - X + 1) (2 * kz X k - X + 1) ∧ mv (mtx a b c d) i (2 * kx X k - X + 1) (2 * ky X k - X + 1) (2 * kz X k - X + 1) ≤ X - 1) ∧ 0 ≤ tp a b c d X i k ∧ tp a b c d X i k ≤ X - 1 := by
  obtain ⟨hx, hy, hz⟩ := kxyz hX hk
  have := mv_in h hi (x := 2 * kx X k - X + 1) (y := 2 * ky X k - X + 1) (z := 2 * kz X k - X + 1) (B := X - 1) (by omega) (by omega) (by omega)
  refine ⟨this, ?_, ?_⟩
  · unfold tp; omega
  · unfold tp; omega

theorem tg_in {a b c d X : Int} (h : tkB a b c d = true) (hX : 1 ≤ X) {k : Nat} (hk : (k : Int) < X * X * X) : 0 ≤ tg a b c d X k ∧ tg a b c d X k < X * X * X := by
  have p0 := (tp_in h hX hk (i := 0) (by omega)).2
  have p1 := (tp_in h hX hk (i := 1) (by omega)).2
  have p2 := (tp_in h hX hk (i := 2) (by omega)).2
  unfold tg
  generalize tp a b c d X 0 k = u at *
  generalize tp a b c d X 1 k = v at *
  generalize tp a b c d X 2 k = t at *
  have q0 : 0 ≤ t * X := Int.mul_nonneg (by omega) (by omega)
  have q1 : t * X ≤ (X - 1) * X := Int.mul_le_mul_of_nonneg_right (by omega) (by omega)
  have r0 : 0 ≤ (t * X + v) * X := Int.mul_nonneg (by omega) (by omega)
  have e1 : (X - 1) * X = X * X - X := by rw [Int.sub_mul, Int.one_mul]
  have r1 : (t * X + v) * X ≤ (X * X - 1) * X := Int.mul_le_mul_of_nonneg_right (by omega) (by omega)
  have e2 : (X * X - 1) * X = X * X * X - X := by rw [Int.sub_mul, Int.one_mul]
  omega

/-- the new voxels when k are through -/
def tvs (g : Nat → Int) (f : Nat → Int) : Nat → Nat → Int
  | 0, _ => 0
  | k + 1, q => if q = (g k).toNat then f k else tvs g f k q

end Go.Proofs.YtkgkdhocmglklaaDoor
