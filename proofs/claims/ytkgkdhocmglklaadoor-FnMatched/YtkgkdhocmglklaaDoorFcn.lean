/- What a shift costs: numbers alone. -/
import Derived.Test.YtkgkdhocmglklaaDoorTgn
namespace Go.Proofs.YtkgkdhocmglklaaDoor
open Go.RowKit

/-- is the place inside -/
def inC (X x y z : Int) : Bool := decide (0 ≤ x) && decide (x ≤ X - 1) && (decide (0 ≤ y) && decide (y ≤ X - 1)) && (decide (0 ≤ z) && decide (z ≤ X - 1))
/-- the voxel at a place, 0 outside -/
def cAt (t : Nat → Int) (X x y z : Int) : Int := if inC X x y z = true then t ((z * X + y) * X + x).toNat else 0
/-- how far apart two voxels are -/
def dst (f t : Nat → Int) (X x y z : Int) (k : Nat) : Int := f k - cAt t X (kx X k - x) (ky X k - y) (kz X k - z)
/-- the cost of a shift, up to k -/
def cst (f t : Nat → Int) (X x y z : Int) : Nat → Int
  | 0 => 0
  | k + 1 => cst f t X x y z k + dst f t X x y z k * dst f t X x y z k

theorem inC_iff {X x y z : Int} : inC X x y z = true ↔ (0 ≤ x ∧ x ≤ X - 1) ∧ (0 ≤ y ∧ y ≤ X - 1) ∧ (0 ≤ z ∧ z ≤ X - 1) := by
  unfold inC
  simp only [Bool.and_eq_true, decide_eq_true_eq]
  omega
/-- where a place lies in the list -/
theorem num_in {X x y z : Int} (hX : 1 ≤ X ∧ X ≤ 32) (h : inC X x y z = true) {n : Nat} (hn : (n : Int) = X * X * X) :
    0 ≤ z * X ∧ z * X ≤ 1024 ∧ 0 ≤ (z * X + y) * X ∧ (z * X + y) * X ≤ 40000 ∧ 0 ≤ (z * X + y) * X + x ∧ (z * X + y) * X + x < n := by
  obtain ⟨hx, hy, hz⟩ := inC_iff.1 h
  have q0 : 0 ≤ z * X := Int.mul_nonneg (by omega) (by omega)
  have q1 : z * X ≤ (X - 1) * X := Int.mul_le_mul_of_nonneg_right (by omega) (by omega)
  have q2 : (X - 1) * X ≤ 31 * 32 := Int.mul_le_mul (by omega) (by omega) (by omega) (by omega)
  have r0 : 0 ≤ (z * X + y) * X := Int.mul_nonneg (by omega) (by omega)
  have e1 : (X - 1) * X = X * X - X := by rw [Int.sub_mul, Int.one_mul]
  have r1 : (z * X + y) * X ≤ (X * X - 1) * X := Int.mul_le_mul_of_nonneg_right (by omega) (by omega)
  have e2 : (X * X - 1) * X = X * X * X - X := by rw [Int.sub_mul, Int.one_mul]
  have q3 : (z * X + y) * X ≤ 1023 * 32 := Int.mul_le_mul (by omega) (by omega) (by omega) (by omega)
  omega
theorem cAt_bd {t : Nat → Int} {X : Int} {n : Nat} (hX : 1 ≤ X ∧ X ≤ 32) (hn : (n : Int) = X * X * X) (ht : ∀ k, k < n → -4095 ≤ t k ∧ t k ≤ 4095) (x y z : Int) : -4095 ≤ cAt t X x y z ∧ cAt t X x y z ≤ 4095 := by
  unfold cAt
  split
  case isTrue h =>
    have := num_in hX h hn
    exact ht _ (by omega)
  case isFalse => omega
theorem dst_bd {f t : Nat → Int} {X : Int} {n : Nat} (hX : 1 ≤ X ∧ X ≤ 32) (hn : (n : Int) = X * X * X) (hf : ∀ k, k < n → -4095 ≤ f k ∧ f k ≤ 4095) (ht : ∀ k, k < n → -4095 ≤ t k ∧ t k ≤ 4095) (x y z : Int) {k : Nat} (hk : k < n) :
    (-8190 ≤ dst f t X x y z k ∧ dst f t X x y z k ≤ 8190) ∧ 0 ≤ dst f t X x y z k * dst f t X x y z k ∧ dst f t X x y z k * dst f t X x y z k ≤ 67076100 := by
  have h1 := cAt_bd hX hn ht (kx X k - x) (ky X k - y) (kz X k - z)
  have h2 := hf k hk
  have h3 : -8190 ≤ dst f t X x y z k ∧ dst f t X x y z k ≤ 8190 := by unfold dst; omega
  have h4 := mulB h3.1 h3.2 h3.1 h3.2
  refine ⟨h3, ?_, by omega⟩
  rcases Int.le_total 0 (dst f t X x y z k) with h | h
  · exact Int.mul_nonneg h h
  · exact Int.mul_nonneg_of_nonpos_of_nonpos h h
theorem cst_bd {f t : Nat → Int} {X : Int} {n : Nat} (hX : 1 ≤ X ∧ X ≤ 32) (hn : (n : Int) = X * X * X) (hf : ∀ k, k < n → -4095 ≤ f k ∧ f k ≤ 4095) (ht : ∀ k, k < n → -4095 ≤ t k ∧ t k ≤ 4095) (x y z : Int) : ∀ k, k ≤ n → 0 ≤ cst f t X x y z k ∧ cst f t X x y z k ≤ 67076100 * (k : Int)
  | 0, _ => by simp [cst]
  | k + 1, hk => by
    have h1 := cst_bd hX hn hf ht x y z k (by omega)
    have h2 := (dst_bd hX hn hf ht x y z (k := k) (by omega)).2
    unfold cst
    omega
/-- the voxels of a right cube -/
theorem cub_in {X Y Z : Int} {n : Nat} {f : Nat → Int} (h : cubB X Y Z n f = true) : ∀ k, k < n → -4095 ≤ f k ∧ f k ≤ 4095 := fun k hk => by
  unfold cubB volB at h
  simp only [Bool.and_eq_true] at h
  have := alW_at h.1.2.2.2.2 hk
  unfold inB at this
  simpa using this
/-- are two cubes alike -/
def likB (X Y Z : Int) (n : Nat) (f : Nat → Int) (X' Y' Z' : Int) (n' : Nat) (f' : Nat → Int) : Bool := cubB X Y Z n f && (cubB X' Y' Z' n' f' && (decide (X = X') && decide (X ≤ 6)))
/-- the cost of a fit -/
def fitV (tq : Nat → T4) (X Y Z : Int) (n : Nat) (f : Nat → Int) (X' Y' Z' : Int) (n' : Nat) (f' : Nat → Int) (tn x y z : Int) : Int :=
  if (likB X Y Z n f X' Y' Z' n' f' && (inB tn 0 11 && (inB x (-2) 2 && (inB y (-2) 2 && inB z (-2) 2)))) = true then cst f (tvs (tgT (tq tn.toNat) X) f' n') X x y z n else -1

end Go.Proofs.YtkgkdhocmglklaaDoor
