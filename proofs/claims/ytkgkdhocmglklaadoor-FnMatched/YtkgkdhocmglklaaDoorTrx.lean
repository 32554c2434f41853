/- Right turns, one by one; where they take a vector: numbers alone. -/
import Derived.Test.YtkgkdhocmglklaaDoorTrn
namespace Go.Proofs.YtkgkdhocmglklaaDoor
open Go.RowKit

/-- the right turns -/
def L24 : List (Int × Int × Int × Int) :=
  [(2, 0, 0, 0), (-2, 0, 0, 0), (0, 2, 0, 0), (0, -2, 0, 0), (0, 0, 2, 0), (0, 0, -2, 0), (0, 0, 0, 2), (0, 0, 0, -2),
   (1, 1, 1, 1), (1, 1, 1, -1), (1, 1, -1, 1), (1, 1, -1, -1), (1, -1, 1, 1), (1, -1, 1, -1), (1, -1, -1, 1), (1, -1, -1, -1),
   (-1, 1, 1, 1), (-1, 1, 1, -1), (-1, 1, -1, 1), (-1, 1, -1, -1), (-1, -1, 1, 1), (-1, -1, 1, -1), (-1, -1, -1, 1), (-1, -1, -1, -1)]

theorem tk24 : ∀ i : Fin 5, ∀ j : Fin 5, ∀ k : Fin 5, ∀ l : Fin 5, ((i.val : Int) - 2) * ((i.val : Int) - 2) + ((j.val : Int) - 2) * ((j.val : Int) - 2) + ((k.val : Int) - 2) * ((k.val : Int) - 2) + ((l.val : Int) - 2) * ((l.val : Int) - 2) = 4 → ((i.val : Int) - 2, (j.val : Int) - 2, (k.val : Int) - 2, (l.val : Int) - 2) ∈ L24 := by
  decide +kernel

theorem tk_mem {a b c d : Int} (h : tkB a b c d = true) : (a, b, c, d) ∈ L24 := by
  obtain ⟨⟨w0, w1, x0, x1, y0, y1, z0, z1⟩, hs⟩ := tkB_sml h
  have := tk24 ⟨(a + 2).toNat, by omega⟩ ⟨(b + 2).toNat, by omega⟩ ⟨(c + 2).toNat, by omega⟩ ⟨(d + 2).toNat, by omega⟩
  simp only at this
  rw [show (((a + 2).toNat : Nat) : Int) - 2 = a by omega, show (((b + 2).toNat : Nat) : Int) - 2 = b by omega, show (((c + 2).toNat : Nat) : Int) - 2 = c by omega, show (((d + 2).toNat : Nat) : Int) - 2 = d by omega] at this
  exact this hs

/-- what a turn makes of a vector, four times too great -/
def pX (a b c d x y z : Int) : Int := qX (qW a b c d 0 x y z) (qX a b c d 0 x y z) (qY a b c d 0 x y z) (qZ a b c d 0 x y z) a (-b) (-c) (-d)
def pY (a b c d x y z : Int) : Int := qY (qW a b c d 0 x y z) (qX a b c d 0 x y z) (qY a b c d 0 x y z) (qZ a b c d 0 x y z) a (-b) (-c) (-d)
def pZ (a b c d x y z : Int) : Int := qZ (qW a b c d 0 x y z) (qX a b c d 0 x y z) (qY a b c d 0 x y z) (qZ a b c d 0 x y z) a (-b) (-c) (-d)

/-- one where k is i -/
def ei (k i : Nat) : Int := if k = i then 1 else 0
/-- the matrix of a turn -/
def mtx (a b c d : Int) (j : Nat) : Int :=
  if j / 3 = 0 then (pX a b c d (ei (j % 3) 0) (ei (j % 3) 1) (ei (j % 3) 2)).tdiv 4
  else if j / 3 = 1 then (pY a b c d (ei (j % 3) 0) (ei (j % 3) 1) (ei (j % 3) 2)).tdiv 4
  else (pZ a b c d (ei (j % 3) 0) (ei (j % 3) 1) (ei (j % 3) 2)).tdiv 4

/-- what the program reckons for an axis -/
def rX (q : Int → Int → Int → Int → Int → Int → Int → Int → Int) (a b c d : Int) (k : Nat) : Int :=
  (q ((qW a b c d 0 (2 * ei k 0) (2 * ei k 1) (2 * ei k 2)).tdiv 2) ((qX a b c d 0 (2 * ei k 0) (2 * ei k 1) (2 * ei k 2)).tdiv 2) ((qY a b c d 0 (2 * ei k 0) (2 * ei k 1) (2 * ei k 2)).tdiv 2) ((qZ a b c d 0 (2 * ei k 0) (2 * ei k 1) (2 * ei k 2)).tdiv 2) a (-b) (-c) (-d)).tdiv 2

theorem rX_all : ∀ t ∈ L24, ∀ k : Fin 3, (rX qX t.1 t.2.1 t.2.2.1 t.2.2.2 k.val).tdiv 2 = mtx t.1 t.2.1 t.2.2.1 t.2.2.2 k.val ∧ (rX qY t.1 t.2.1 t.2.2.1 t.2.2.2 k.val).tdiv 2 = mtx t.1 t.2.1 t.2.2.1 t.2.2.2 (3 + k.val) ∧ (rX qZ t.1 t.2.1 t.2.2.1 t.2.2.2 k.val).tdiv 2 = mtx t.1 t.2.1 t.2.2.1 t.2.2.2 (6 + k.val) := by
  decide +kernel

theorem mtx_all : ∀ t ∈ L24, ∀ k : Fin 9, -1 ≤ mtx t.1 t.2.1 t.2.2.1 t.2.2.2 k.val ∧ mtx t.1 t.2.1 t.2.2.1 t.2.2.2 k.val ≤ 1 := by
  decide +kernel

/-- where a vector goes, by the matrix -/
def mv (m : Nat → Int) (i : Nat) (x y z : Int) : Int := m (3 * i) * x + m (3 * i + 1) * y + m (3 * i + 2) * z

/-- a matrix that only changes places and signs -/
def sgB (m : Nat → Int) : Bool :=
  (List.range 3).all fun i => (List.range 3).any fun j => (List.range 3).all fun k => if k = j then decide (m (3 * i + k) = 1 ∨ m (3 * i + k) = -1) else decide (m (3 * i + k) = 0)

theorem sg_all : ∀ t ∈ L24, sgB (mtx t.1 t.2.1 t.2.2.1 t.2.2.2) = true := by
  decide +kernel

/-- four times the matrix -/
theorem p4_all : ∀ t ∈ L24, ∀ k : Fin 3, pX t.1 t.2.1 t.2.2.1 t.2.2.2 (ei k.val 0) (ei k.val 1) (ei k.val 2) = 4 * mtx t.1 t.2.1 t.2.2.1 t.2.2.2 k.val ∧ pY t.1 t.2.1 t.2.2.1 t.2.2.2 (ei k.val 0) (ei k.val 1) (ei k.val 2) = 4 * mtx t.1 t.2.1 t.2.2.1 t.2.2.2 (3 + k.val) ∧ pZ t.1 t.2.1 t.2.2.1 t.2.2.2 (ei k.val 0) (ei k.val 1) (ei k.val 2) = 4 * mtx t.1 t.2.1 t.2.2.1 t.2.2.2 (6 + k.val) := by
  decide +kernel

theorem pX_lin (a b c d x y z : Int) : pX a b c d x y z = pX a b c d 1 0 0 * x + pX a b c d 0 1 0 * y + pX a b c d 0 0 1 * z := by
  unfold pX qX qW qY qZ
  grind
theorem pY_lin (a b c d x y z : Int) : pY a b c d x y z = pY a b c d 1 0 0 * x + pY a b c d 0 1 0 * y + pY a b c d 0 0 1 * z := by
  unfold pY qX qW qY qZ
  grind
theorem pZ_lin (a b c d x y z : Int) : pZ a b c d x y z = pZ a b c d 1 0 0 * x + pZ a b c d 0 1 0 * y + pZ a b c d 0 0 1 * z := by
  unfold pZ qX qW qY qZ
  grind

theorem tdiv4 (v : Int) : (4 * v).tdiv 4 = v := Int.mul_tdiv_cancel_left v (by omega)

/-- where a vector goes: the specification and the matrix agree -/
theorem take_mv {a b c d : Int} (h : tkB a b c d = true) (x y z : Int) :
    (pX a b c d x y z).tdiv 4 = mv (mtx a b c d) 0 x y z ∧ (pY a b c d x y z).tdiv 4 = mv (mtx a b c d) 1 x y z ∧ (pZ a b c d x y z).tdiv 4 = mv (mtx a b c d) 2 x y z := by
  have h0 := p4_all _ (tk_mem h) 0
  have h1 := p4_all _ (tk_mem h) 1
  have h2 := p4_all _ (tk_mem h) 2
  simp only [ei, Fin.val_zero, Fin.val_one, Fin.val_two] at h0 h1 h2
  simp at h0 h1 h2
  rw [pX_lin, pY_lin, pZ_lin, h0.1, h0.2.1, h0.2.2, h1.1, h1.2.1, h1.2.2, h2.1, h2.2.1, h2.2.2]
  unfold mv
  refine ⟨?_, ?_, ?_⟩
  · rw [show 4 * mtx a b c d 0 * x + 4 * mtx a b c d 1 * y + 4 * mtx a b c d 2 * z = 4 * (mtx a b c d (3 * 0) * x + mtx a b c d (3 * 0 + 1) * y + mtx a b c d (3 * 0 + 2) * z) by simp only [Nat.mul_zero, Nat.zero_add]; grind, tdiv4]
  · rw [show 4 * mtx a b c d 3 * x + 4 * mtx a b c d 4 * y + 4 * mtx a b c d 5 * z = 4 * (mtx a b c d (3 * 1) * x + mtx a b c d (3 * 1 + 1) * y + mtx a b c d (3 * 1 + 2) * z) by simp only [Nat.mul_one]; grind, tdiv4]
  · rw [show 4 * mtx a b c d 6 * x + 4 * mtx a b c d 7 * y + 4 * mtx a b c d 8 * z = 4 * (mtx a b c d (3 * 2) * x + mtx a b c d (3 * 2 + 1) * y + mtx a b c d (3 * 2 + 2) * z) by grind, tdiv4]

/-- a vector stays within its cube -/
theorem mv_in {a b c d : Int} (h : tkB a b c d = true) {i : Nat} (hi : i < 3) {x y z B : Int} (hx : -B ≤ x ∧ x ≤ B) (hy : -B ≤ y ∧ y ≤ B) (hz : -B ≤ z ∧ z ≤ B) : -B ≤ mv (mtx a b c d) i x y z ∧ mv (mtx a b c d) i x y z ≤ B := by
  have hs := sg_all _ (tk_mem h)
  unfold sgB at hs
  rw [List.all_eq_true] at hs
  have hq := hs i (List.mem_range.2 hi)
  rw [List.any_eq_true] at hq
  obtain ⟨j, hj, hk⟩ := hq
  rw [List.mem_range] at hj
  rw [List.all_eq_true] at hk
  have k0 := hk 0 (by simp)
  have k1 := hk 1 (by simp)
  have k2 := hk 2 (by simp)
  unfold mv
  simp only [Nat.add_zero] at k0
  have hj' : j = 0 ∨ j = 1 ∨ j = 2 := by omega
  rcases hj' with rfl | rfl | rfl
  · simp at k0 k1 k2
    rw [k1, k2]
    rcases k0 with e | e <;> rw [e] <;> omega
  · simp at k0 k1 k2
    rw [k0, k2]
    rcases k1 with e | e <;> rw [e] <;> omega
  · simp at k0 k1 k2
    rw [k0, k1]
    rcases k2 with e | e <;> rw [e] <;> omega

end Go.Proofs.YtkgkdhocmglklaaDoor
