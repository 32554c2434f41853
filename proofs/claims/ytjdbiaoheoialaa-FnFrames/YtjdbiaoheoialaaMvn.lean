/- Move: numbers. -/
import Derived.Test.YtjdbiaoheoialaaFrO
import Derived.BigRegion
import Derived.Deep.RegionHeld3
import Derived.Deep.DrawnRows
namespace Go.Proofs.Ytjdbiaoheoialaa
open Go.RowKit Go.Lib

theorem frmB_parts {D : Int} {n0 : Nat} {M : Nat → Int} {n1 : Nat} {T : Nat → Int} (h : frmB D n0 M n1 T = true) :
    n0 = 9 ∧ n1 = 3 ∧ (1 ≤ D ∧ D ≤ 1000000) ∧ (∀ i, i < 9 → -1000000 ≤ M i ∧ M i ≤ 1000000) ∧ (∀ i, i < 3 → -1000000 ≤ T i ∧ T i ≤ 1000000) ∧ fvG D M T 12 = 1 ∧ det9 M ≠ 0 := by
  unfold frmB at h
  simp only [Bool.and_eq_true, decide_eq_true_eq, beq_iff_eq, bne_iff_ne, ne_eq] at h
  obtain ⟨h1, h2, h3, h4, h5, h6⟩ := h
  refine ⟨h1, h2, ?_, fun i hi => ?_, fun i hi => ?_, by omega, h6⟩
  · unfold inB at h3; simpa using h3
  · have := alW_at h4 (show i < 12 by omega)
    unfold fvN at this
    rw [if_pos hi] at this
    unfold inB at this
    simpa using this
  · have := alW_at h4 (show i + 9 < 12 by omega)
    unfold fvN at this
    rw [if_neg (by omega), Nat.add_sub_cancel] at this
    unfold inB at this
    simpa using this
theorem mul_b6 {x y : Int} (h1 : -1000000 ≤ x ∧ x ≤ 1000000) (h2 : -1000000 ≤ y ∧ y ≤ 1000000) : -1000000000000 ≤ x * y ∧ x * y ≤ 1000000000000 := by
  have h : (x * y).natAbs ≤ 1000000 * 1000000 := by rw [Int.natAbs_mul]; exact Nat.mul_le_mul (by omega) (by omega)
  omega
def mvX (M T : Nat → Int) (x y z : Int) (i : Nat) : Int := M (3 * i) * x + M (3 * i + 1) * y + M (3 * i + 2) * z + T i
def mvG (M T : Nat → Int) (D x y z : Int) : Nat := Int.gcd (Int.gcd (mvX M T x y z 0) (mvX M T x y z 1) : Nat) (Int.gcd (mvX M T x y z 2) D : Nat)
def plV (a b c d : Int) (g : Nat) : Value := .agg #[.int .i64 (a.tdiv g), .int .i64 (b.tdiv g), .int .i64 (c.tdiv g), .int .i64 (d.tdiv g)]
def movB (D : Int) (n0 : Nat) (M : Nat → Int) (n1 : Nat) (T : Nat → Int) (x y z : Int) : Bool := frmB D n0 M n1 T && (inB x (-1000000) 1000000 && (inB y (-1000000) 1000000 && inB z (-1000000) 1000000))
def movV (D : Int) (n0 : Nat) (M : Nat → Int) (n1 : Nat) (T : Nat → Int) (x y z : Int) : Value := if movB D n0 M n1 T x y z = true then plV (mvX M T x y z 0) (mvX M T x y z 1) (mvX M T x y z 2) D (mvG M T D x y z) else .agg #[.int .i64 0, .int .i64 0, .int .i64 0, .int .i64 0]
theorem inB6 {x : Int} (h : inB x (-1000000) 1000000 = true) : -1000000 ≤ x ∧ x ≤ 1000000 := by unfold inB at h; simpa using h
theorem gcd_le_add (a b : Nat) : Nat.gcd a b ≤ a + b := by
  by_cases h : a = 0
  · subst h; simp
  · have := Nat.gcd_le_left b (Nat.pos_of_ne_zero h); omega
theorem mvG_pos (M T : Nat → Int) {D : Int} (h : 1 ≤ D) (x y z : Int) : 1 ≤ mvG M T D x y z := by
  unfold mvG
  have h1 : 0 < Int.gcd (mvX M T x y z 2) D := Nat.gcd_pos_of_pos_right _ (by omega)
  have h2 : 0 < Int.gcd (Int.gcd (mvX M T x y z 0) (mvX M T x y z 1) : Nat) (Int.gcd (mvX M T x y z 2) D : Nat) := Nat.gcd_pos_of_pos_right _ (by omega)
  omega

end Go.Proofs.Ytjdbiaoheoialaa
