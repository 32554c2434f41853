/- Which points a shape has: the numbers, and the specification kind by kind. -/
import Derived.Test.YtadeajdjjcelhaaShape1
import Derived.Deep.DeepCutAuto
import Derived.Deep.RegionHeld
namespace Go.Proofs.Ytadeajdjjcelhaa
open Go.RowKit

/-- has the shape the point that lies so far from its place -/
def insB (K A B C d e : Int) : Bool :=
  if K = 1 then inB d (-A) A && inB e (-B) B else if K = 2 then decide (B * B * (d * d) + A * A * (e * e) ≤ A * A * (B * B)) else if K = 3 then inB (A * d + B * e) (-C) C else inB (d * d + e * e) (A * A) (B * B)

/-- what Inside answers -/
def insideB (K X Y A B C V x y : Int) : Bool := shapeB K X Y A B C V && (inB x (-100000) 100000 && (inB y (-100000) 100000 && insB K A B C (x - X) (y - Y)))

theorem natb {a b : Int} {P Q : Nat} (ha : a.natAbs ≤ P) (hb : b.natAbs ≤ Q) : (a * b).natAbs ≤ P * Q := by
  rw [Int.natAbs_mul]; exact Nat.mul_le_mul ha hb
theorem nata {a b : Int} {P Q : Nat} (ha : a.natAbs ≤ P) (hb : b.natAbs ≤ Q) : (a + b).natAbs ≤ P + Q :=
  Nat.le_trans (Int.natAbs_add_le a b) (Nat.add_le_add ha hb)
theorem wrapn {x : Int} {P : Nat} (h : x.natAbs ≤ P) (hP : P ≤ 4611686018427387904) : IntKind.i64.wrap x = x := by
  rw [IntKind.wrap_i64]; omega

def ab (d : Int) : Int := if d < 0 then -d else d
theorem ab_natAbs (d : Int) : (ab d).natAbs = d.natAbs := by unfold ab; split <;> omega
theorem ab_nonneg (d : Int) : 0 ≤ ab d := by unfold ab; split <;> omega
theorem ab_mul (d : Int) : ab d * ab d = d * d := by
  unfold ab; split
  · rw [Int.neg_mul_neg]
  · rfl
theorem ab_le (d A : Int) : decide (ab d ≤ A) = inB d (-A) A := by
  unfold inB ab
  rw [Bool.eq_iff_iff]
  simp only [decide_eq_true_eq, Bool.and_eq_true]
  split <;> omega

theorem l1Abs_any (d : Int) (h : d.natAbs ≤ 4611686018427387904) (w : World) : Calls Try.prog 50 #[.int .i64 d] w fun e w' => e = .returned (.int .i64 (ab d)) ∧ w' = w := by
  by_cases hd : d < 0
  · have e : ab d = -d := if_pos hd
    rw [e]
    have hn : IntKind.i64.wrap (-d) = -d := wrapn (P := 4611686018427387904) (by omega) (by omega)
    go_enter Try.func50, Try.ntmps50
    go_wp2
    go_ret
    exact ⟨rfl, rfl⟩
  · have e : ab d = d := if_neg hd
    rw [e]
    go_enter Try.func50, Try.ntmps50
    go_wp2
    go_ret
    exact ⟨rfl, rfl⟩

theorem shape_bounds {K X Y A B C V : Int} (h : shapeB K X Y A B C V = true) : X.natAbs ≤ 1000 ∧ Y.natAbs ≤ 1000 ∧ A.natAbs ≤ 1000 ∧ B.natAbs ≤ 1000 ∧ C.natAbs ≤ 1000 ∧ V.natAbs ≤ 1000 ∧ 0 ≤ C ∧ (K ≠ 3 → 0 ≤ A ∧ 0 ≤ B) := by
  unfold shapeB inB low at h
  simp only [Bool.and_eq_true, decide_eq_true_eq] at h
  obtain ⟨h1, h2, h3, h4, h5, h6, _⟩ := h
  refine ⟨by omega, by omega, ?_, ?_, by omega, by omega, by omega, ?_⟩
  · split at h4 <;> omega
  · split at h5 <;> omega
  · intro hk
    rw [if_neg hk] at h4 h5
    omega

theorem point_bounds {x X : Int} (h : inB x (-100000) 100000 = true) (hX : X.natAbs ≤ 1000) : (x - X).natAbs ≤ 101000 := by
  unfold inB at h
  simp only [Bool.and_eq_true, decide_eq_true_eq] at h
  omega

end Go.Proofs.Ytadeajdjjcelhaa
