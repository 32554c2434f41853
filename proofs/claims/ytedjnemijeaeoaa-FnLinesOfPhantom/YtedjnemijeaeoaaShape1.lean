/- When a shape is as told: the specification. -/
import Derived.Test.YtedjnemijeaeoaaHom
namespace Go.Proofs.Ytedjnemijeaeoaa
open Go.RowKit

/-- a shape as a value -/
abbrev sh (K X Y A B C V : Int) : Value := .agg #[.int .i64 K, .int .i64 X, .int .i64 Y, .int .i64 A, .int .i64 B, .int .i64 C, .int .i64 V]
abbrev shCells (K X Y A B C V : Int) (t : TypeId) : Obj := .cells #[.int .i64 K, .int .i64 X, .int .i64 Y, .int .i64 A, .int .i64 B, .int .i64 C, .int .i64 V] t

/-- what each kind asks of A, B and C besides their range -/
def kindB (K A B C : Int) : Bool :=
  if K = 1 then C == 0 else if K = 2 then decide (1 ≤ A) && (decide (1 ≤ B) && C == 0) else if K = 3 then A != 0 || B != 0 else if K = 4 then decide (A ≤ B) && C == 0 else false

def low (K : Int) : Int := if K = 3 then -1000 else 0

/-- is a shape as told -/
def shapeB (K X Y A B C V : Int) : Bool :=
  inB X (-1000) 1000 && (inB Y (-1000) 1000 && (inB V (-1000) 1000 && (inB A (low K) 1000 && (inB B (low K) 1000 && (inB C 0 1000 && kindB K A B C)))))

set_option maxHeartbeats 1000000 in
theorem specShape1 (X Y A B C V : Int) (w : World) :
    Calls Try.prog 6 #[sh 1 X Y A B C V] w fun e w' => e = .returned (.bool (shapeB 1 X Y A B C V)) ∧ Below w.heap.size w w' := by
  have HB : Hid (Below w.heap.size w (w.alloc (shCells 1 X Y A B C V 28))) := (Below.refl _ _).alloc (Nat.le_refl _) _
  have cX := l1In_any X (-1000) 1000
  have cY := l1In_any Y (-1000) 1000
  have cV := l1In_any V (-1000) 1000
  have cA := l1In_any A 0 1000
  have cB := l1In_any B 0 1000
  have cC := l1In_any C 0 1000
  have hl : low 1 = 0 := rfl
  have hk : kindB 1 A B C = (C == 0) := rfl
  cases hX : inB X (-1000) 1000
  · rw [hX] at cX
    have hr : shapeB 1 X Y A B C V = false := by unfold shapeB; rw [hl, hk]; simp [*]
    rw [hr]
    clear hr hk hl hX
    go_enter Try.func6, Try.ntmps6
    go_wp2_with (first | (go_at_call 20; (with_reducible refine (cX _).mono ?_); rintro e w' ⟨rfl, rfl⟩) | (go_at_call 20; (with_reducible refine (cY _).mono ?_); rintro e w' ⟨rfl, rfl⟩) | (go_at_call 20; (with_reducible refine (cV _).mono ?_); rintro e w' ⟨rfl, rfl⟩) | (go_at_call 20; (with_reducible refine (cA _).mono ?_); rintro e w' ⟨rfl, rfl⟩) | (go_at_call 20; (with_reducible refine (cB _).mono ?_); rintro e w' ⟨rfl, rfl⟩) | (go_at_call 20; (with_reducible refine (cC _).mono ?_); rintro e w' ⟨rfl, rfl⟩))
    go_ret
    exact ⟨rfl, HB.out⟩
  rw [hX] at cX
  cases hY : inB Y (-1000) 1000
  · rw [hY] at cY
    have hr : shapeB 1 X Y A B C V = false := by unfold shapeB; rw [hl, hk]; simp [*]
    rw [hr]
    clear hr hk hl hX hY
    go_enter Try.func6, Try.ntmps6
    go_wp2_with (first | (go_at_call 20; (with_reducible refine (cX _).mono ?_); rintro e w' ⟨rfl, rfl⟩) | (go_at_call 20; (with_reducible refine (cY _).mono ?_); rintro e w' ⟨rfl, rfl⟩) | (go_at_call 20; (with_reducible refine (cV _).mono ?_); rintro e w' ⟨rfl, rfl⟩) | (go_at_call 20; (with_reducible refine (cA _).mono ?_); rintro e w' ⟨rfl, rfl⟩) | (go_at_call 20; (with_reducible refine (cB _).mono ?_); rintro e w' ⟨rfl, rfl⟩) | (go_at_call 20; (with_reducible refine (cC _).mono ?_); rintro e w' ⟨rfl, rfl⟩))
    go_ret
    exact ⟨rfl, HB.out⟩
  rw [hY] at cY
  cases hV : inB V (-1000) 1000
  · rw [hV] at cV
    have hr : shapeB 1 X Y A B C V = false := by unfold shapeB; rw [hl, hk]; simp [*]
    rw [hr]
    clear hr hk hl hX hY hV
    go_enter Try.func6, Try.ntmps6
    go_wp2_with (first | (go_at_call 20; (with_reducible refine (cX _).mono ?_); rintro e w' ⟨rfl, rfl⟩) | (go_at_call 20; (with_reducible refine (cY _).mono ?_); rintro e w' ⟨rfl, rfl⟩) | (go_at_call 20; (with_reducible refine (cV _).mono ?_); rintro e w' ⟨rfl, rfl⟩) | (go_at_call 20; (with_reducible refine (cA _).mono ?_); rintro e w' ⟨rfl, rfl⟩) | (go_at_call 20; (with_reducible refine (cB _).mono ?_); rintro e w' ⟨rfl, rfl⟩) | (go_at_call 20; (with_reducible refine (cC _).mono ?_); rintro e w' ⟨rfl, rfl⟩))
    go_ret
    exact ⟨rfl, HB.out⟩
  rw [hV] at cV
  cases hA : inB A 0 1000
  · rw [hA] at cA
    have hr : shapeB 1 X Y A B C V = false := by unfold shapeB; rw [hl, hk]; simp [*]
    rw [hr]
    clear hr hk hl hX hY hV hA
    go_enter Try.func6, Try.ntmps6
    go_wp2_with (first | (go_at_call 20; (with_reducible refine (cX _).mono ?_); rintro e w' ⟨rfl, rfl⟩) | (go_at_call 20; (with_reducible refine (cY _).mono ?_); rintro e w' ⟨rfl, rfl⟩) | (go_at_call 20; (with_reducible refine (cV _).mono ?_); rintro e w' ⟨rfl, rfl⟩) | (go_at_call 20; (with_reducible refine (cA _).mono ?_); rintro e w' ⟨rfl, rfl⟩) | (go_at_call 20; (with_reducible refine (cB _).mono ?_); rintro e w' ⟨rfl, rfl⟩) | (go_at_call 20; (with_reducible refine (cC _).mono ?_); rintro e w' ⟨rfl, rfl⟩))
    go_ret
    exact ⟨rfl, HB.out⟩
  rw [hA] at cA
  cases hB : inB B 0 1000
  · rw [hB] at cB
    have hr : shapeB 1 X Y A B C V = false := by unfold shapeB; rw [hl, hk]; simp [*]
    rw [hr]
    clear hr hk hl hX hY hV hA hB
    go_enter Try.func6, Try.ntmps6
    go_wp2_with (first | (go_at_call 20; (with_reducible refine (cX _).mono ?_); rintro e w' ⟨rfl, rfl⟩) | (go_at_call 20; (with_reducible refine (cY _).mono ?_); rintro e w' ⟨rfl, rfl⟩) | (go_at_call 20; (with_reducible refine (cV _).mono ?_); rintro e w' ⟨rfl, rfl⟩) | (go_at_call 20; (with_reducible refine (cA _).mono ?_); rintro e w' ⟨rfl, rfl⟩) | (go_at_call 20; (with_reducible refine (cB _).mono ?_); rintro e w' ⟨rfl, rfl⟩) | (go_at_call 20; (with_reducible refine (cC _).mono ?_); rintro e w' ⟨rfl, rfl⟩))
    go_ret
    exact ⟨rfl, HB.out⟩
  rw [hB] at cB
  cases hC : inB C 0 1000
  · rw [hC] at cC
    have hr : shapeB 1 X Y A B C V = false := by unfold shapeB; rw [hl, hk]; simp [*]
    rw [hr]
    clear hr hk hl hX hY hV hA hB hC
    go_enter Try.func6, Try.ntmps6
    go_wp2_with (first | (go_at_call 20; (with_reducible refine (cX _).mono ?_); rintro e w' ⟨rfl, rfl⟩) | (go_at_call 20; (with_reducible refine (cY _).mono ?_); rintro e w' ⟨rfl, rfl⟩) | (go_at_call 20; (with_reducible refine (cV _).mono ?_); rintro e w' ⟨rfl, rfl⟩) | (go_at_call 20; (with_reducible refine (cA _).mono ?_); rintro e w' ⟨rfl, rfl⟩) | (go_at_call 20; (with_reducible refine (cB _).mono ?_); rintro e w' ⟨rfl, rfl⟩) | (go_at_call 20; (with_reducible refine (cC _).mono ?_); rintro e w' ⟨rfl, rfl⟩))
    go_ret
    exact ⟨rfl, HB.out⟩
  rw [hC] at cC
  have hr : shapeB 1 X Y A B C V = (C == 0) := by unfold shapeB; rw [hl, hk]; simp [*]
  rw [hr]
  clear hr hk hl hX hY hV hA hB hC
  go_enter Try.func6, Try.ntmps6
  go_wp2_with (first | (go_at_call 20; (with_reducible refine (cX _).mono ?_); rintro e w' ⟨rfl, rfl⟩) | (go_at_call 20; (with_reducible refine (cY _).mono ?_); rintro e w' ⟨rfl, rfl⟩) | (go_at_call 20; (with_reducible refine (cV _).mono ?_); rintro e w' ⟨rfl, rfl⟩) | (go_at_call 20; (with_reducible refine (cA _).mono ?_); rintro e w' ⟨rfl, rfl⟩) | (go_at_call 20; (with_reducible refine (cB _).mono ?_); rintro e w' ⟨rfl, rfl⟩) | (go_at_call 20; (with_reducible refine (cC _).mono ?_); rintro e w' ⟨rfl, rfl⟩))
  go_ret
  exact ⟨rfl, HB.out⟩

set_option maxHeartbeats 1000000 in
theorem specShape2 (X Y A B C V : Int) (w : World) :
    Calls Try.prog 6 #[sh 2 X Y A B C V] w fun e w' => e = .returned (.bool (shapeB 2 X Y A B C V)) ∧ Below w.heap.size w w' := by
  have HB : Hid (Below w.heap.size w (w.alloc (shCells 2 X Y A B C V 28))) := (Below.refl _ _).alloc (Nat.le_refl _) _
  have cX := l1In_any X (-1000) 1000
  have cY := l1In_any Y (-1000) 1000
  have cV := l1In_any V (-1000) 1000
  have cA := l1In_any A 0 1000
  have cB := l1In_any B 0 1000
  have cC := l1In_any C 0 1000
  have hl : low 2 = 0 := rfl
  have hk : kindB 2 A B C = (decide (1 ≤ A) && (decide (1 ≤ B) && C == 0)) := rfl
  cases hX : inB X (-1000) 1000
  · rw [hX] at cX
    have hr : shapeB 2 X Y A B C V = false := by unfold shapeB; rw [hl, hk]; simp [*]
    rw [hr]
    clear hr hk hl hX
    go_enter Try.func6, Try.ntmps6
    go_wp2_with (first | (go_at_call 20; (with_reducible refine (cX _).mono ?_); rintro e w' ⟨rfl, rfl⟩) | (go_at_call 20; (with_reducible refine (cY _).mono ?_); rintro e w' ⟨rfl, rfl⟩) | (go_at_call 20; (with_reducible refine (cV _).mono ?_); rintro e w' ⟨rfl, rfl⟩) | (go_at_call 20; (with_reducible refine (cA _).mono ?_); rintro e w' ⟨rfl, rfl⟩) | (go_at_call 20; (with_reducible refine (cB _).mono ?_); rintro e w' ⟨rfl, rfl⟩) | (go_at_call 20; (with_reducible refine (cC _).mono ?_); rintro e w' ⟨rfl, rfl⟩))
    go_ret
    exact ⟨rfl, HB.out⟩
  rw [hX] at cX
  cases hY : inB Y (-1000) 1000
  · rw [hY] at cY
    have hr : shapeB 2 X Y A B C V = false := by unfold shapeB; rw [hl, hk]; simp [*]
    rw [hr]
    clear hr hk hl hX hY
    go_enter Try.func6, Try.ntmps6
    go_wp2_with (first | (go_at_call 20; (with_reducible refine (cX _).mono ?_); rintro e w' ⟨rfl, rfl⟩) | (go_at_call 20; (with_reducible refine (cY _).mono ?_); rintro e w' ⟨rfl, rfl⟩) | (go_at_call 20; (with_reducible refine (cV _).mono ?_); rintro e w' ⟨rfl, rfl⟩) | (go_at_call 20; (with_reducible refine (cA _).mono ?_); rintro e w' ⟨rfl, rfl⟩) | (go_at_call 20; (with_reducible refine (cB _).mono ?_); rintro e w' ⟨rfl, rfl⟩) | (go_at_call 20; (with_reducible refine (cC _).mono ?_); rintro e w' ⟨rfl, rfl⟩))
    go_ret
    exact ⟨rfl, HB.out⟩
  rw [hY] at cY
  cases hV : inB V (-1000) 1000
  · rw [hV] at cV
    have hr : shapeB 2 X Y A B C V = false := by unfold shapeB; rw [hl, hk]; simp [*]
    rw [hr]
    clear hr hk hl hX hY hV
    go_enter Try.func6, Try.ntmps6
    go_wp2_with (first | (go_at_call 20; (with_reducible refine (cX _).mono ?_); rintro e w' ⟨rfl, rfl⟩) | (go_at_call 20; (with_reducible refine (cY _).mono ?_); rintro e w' ⟨rfl, rfl⟩) | (go_at_call 20; (with_reducible refine (cV _).mono ?_); rintro e w' ⟨rfl, rfl⟩) | (go_at_call 20; (with_reducible refine (cA _).mono ?_); rintro e w' ⟨rfl, rfl⟩) | (go_at_call 20; (with_reducible refine (cB _).mono ?_); rintro e w' ⟨rfl, rfl⟩) | (go_at_call 20; (with_reducible refine (cC _).mono ?_); rintro e w' ⟨rfl, rfl⟩))
    go_ret
    exact ⟨rfl, HB.out⟩
  rw [hV] at cV
  cases hA : inB A 0 1000
  · rw [hA] at cA
    have hr : shapeB 2 X Y A B C V = false := by unfold shapeB; rw [hl, hk]; simp [*]
    rw [hr]
    clear hr hk hl hX hY hV hA
    go_enter Try.func6, Try.ntmps6
    go_wp2_with (first | (go_at_call 20; (with_reducible refine (cX _).mono ?_); rintro e w' ⟨rfl, rfl⟩) | (go_at_call 20; (with_reducible refine (cY _).mono ?_); rintro e w' ⟨rfl, rfl⟩) | (go_at_call 20; (with_reducible refine (cV _).mono ?_); rintro e w' ⟨rfl, rfl⟩) | (go_at_call 20; (with_reducible refine (cA _).mono ?_); rintro e w' ⟨rfl, rfl⟩) | (go_at_call 20; (with_reducible refine (cB _).mono ?_); rintro e w' ⟨rfl, rfl⟩) | (go_at_call 20; (with_reducible refine (cC _).mono ?_); rintro e w' ⟨rfl, rfl⟩))
    go_ret
    exact ⟨rfl, HB.out⟩
  rw [hA] at cA
  cases hB : inB B 0 1000
  · rw [hB] at cB
    have hr : shapeB 2 X Y A B C V = false := by unfold shapeB; rw [hl, hk]; simp [*]
    rw [hr]
    clear hr hk hl hX hY hV hA hB
    go_enter Try.func6, Try.ntmps6
    go_wp2_with (first | (go_at_call 20; (with_reducible refine (cX _).mono ?_); rintro e w' ⟨rfl, rfl⟩) | (go_at_call 20; (with_reducible refine (cY _).mono ?_); rintro e w' ⟨rfl, rfl⟩) | (go_at_call 20; (with_reducible refine (cV _).mono ?_); rintro e w' ⟨rfl, rfl⟩) | (go_at_call 20; (with_reducible refine (cA _).mono ?_); rintro e w' ⟨rfl, rfl⟩) | (go_at_call 20; (with_reducible refine (cB _).mono ?_); rintro e w' ⟨rfl, rfl⟩) | (go_at_call 20; (with_reducible refine (cC _).mono ?_); rintro e w' ⟨rfl, rfl⟩))
    go_ret
    exact ⟨rfl, HB.out⟩
  rw [hB] at cB
  cases hC : inB C 0 1000
  · rw [hC] at cC
    have hr : shapeB 2 X Y A B C V = false := by unfold shapeB; rw [hl, hk]; simp [*]
    rw [hr]
    clear hr hk hl hX hY hV hA hB hC
    go_enter Try.func6, Try.ntmps6
    go_wp2_with (first | (go_at_call 20; (with_reducible refine (cX _).mono ?_); rintro e w' ⟨rfl, rfl⟩) | (go_at_call 20; (with_reducible refine (cY _).mono ?_); rintro e w' ⟨rfl, rfl⟩) | (go_at_call 20; (with_reducible refine (cV _).mono ?_); rintro e w' ⟨rfl, rfl⟩) | (go_at_call 20; (with_reducible refine (cA _).mono ?_); rintro e w' ⟨rfl, rfl⟩) | (go_at_call 20; (with_reducible refine (cB _).mono ?_); rintro e w' ⟨rfl, rfl⟩) | (go_at_call 20; (with_reducible refine (cC _).mono ?_); rintro e w' ⟨rfl, rfl⟩))
    go_ret
    exact ⟨rfl, HB.out⟩
  rw [hC] at cC
  by_cases gA : 1 ≤ A
  case neg =>
    have hr : shapeB 2 X Y A B C V = false := by unfold shapeB; rw [hl, hk]; simp [*]
    rw [hr]
    clear hr hk hl hX hY hV hA hB hC
    go_enter Try.func6, Try.ntmps6
    go_wp2_with (first | (go_at_call 20; (with_reducible refine (cX _).mono ?_); rintro e w' ⟨rfl, rfl⟩) | (go_at_call 20; (with_reducible refine (cY _).mono ?_); rintro e w' ⟨rfl, rfl⟩) | (go_at_call 20; (with_reducible refine (cV _).mono ?_); rintro e w' ⟨rfl, rfl⟩) | (go_at_call 20; (with_reducible refine (cA _).mono ?_); rintro e w' ⟨rfl, rfl⟩) | (go_at_call 20; (with_reducible refine (cB _).mono ?_); rintro e w' ⟨rfl, rfl⟩) | (go_at_call 20; (with_reducible refine (cC _).mono ?_); rintro e w' ⟨rfl, rfl⟩))
    go_ret
    exact ⟨rfl, HB.out⟩
  by_cases gB : 1 ≤ B
  case neg =>
    have hr : shapeB 2 X Y A B C V = false := by unfold shapeB; rw [hl, hk]; simp [*]
    rw [hr]
    clear hr hk hl hX hY hV hA hB hC
    go_enter Try.func6, Try.ntmps6
    go_wp2_with (first | (go_at_call 20; (with_reducible refine (cX _).mono ?_); rintro e w' ⟨rfl, rfl⟩) | (go_at_call 20; (with_reducible refine (cY _).mono ?_); rintro e w' ⟨rfl, rfl⟩) | (go_at_call 20; (with_reducible refine (cV _).mono ?_); rintro e w' ⟨rfl, rfl⟩) | (go_at_call 20; (with_reducible refine (cA _).mono ?_); rintro e w' ⟨rfl, rfl⟩) | (go_at_call 20; (with_reducible refine (cB _).mono ?_); rintro e w' ⟨rfl, rfl⟩) | (go_at_call 20; (with_reducible refine (cC _).mono ?_); rintro e w' ⟨rfl, rfl⟩))
    go_ret
    exact ⟨rfl, HB.out⟩
  have hr : shapeB 2 X Y A B C V = (C == 0) := by unfold shapeB; rw [hl, hk]; simp [*]
  rw [hr]
  clear hr hk hl hX hY hV hA hB hC
  go_enter Try.func6, Try.ntmps6
  go_wp2_with (first | (go_at_call 20; (with_reducible refine (cX _).mono ?_); rintro e w' ⟨rfl, rfl⟩) | (go_at_call 20; (with_reducible refine (cY _).mono ?_); rintro e w' ⟨rfl, rfl⟩) | (go_at_call 20; (with_reducible refine (cV _).mono ?_); rintro e w' ⟨rfl, rfl⟩) | (go_at_call 20; (with_reducible refine (cA _).mono ?_); rintro e w' ⟨rfl, rfl⟩) | (go_at_call 20; (with_reducible refine (cB _).mono ?_); rintro e w' ⟨rfl, rfl⟩) | (go_at_call 20; (with_reducible refine (cC _).mono ?_); rintro e w' ⟨rfl, rfl⟩))
  go_ret
  exact ⟨rfl, HB.out⟩

set_option maxHeartbeats 1000000 in
theorem specShape3 (X Y A B C V : Int) (w : World) :
    Calls Try.prog 6 #[sh 3 X Y A B C V] w fun e w' => e = .returned (.bool (shapeB 3 X Y A B C V)) ∧ Below w.heap.size w w' := by
  have HB : Hid (Below w.heap.size w (w.alloc (shCells 3 X Y A B C V 28))) := (Below.refl _ _).alloc (Nat.le_refl _) _
  have cX := l1In_any X (-1000) 1000
  have cY := l1In_any Y (-1000) 1000
  have cV := l1In_any V (-1000) 1000
  have cA := l1In_any A (-1000) 1000
  have cB := l1In_any B (-1000) 1000
  have cC := l1In_any C 0 1000
  have hl : low 3 = (-1000) := rfl
  have hk : kindB 3 A B C = (A != 0 || B != 0) := rfl
  cases hX : inB X (-1000) 1000
  · rw [hX] at cX
    have hr : shapeB 3 X Y A B C V = false := by unfold shapeB; rw [hl, hk]; simp [*]
    rw [hr]
    clear hr hk hl hX
    go_enter Try.func6, Try.ntmps6
    go_wp2_with (first | (go_at_call 20; (with_reducible refine (cX _).mono ?_); rintro e w' ⟨rfl, rfl⟩) | (go_at_call 20; (with_reducible refine (cY _).mono ?_); rintro e w' ⟨rfl, rfl⟩) | (go_at_call 20; (with_reducible refine (cV _).mono ?_); rintro e w' ⟨rfl, rfl⟩) | (go_at_call 20; (with_reducible refine (cA _).mono ?_); rintro e w' ⟨rfl, rfl⟩) | (go_at_call 20; (with_reducible refine (cB _).mono ?_); rintro e w' ⟨rfl, rfl⟩) | (go_at_call 20; (with_reducible refine (cC _).mono ?_); rintro e w' ⟨rfl, rfl⟩))
    go_ret
    exact ⟨rfl, HB.out⟩
  rw [hX] at cX
  cases hY : inB Y (-1000) 1000
  · rw [hY] at cY
    have hr : shapeB 3 X Y A B C V = false := by unfold shapeB; rw [hl, hk]; simp [*]
    rw [hr]
    clear hr hk hl hX hY
    go_enter Try.func6, Try.ntmps6
    go_wp2_with (first | (go_at_call 20; (with_reducible refine (cX _).mono ?_); rintro e w' ⟨rfl, rfl⟩) | (go_at_call 20; (with_reducible refine (cY _).mono ?_); rintro e w' ⟨rfl, rfl⟩) | (go_at_call 20; (with_reducible refine (cV _).mono ?_); rintro e w' ⟨rfl, rfl⟩) | (go_at_call 20; (with_reducible refine (cA _).mono ?_); rintro e w' ⟨rfl, rfl⟩) | (go_at_call 20; (with_reducible refine (cB _).mono ?_); rintro e w' ⟨rfl, rfl⟩) | (go_at_call 20; (with_reducible refine (cC _).mono ?_); rintro e w' ⟨rfl, rfl⟩))
    go_ret
    exact ⟨rfl, HB.out⟩
  rw [hY] at cY
  cases hV : inB V (-1000) 1000
  · rw [hV] at cV
    have hr : shapeB 3 X Y A B C V = false := by unfold shapeB; rw [hl, hk]; simp [*]
    rw [hr]
    clear hr hk hl hX hY hV
    go_enter Try.func6, Try.ntmps6
    go_wp2_with (first | (go_at_call 20; (with_reducible refine (cX _).mono ?_); rintro e w' ⟨rfl, rfl⟩) | (go_at_call 20; (with_reducible refine (cY _).mono ?_); rintro e w' ⟨rfl, rfl⟩) | (go_at_call 20; (with_reducible refine (cV _).mono ?_); rintro e w' ⟨rfl, rfl⟩) | (go_at_call 20; (with_reducible refine (cA _).mono ?_); rintro e w' ⟨rfl, rfl⟩) | (go_at_call 20; (with_reducible refine (cB _).mono ?_); rintro e w' ⟨rfl, rfl⟩) | (go_at_call 20; (with_reducible refine (cC _).mono ?_); rintro e w' ⟨rfl, rfl⟩))
    go_ret
    exact ⟨rfl, HB.out⟩
  rw [hV] at cV
  cases hA : inB A (-1000) 1000
  · rw [hA] at cA
    have hr : shapeB 3 X Y A B C V = false := by unfold shapeB; rw [hl, hk]; simp [*]
    rw [hr]
    clear hr hk hl hX hY hV hA
    go_enter Try.func6, Try.ntmps6
    go_wp2_with (first | (go_at_call 20; (with_reducible refine (cX _).mono ?_); rintro e w' ⟨rfl, rfl⟩) | (go_at_call 20; (with_reducible refine (cY _).mono ?_); rintro e w' ⟨rfl, rfl⟩) | (go_at_call 20; (with_reducible refine (cV _).mono ?_); rintro e w' ⟨rfl, rfl⟩) | (go_at_call 20; (with_reducible refine (cA _).mono ?_); rintro e w' ⟨rfl, rfl⟩) | (go_at_call 20; (with_reducible refine (cB _).mono ?_); rintro e w' ⟨rfl, rfl⟩) | (go_at_call 20; (with_reducible refine (cC _).mono ?_); rintro e w' ⟨rfl, rfl⟩))
    go_ret
    exact ⟨rfl, HB.out⟩
  rw [hA] at cA
  cases hB : inB B (-1000) 1000
  · rw [hB] at cB
    have hr : shapeB 3 X Y A B C V = false := by unfold shapeB; rw [hl, hk]; simp [*]
    rw [hr]
    clear hr hk hl hX hY hV hA hB
    go_enter Try.func6, Try.ntmps6
    go_wp2_with (first | (go_at_call 20; (with_reducible refine (cX _).mono ?_); rintro e w' ⟨rfl, rfl⟩) | (go_at_call 20; (with_reducible refine (cY _).mono ?_); rintro e w' ⟨rfl, rfl⟩) | (go_at_call 20; (with_reducible refine (cV _).mono ?_); rintro e w' ⟨rfl, rfl⟩) | (go_at_call 20; (with_reducible refine (cA _).mono ?_); rintro e w' ⟨rfl, rfl⟩) | (go_at_call 20; (with_reducible refine (cB _).mono ?_); rintro e w' ⟨rfl, rfl⟩) | (go_at_call 20; (with_reducible refine (cC _).mono ?_); rintro e w' ⟨rfl, rfl⟩))
    go_ret
    exact ⟨rfl, HB.out⟩
  rw [hB] at cB
  cases hC : inB C 0 1000
  · rw [hC] at cC
    have hr : shapeB 3 X Y A B C V = false := by unfold shapeB; rw [hl, hk]; simp [*]
    rw [hr]
    clear hr hk hl hX hY hV hA hB hC
    go_enter Try.func6, Try.ntmps6
    go_wp2_with (first | (go_at_call 20; (with_reducible refine (cX _).mono ?_); rintro e w' ⟨rfl, rfl⟩) | (go_at_call 20; (with_reducible refine (cY _).mono ?_); rintro e w' ⟨rfl, rfl⟩) | (go_at_call 20; (with_reducible refine (cV _).mono ?_); rintro e w' ⟨rfl, rfl⟩) | (go_at_call 20; (with_reducible refine (cA _).mono ?_); rintro e w' ⟨rfl, rfl⟩) | (go_at_call 20; (with_reducible refine (cB _).mono ?_); rintro e w' ⟨rfl, rfl⟩) | (go_at_call 20; (with_reducible refine (cC _).mono ?_); rintro e w' ⟨rfl, rfl⟩))
    go_ret
    exact ⟨rfl, HB.out⟩
  rw [hC] at cC
  cases gA : (A != 0)
  case true =>
    have hr : shapeB 3 X Y A B C V = true := by unfold shapeB; rw [hl, hk]; simp [*]
    rw [hr]
    clear hr hk hl hX hY hV hA hB hC
    go_enter Try.func6, Try.ntmps6
    go_wp2_with (first | (go_at_call 20; (with_reducible refine (cX _).mono ?_); rintro e w' ⟨rfl, rfl⟩) | (go_at_call 20; (with_reducible refine (cY _).mono ?_); rintro e w' ⟨rfl, rfl⟩) | (go_at_call 20; (with_reducible refine (cV _).mono ?_); rintro e w' ⟨rfl, rfl⟩) | (go_at_call 20; (with_reducible refine (cA _).mono ?_); rintro e w' ⟨rfl, rfl⟩) | (go_at_call 20; (with_reducible refine (cB _).mono ?_); rintro e w' ⟨rfl, rfl⟩) | (go_at_call 20; (with_reducible refine (cC _).mono ?_); rintro e w' ⟨rfl, rfl⟩))
    go_ret
    exact ⟨rfl, HB.out⟩
  have hr : shapeB 3 X Y A B C V = (B != 0) := by unfold shapeB; rw [hl, hk]; simp [*]
  rw [hr]
  clear hr hk hl hX hY hV hA hB hC
  go_enter Try.func6, Try.ntmps6
  go_wp2_with (first | (go_at_call 20; (with_reducible refine (cX _).mono ?_); rintro e w' ⟨rfl, rfl⟩) | (go_at_call 20; (with_reducible refine (cY _).mono ?_); rintro e w' ⟨rfl, rfl⟩) | (go_at_call 20; (with_reducible refine (cV _).mono ?_); rintro e w' ⟨rfl, rfl⟩) | (go_at_call 20; (with_reducible refine (cA _).mono ?_); rintro e w' ⟨rfl, rfl⟩) | (go_at_call 20; (with_reducible refine (cB _).mono ?_); rintro e w' ⟨rfl, rfl⟩) | (go_at_call 20; (with_reducible refine (cC _).mono ?_); rintro e w' ⟨rfl, rfl⟩))
  go_ret
  exact ⟨rfl, HB.out⟩

set_option maxHeartbeats 1000000 in
theorem specShape4 (X Y A B C V : Int) (w : World) :
    Calls Try.prog 6 #[sh 4 X Y A B C V] w fun e w' => e = .returned (.bool (shapeB 4 X Y A B C V)) ∧ Below w.heap.size w w' := by
  have HB : Hid (Below w.heap.size w (w.alloc (shCells 4 X Y A B C V 28))) := (Below.refl _ _).alloc (Nat.le_refl _) _
  have cX := l1In_any X (-1000) 1000
  have cY := l1In_any Y (-1000) 1000
  have cV := l1In_any V (-1000) 1000
  have cA := l1In_any A 0 1000
  have cB := l1In_any B 0 1000
  have cC := l1In_any C 0 1000
  have hl : low 4 = 0 := rfl
  have hk : kindB 4 A B C = (decide (A ≤ B) && C == 0) := rfl
  cases hX : inB X (-1000) 1000
  · rw [hX] at cX
    have hr : shapeB 4 X Y A B C V = false := by unfold shapeB; rw [hl, hk]; simp [*]
    rw [hr]
    clear hr hk hl hX
    go_enter Try.func6, Try.ntmps6
    go_wp2_with (first | (go_at_call 20; (with_reducible refine (cX _).mono ?_); rintro e w' ⟨rfl, rfl⟩) | (go_at_call 20; (with_reducible refine (cY _).mono ?_); rintro e w' ⟨rfl, rfl⟩) | (go_at_call 20; (with_reducible refine (cV _).mono ?_); rintro e w' ⟨rfl, rfl⟩) | (go_at_call 20; (with_reducible refine (cA _).mono ?_); rintro e w' ⟨rfl, rfl⟩) | (go_at_call 20; (with_reducible refine (cB _).mono ?_); rintro e w' ⟨rfl, rfl⟩) | (go_at_call 20; (with_reducible refine (cC _).mono ?_); rintro e w' ⟨rfl, rfl⟩))
    go_ret
    exact ⟨rfl, HB.out⟩
  rw [hX] at cX
  cases hY : inB Y (-1000) 1000
  · rw [hY] at cY
    have hr : shapeB 4 X Y A B C V = false := by unfold shapeB; rw [hl, hk]; simp [*]
    rw [hr]
    clear hr hk hl hX hY
    go_enter Try.func6, Try.ntmps6
    go_wp2_with (first | (go_at_call 20; (with_reducible refine (cX _).mono ?_); rintro e w' ⟨rfl, rfl⟩) | (go_at_call 20; (with_reducible refine (cY _).mono ?_); rintro e w' ⟨rfl, rfl⟩) | (go_at_call 20; (with_reducible refine (cV _).mono ?_); rintro e w' ⟨rfl, rfl⟩) | (go_at_call 20; (with_reducible refine (cA _).mono ?_); rintro e w' ⟨rfl, rfl⟩) | (go_at_call 20; (with_reducible refine (cB _).mono ?_); rintro e w' ⟨rfl, rfl⟩) | (go_at_call 20; (with_reducible refine (cC _).mono ?_); rintro e w' ⟨rfl, rfl⟩))
    go_ret
    exact ⟨rfl, HB.out⟩
  rw [hY] at cY
  cases hV : inB V (-1000) 1000
  · rw [hV] at cV
    have hr : shapeB 4 X Y A B C V = false := by unfold shapeB; rw [hl, hk]; simp [*]
    rw [hr]
    clear hr hk hl hX hY hV
    go_enter Try.func6, Try.ntmps6
    go_wp2_with (first | (go_at_call 20; (with_reducible refine (cX _).mono ?_); rintro e w' ⟨rfl, rfl⟩) | (go_at_call 20; (with_reducible refine (cY _).mono ?_); rintro e w' ⟨rfl, rfl⟩) | (go_at_call 20; (with_reducible refine (cV _).mono ?_); rintro e w' ⟨rfl, rfl⟩) | (go_at_call 20; (with_reducible refine (cA _).mono ?_); rintro e w' ⟨rfl, rfl⟩) | (go_at_call 20; (with_reducible refine (cB _).mono ?_); rintro e w' ⟨rfl, rfl⟩) | (go_at_call 20; (with_reducible refine (cC _).mono ?_); rintro e w' ⟨rfl, rfl⟩))
    go_ret
    exact ⟨rfl, HB.out⟩
  rw [hV] at cV
  cases hA : inB A 0 1000
  · rw [hA] at cA
    have hr : shapeB 4 X Y A B C V = false := by unfold shapeB; rw [hl, hk]; simp [*]
    rw [hr]
    clear hr hk hl hX hY hV hA
    go_enter Try.func6, Try.ntmps6
    go_wp2_with (first | (go_at_call 20; (with_reducible refine (cX _).mono ?_); rintro e w' ⟨rfl, rfl⟩) | (go_at_call 20; (with_reducible refine (cY _).mono ?_); rintro e w' ⟨rfl, rfl⟩) | (go_at_call 20; (with_reducible refine (cV _).mono ?_); rintro e w' ⟨rfl, rfl⟩) | (go_at_call 20; (with_reducible refine (cA _).mono ?_); rintro e w' ⟨rfl, rfl⟩) | (go_at_call 20; (with_reducible refine (cB _).mono ?_); rintro e w' ⟨rfl, rfl⟩) | (go_at_call 20; (with_reducible refine (cC _).mono ?_); rintro e w' ⟨rfl, rfl⟩))
    go_ret
    exact ⟨rfl, HB.out⟩
  rw [hA] at cA
  cases hB : inB B 0 1000
  · rw [hB] at cB
    have hr : shapeB 4 X Y A B C V = false := by unfold shapeB; rw [hl, hk]; simp [*]
    rw [hr]
    clear hr hk hl hX hY hV hA hB
    go_enter Try.func6, Try.ntmps6
    go_wp2_with (first | (go_at_call 20; (with_reducible refine (cX _).mono ?_); rintro e w' ⟨rfl, rfl⟩) | (go_at_call 20; (with_reducible refine (cY _).mono ?_); rintro e w' ⟨rfl, rfl⟩) | (go_at_call 20; (with_reducible refine (cV _).mono ?_); rintro e w' ⟨rfl, rfl⟩) | (go_at_call 20; (with_reducible refine (cA _).mono ?_); rintro e w' ⟨rfl, rfl⟩) | (go_at_call 20; (with_reducible refine (cB _).mono ?_); rintro e w' ⟨rfl, rfl⟩) | (go_at_call 20; (with_reducible refine (cC _).mono ?_); rintro e w' ⟨rfl, rfl⟩))
    go_ret
    exact ⟨rfl, HB.out⟩
  rw [hB] at cB
  cases hC : inB C 0 1000
  · rw [hC] at cC
    have hr : shapeB 4 X Y A B C V = false := by unfold shapeB; rw [hl, hk]; simp [*]
    rw [hr]
    clear hr hk hl hX hY hV hA hB hC
    go_enter Try.func6, Try.ntmps6
    go_wp2_with (first | (go_at_call 20; (with_reducible refine (cX _).mono ?_); rintro e w' ⟨rfl, rfl⟩) | (go_at_call 20; (with_reducible refine (cY _).mono ?_); rintro e w' ⟨rfl, rfl⟩) | (go_at_call 20; (with_reducible refine (cV _).mono ?_); rintro e w' ⟨rfl, rfl⟩) | (go_at_call 20; (with_reducible refine (cA _).mono ?_); rintro e w' ⟨rfl, rfl⟩) | (go_at_call 20; (with_reducible refine (cB _).mono ?_); rintro e w' ⟨rfl, rfl⟩) | (go_at_call 20; (with_reducible refine (cC _).mono ?_); rintro e w' ⟨rfl, rfl⟩))
    go_ret
    exact ⟨rfl, HB.out⟩
  rw [hC] at cC
  by_cases gA : A ≤ B
  case neg =>
    have hr : shapeB 4 X Y A B C V = false := by unfold shapeB; rw [hl, hk]; simp [*]
    rw [hr]
    clear hr hk hl hX hY hV hA hB hC
    go_enter Try.func6, Try.ntmps6
    go_wp2_with (first | (go_at_call 20; (with_reducible refine (cX _).mono ?_); rintro e w' ⟨rfl, rfl⟩) | (go_at_call 20; (with_reducible refine (cY _).mono ?_); rintro e w' ⟨rfl, rfl⟩) | (go_at_call 20; (with_reducible refine (cV _).mono ?_); rintro e w' ⟨rfl, rfl⟩) | (go_at_call 20; (with_reducible refine (cA _).mono ?_); rintro e w' ⟨rfl, rfl⟩) | (go_at_call 20; (with_reducible refine (cB _).mono ?_); rintro e w' ⟨rfl, rfl⟩) | (go_at_call 20; (with_reducible refine (cC _).mono ?_); rintro e w' ⟨rfl, rfl⟩))
    go_ret
    exact ⟨rfl, HB.out⟩
  have hr : shapeB 4 X Y A B C V = (C == 0) := by unfold shapeB; rw [hl, hk]; simp [*]
  rw [hr]
  clear hr hk hl hX hY hV hA hB hC
  go_enter Try.func6, Try.ntmps6
  go_wp2_with (first | (go_at_call 20; (with_reducible refine (cX _).mono ?_); rintro e w' ⟨rfl, rfl⟩) | (go_at_call 20; (with_reducible refine (cY _).mono ?_); rintro e w' ⟨rfl, rfl⟩) | (go_at_call 20; (with_reducible refine (cV _).mono ?_); rintro e w' ⟨rfl, rfl⟩) | (go_at_call 20; (with_reducible refine (cA _).mono ?_); rintro e w' ⟨rfl, rfl⟩) | (go_at_call 20; (with_reducible refine (cB _).mono ?_); rintro e w' ⟨rfl, rfl⟩) | (go_at_call 20; (with_reducible refine (cC _).mono ?_); rintro e w' ⟨rfl, rfl⟩))
  go_ret
  exact ⟨rfl, HB.out⟩

set_option maxHeartbeats 1000000 in
theorem specShapeo (K : Int) (k1 : K ≠ 1) (k2 : K ≠ 2) (k3 : K ≠ 3) (k4 : K ≠ 4) (X Y A B C V : Int) (w : World) :
    Calls Try.prog 6 #[sh K X Y A B C V] w fun e w' => e = .returned (.bool (shapeB K X Y A B C V)) ∧ Below w.heap.size w w' := by
  have HB : Hid (Below w.heap.size w (w.alloc (shCells K X Y A B C V 28))) := (Below.refl _ _).alloc (Nat.le_refl _) _
  have cX := l1In_any X (-1000) 1000
  have cY := l1In_any Y (-1000) 1000
  have cV := l1In_any V (-1000) 1000
  have cA := l1In_any A 0 1000
  have cB := l1In_any B 0 1000
  have cC := l1In_any C 0 1000
  have e1 : (K == 1) = false := by simp [k1]
  have e2 : (K == 2) = false := by simp [k2]
  have e3 : (K == 3) = false := by simp [k3]
  have e4 : (K == 4) = false := by simp [k4]
  have hl : low K = 0 := if_neg k3
  have hk : kindB K A B C = false := by unfold kindB; rw [if_neg k1, if_neg k2, if_neg k3, if_neg k4]
  clear k1 k2 k3 k4
  cases hX : inB X (-1000) 1000
  · rw [hX] at cX
    have hr : shapeB K X Y A B C V = false := by unfold shapeB; rw [hl, hk]; simp [*]
    rw [hr]
    clear hr hk hl hX
    go_enter Try.func6, Try.ntmps6
    go_wp2_with (first | (go_at_call 20; (with_reducible refine (cX _).mono ?_); rintro e w' ⟨rfl, rfl⟩) | (go_at_call 20; (with_reducible refine (cY _).mono ?_); rintro e w' ⟨rfl, rfl⟩) | (go_at_call 20; (with_reducible refine (cV _).mono ?_); rintro e w' ⟨rfl, rfl⟩) | (go_at_call 20; (with_reducible refine (cA _).mono ?_); rintro e w' ⟨rfl, rfl⟩) | (go_at_call 20; (with_reducible refine (cB _).mono ?_); rintro e w' ⟨rfl, rfl⟩) | (go_at_call 20; (with_reducible refine (cC _).mono ?_); rintro e w' ⟨rfl, rfl⟩))
    go_ret
    exact ⟨rfl, HB.out⟩
  rw [hX] at cX
  cases hY : inB Y (-1000) 1000
  · rw [hY] at cY
    have hr : shapeB K X Y A B C V = false := by unfold shapeB; rw [hl, hk]; simp [*]
    rw [hr]
    clear hr hk hl hX hY
    go_enter Try.func6, Try.ntmps6
    go_wp2_with (first | (go_at_call 20; (with_reducible refine (cX _).mono ?_); rintro e w' ⟨rfl, rfl⟩) | (go_at_call 20; (with_reducible refine (cY _).mono ?_); rintro e w' ⟨rfl, rfl⟩) | (go_at_call 20; (with_reducible refine (cV _).mono ?_); rintro e w' ⟨rfl, rfl⟩) | (go_at_call 20; (with_reducible refine (cA _).mono ?_); rintro e w' ⟨rfl, rfl⟩) | (go_at_call 20; (with_reducible refine (cB _).mono ?_); rintro e w' ⟨rfl, rfl⟩) | (go_at_call 20; (with_reducible refine (cC _).mono ?_); rintro e w' ⟨rfl, rfl⟩))
    go_ret
    exact ⟨rfl, HB.out⟩
  rw [hY] at cY
  cases hV : inB V (-1000) 1000
  · rw [hV] at cV
    have hr : shapeB K X Y A B C V = false := by unfold shapeB; rw [hl, hk]; simp [*]
    rw [hr]
    clear hr hk hl hX hY hV
    go_enter Try.func6, Try.ntmps6
    go_wp2_with (first | (go_at_call 20; (with_reducible refine (cX _).mono ?_); rintro e w' ⟨rfl, rfl⟩) | (go_at_call 20; (with_reducible refine (cY _).mono ?_); rintro e w' ⟨rfl, rfl⟩) | (go_at_call 20; (with_reducible refine (cV _).mono ?_); rintro e w' ⟨rfl, rfl⟩) | (go_at_call 20; (with_reducible refine (cA _).mono ?_); rintro e w' ⟨rfl, rfl⟩) | (go_at_call 20; (with_reducible refine (cB _).mono ?_); rintro e w' ⟨rfl, rfl⟩) | (go_at_call 20; (with_reducible refine (cC _).mono ?_); rintro e w' ⟨rfl, rfl⟩))
    go_ret
    exact ⟨rfl, HB.out⟩
  rw [hV] at cV
  cases hA : inB A 0 1000
  · rw [hA] at cA
    have hr : shapeB K X Y A B C V = false := by unfold shapeB; rw [hl, hk]; simp [*]
    rw [hr]
    clear hr hk hl hX hY hV hA
    go_enter Try.func6, Try.ntmps6
    go_wp2_with (first | (go_at_call 20; (with_reducible refine (cX _).mono ?_); rintro e w' ⟨rfl, rfl⟩) | (go_at_call 20; (with_reducible refine (cY _).mono ?_); rintro e w' ⟨rfl, rfl⟩) | (go_at_call 20; (with_reducible refine (cV _).mono ?_); rintro e w' ⟨rfl, rfl⟩) | (go_at_call 20; (with_reducible refine (cA _).mono ?_); rintro e w' ⟨rfl, rfl⟩) | (go_at_call 20; (with_reducible refine (cB _).mono ?_); rintro e w' ⟨rfl, rfl⟩) | (go_at_call 20; (with_reducible refine (cC _).mono ?_); rintro e w' ⟨rfl, rfl⟩))
    go_ret
    exact ⟨rfl, HB.out⟩
  rw [hA] at cA
  cases hB : inB B 0 1000
  · rw [hB] at cB
    have hr : shapeB K X Y A B C V = false := by unfold shapeB; rw [hl, hk]; simp [*]
    rw [hr]
    clear hr hk hl hX hY hV hA hB
    go_enter Try.func6, Try.ntmps6
    go_wp2_with (first | (go_at_call 20; (with_reducible refine (cX _).mono ?_); rintro e w' ⟨rfl, rfl⟩) | (go_at_call 20; (with_reducible refine (cY _).mono ?_); rintro e w' ⟨rfl, rfl⟩) | (go_at_call 20; (with_reducible refine (cV _).mono ?_); rintro e w' ⟨rfl, rfl⟩) | (go_at_call 20; (with_reducible refine (cA _).mono ?_); rintro e w' ⟨rfl, rfl⟩) | (go_at_call 20; (with_reducible refine (cB _).mono ?_); rintro e w' ⟨rfl, rfl⟩) | (go_at_call 20; (with_reducible refine (cC _).mono ?_); rintro e w' ⟨rfl, rfl⟩))
    go_ret
    exact ⟨rfl, HB.out⟩
  rw [hB] at cB
  cases hC : inB C 0 1000
  · rw [hC] at cC
    have hr : shapeB K X Y A B C V = false := by unfold shapeB; rw [hl, hk]; simp [*]
    rw [hr]
    clear hr hk hl hX hY hV hA hB hC
    go_enter Try.func6, Try.ntmps6
    go_wp2_with (first | (go_at_call 20; (with_reducible refine (cX _).mono ?_); rintro e w' ⟨rfl, rfl⟩) | (go_at_call 20; (with_reducible refine (cY _).mono ?_); rintro e w' ⟨rfl, rfl⟩) | (go_at_call 20; (with_reducible refine (cV _).mono ?_); rintro e w' ⟨rfl, rfl⟩) | (go_at_call 20; (with_reducible refine (cA _).mono ?_); rintro e w' ⟨rfl, rfl⟩) | (go_at_call 20; (with_reducible refine (cB _).mono ?_); rintro e w' ⟨rfl, rfl⟩) | (go_at_call 20; (with_reducible refine (cC _).mono ?_); rintro e w' ⟨rfl, rfl⟩))
    go_ret
    exact ⟨rfl, HB.out⟩
  rw [hC] at cC
  have hr : shapeB K X Y A B C V = false := by unfold shapeB; rw [hl, hk]; simp [*]
  rw [hr]
  clear hr hk hl hX hY hV hA hB hC
  go_enter Try.func6, Try.ntmps6
  go_wp2_with (first | (go_at_call 20; (with_reducible refine (cX _).mono ?_); rintro e w' ⟨rfl, rfl⟩) | (go_at_call 20; (with_reducible refine (cY _).mono ?_); rintro e w' ⟨rfl, rfl⟩) | (go_at_call 20; (with_reducible refine (cV _).mono ?_); rintro e w' ⟨rfl, rfl⟩) | (go_at_call 20; (with_reducible refine (cA _).mono ?_); rintro e w' ⟨rfl, rfl⟩) | (go_at_call 20; (with_reducible refine (cB _).mono ?_); rintro e w' ⟨rfl, rfl⟩) | (go_at_call 20; (with_reducible refine (cC _).mono ?_); rintro e w' ⟨rfl, rfl⟩))
  go_ret
  exact ⟨rfl, HB.out⟩

theorem specShape_any (K X Y A B C V : Int) (w : World) :
    Calls Try.prog 6 #[sh K X Y A B C V] w fun e w' => e = .returned (.bool (shapeB K X Y A B C V)) ∧ Below w.heap.size w w' := by
  by_cases k1 : K = 1
  · subst k1; exact specShape1 X Y A B C V w
  by_cases k2 : K = 2
  · subst k2; exact specShape2 X Y A B C V w
  by_cases k3 : K = 3
  · subst k3; exact specShape3 X Y A B C V w
  by_cases k4 : K = 4
  · subst k4; exact specShape4 X Y A B C V w
  exact specShapeo K k1 k2 k3 k4 X Y A B C V w

end Go.Proofs.Ytedjnemijeaeoaa
