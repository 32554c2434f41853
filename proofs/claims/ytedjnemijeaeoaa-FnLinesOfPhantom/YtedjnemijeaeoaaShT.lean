/- Lists of shapes: when two are alike, whether all are right, the specification's density. -/
import Derived.Test.YtedjnemijeaeoaaIns3
namespace Go.Proofs.Ytedjnemijeaeoaa
open Go.RowKit

/-- a row of limits as a value -/
abbrev lm (a b c : Int) : Value := .agg #[.int .i64 a, .int .i64 b, .int .i64 c]
def lmA (K : Int) : Int := if K = 2 then 1 else if K = 3 then -1000 else 0
def lmC (K : Int) : Int := if K = 3 then 1000 else 0

theorem limits_any (K : Int) (w : World) :
    Calls Try.prog 49 #[.int .i64 K] w fun e w' => e = .returned (lm (lmA K) (lmA K) (lmC K)) ∧ Below w.heap.size w w' := by
  by_cases h2 : K = 2
  · subst h2
    go_enter Try.func49, Try.ntmps49
    go_wp2_with fail
    refine bodyPost_ret (v := lm 1 1 0) (by simp [results, Try.results49, go_sem]) rfl ⟨rfl, ?_⟩
    exact bnew _ _
  by_cases h3 : K = 3
  · subst h3
    go_enter Try.func49, Try.ntmps49
    go_wp2_with fail
    refine bodyPost_ret (v := lm (-1000) (-1000) 1000) (by simp [results, Try.results49, go_sem]) rfl ⟨rfl, ?_⟩
    exact bnew _ _
  have ea : lmA K = 0 := by unfold lmA; rw [if_neg h2, if_neg h3]
  have ec : lmC K = 0 := by unfold lmC; rw [if_neg h3]
  rw [ea, ec]
  go_enter Try.func49, Try.ntmps49
  go_wp2_with fail
  refine bodyPost_ret (v := lm 0 0 0) (by simp [results, Try.results49, go_sem]) rfl ⟨rfl, ?_⟩
  exact bnew _ _

theorem isKind_any (x : Int) (w : World) :
    Calls Try.prog 71 #[.int .i64 x] w fun e w' => e = .returned (.bool (inB x 1 4)) ∧ w' = w := by
  have hc := within_any x 1 4
  go_enter Try.func71, Try.ntmps71
  go_wp2_with fail
  refine (hc _).mono ?_
  rintro e w' ⟨rfl, rfl⟩
  go_wp2_with fail
  go_ret
  exact ⟨rfl, rfl⟩

/-- are a shape's numbers within its limits -/
def inL (K X Y A B C V a b c : Int) : Bool :=
  inB K 1 4 && (inB V (-1000) 1000 && (inB X (-1000) 1000 && (inB Y (-1000) 1000 && (inB A a 1000 && (inB B b 1000 && inB C 0 c)))))

set_option maxHeartbeats 1000000 in
theorem inLimits_any (K X Y A B C V a b c : Int) (w : World) :
    Calls Try.prog 66 #[sh K X Y A B C V, lm a b c] w fun e w' => e = .returned (.bool (inL K X Y A B C V a b c)) ∧ Below w.heap.size w w' := by
  have HB : Hid (Below w.heap.size w ((w.alloc (shCells K X Y A B C V 28)).alloc (.cells #[.int .i64 a, .int .i64 b, .int .i64 c] 81))) := ((Below.refl _ _).alloc (Nat.le_refl _) _).alloc (by simp) _
  have c1 := isKind_any K
  have c2 := within_any V (-1000) 1000
  have c3 := within_any X (-1000) 1000
  have c4 := within_any Y (-1000) 1000
  have c5 := within_any A a 1000
  have c6 := within_any B b 1000
  have c7 := within_any C 0 c
  cases h1 : inB K 1 4
  · have hr : inL K X Y A B C V a b c = false := by unfold inL; simp only [h1, Bool.false_and]
    rw [hr]
    rw [h1] at c1
    clear hr h1 c2 c3 c4 c5 c6 c7
    go_enter Try.func66, Try.ntmps66
    go_wp2_with fail
    refine (c1 _).mono ?_
    rintro e w' ⟨rfl, rfl⟩
    go_wp2_with fail
    go_ret
    exact ⟨rfl, HB.out⟩
  rw [h1] at c1
  cases h2 : inB V (-1000) 1000
  · have hr : inL K X Y A B C V a b c = false := by unfold inL; simp only [h1, h2, Bool.false_and, Bool.true_and]
    rw [hr]
    rw [h2] at c2
    clear hr h1 h2 c3 c4 c5 c6 c7
    go_enter Try.func66, Try.ntmps66
    go_wp2_with fail
    refine (c1 _).mono ?_
    rintro e w' ⟨rfl, rfl⟩
    go_wp2_with fail
    refine (c2 _).mono ?_
    rintro e w' ⟨rfl, rfl⟩
    go_wp2_with fail
    go_ret
    exact ⟨rfl, HB.out⟩
  rw [h2] at c2
  cases h3 : inB X (-1000) 1000
  · have hr : inL K X Y A B C V a b c = false := by unfold inL; simp only [h1, h2, h3, Bool.false_and, Bool.true_and]
    rw [hr]
    rw [h3] at c3
    clear hr h1 h2 h3 c4 c5 c6 c7
    go_enter Try.func66, Try.ntmps66
    go_wp2_with fail
    refine (c1 _).mono ?_
    rintro e w' ⟨rfl, rfl⟩
    go_wp2_with fail
    refine (c2 _).mono ?_
    rintro e w' ⟨rfl, rfl⟩
    go_wp2_with fail
    refine (c3 _).mono ?_
    rintro e w' ⟨rfl, rfl⟩
    go_wp2_with fail
    go_ret
    exact ⟨rfl, HB.out⟩
  rw [h3] at c3
  cases h4 : inB Y (-1000) 1000
  · have hr : inL K X Y A B C V a b c = false := by unfold inL; simp only [h1, h2, h3, h4, Bool.false_and, Bool.true_and]
    rw [hr]
    rw [h4] at c4
    clear hr h1 h2 h3 h4 c5 c6 c7
    go_enter Try.func66, Try.ntmps66
    go_wp2_with fail
    refine (c1 _).mono ?_
    rintro e w' ⟨rfl, rfl⟩
    go_wp2_with fail
    refine (c2 _).mono ?_
    rintro e w' ⟨rfl, rfl⟩
    go_wp2_with fail
    refine (c3 _).mono ?_
    rintro e w' ⟨rfl, rfl⟩
    go_wp2_with fail
    refine (c4 _).mono ?_
    rintro e w' ⟨rfl, rfl⟩
    go_wp2_with fail
    go_ret
    exact ⟨rfl, HB.out⟩
  rw [h4] at c4
  cases h5 : inB A a 1000
  · have hr : inL K X Y A B C V a b c = false := by unfold inL; simp only [h1, h2, h3, h4, h5, Bool.false_and, Bool.true_and]
    rw [hr]
    rw [h5] at c5
    clear hr h1 h2 h3 h4 h5 c6 c7
    go_enter Try.func66, Try.ntmps66
    go_wp2_with fail
    refine (c1 _).mono ?_
    rintro e w' ⟨rfl, rfl⟩
    go_wp2_with fail
    refine (c2 _).mono ?_
    rintro e w' ⟨rfl, rfl⟩
    go_wp2_with fail
    refine (c3 _).mono ?_
    rintro e w' ⟨rfl, rfl⟩
    go_wp2_with fail
    refine (c4 _).mono ?_
    rintro e w' ⟨rfl, rfl⟩
    go_wp2_with fail
    refine (c5 _).mono ?_
    rintro e w' ⟨rfl, rfl⟩
    go_wp2_with fail
    go_ret
    exact ⟨rfl, HB.out⟩
  rw [h5] at c5
  cases h6 : inB B b 1000
  · have hr : inL K X Y A B C V a b c = false := by unfold inL; simp only [h1, h2, h3, h4, h5, h6, Bool.false_and, Bool.true_and]
    rw [hr]
    rw [h6] at c6
    clear hr h1 h2 h3 h4 h5 h6 c7
    go_enter Try.func66, Try.ntmps66
    go_wp2_with fail
    refine (c1 _).mono ?_
    rintro e w' ⟨rfl, rfl⟩
    go_wp2_with fail
    refine (c2 _).mono ?_
    rintro e w' ⟨rfl, rfl⟩
    go_wp2_with fail
    refine (c3 _).mono ?_
    rintro e w' ⟨rfl, rfl⟩
    go_wp2_with fail
    refine (c4 _).mono ?_
    rintro e w' ⟨rfl, rfl⟩
    go_wp2_with fail
    refine (c5 _).mono ?_
    rintro e w' ⟨rfl, rfl⟩
    go_wp2_with fail
    refine (c6 _).mono ?_
    rintro e w' ⟨rfl, rfl⟩
    go_wp2_with fail
    go_ret
    exact ⟨rfl, HB.out⟩
  rw [h6] at c6
  have hr : inL K X Y A B C V a b c = inB C 0 c := by unfold inL; simp only [h1, h2, h3, h4, h5, h6, Bool.true_and]
  rw [hr]
  clear hr h1 h2 h3 h4 h5 h6
  go_enter Try.func66, Try.ntmps66
  go_wp2_with fail
  refine (c1 _).mono ?_
  rintro e w' ⟨rfl, rfl⟩
  go_wp2_with fail
  refine (c2 _).mono ?_
  rintro e w' ⟨rfl, rfl⟩
  go_wp2_with fail
  refine (c3 _).mono ?_
  rintro e w' ⟨rfl, rfl⟩
  go_wp2_with fail
  refine (c4 _).mono ?_
  rintro e w' ⟨rfl, rfl⟩
  go_wp2_with fail
  refine (c5 _).mono ?_
  rintro e w' ⟨rfl, rfl⟩
  go_wp2_with fail
  refine (c6 _).mono ?_
  rintro e w' ⟨rfl, rfl⟩
  go_wp2_with fail
  refine (c7 _).mono ?_
  rintro e w' ⟨rfl, rfl⟩
  go_wp2_with fail
  go_ret
  exact ⟨rfl, HB.out⟩

end Go.Proofs.Ytedjnemijeaeoaa

namespace Go.Proofs.Ytedjnemijeaeoaa
open Go.RowKit

/-- the outline of a shape as a value -/
def outl (K A B C : Int) : Value :=
  if K = 1 then .iface 94 (.agg #[.int .i64 A, .int .i64 B]) else if K = 2 then .iface 95 (.agg #[.int .i64 A, .int .i64 B]) else if K = 3 then .iface 97 (.agg #[.int .i64 A, .int .i64 B, .int .i64 C]) else .iface 99 (.agg #[.int .i64 A, .int .i64 B])

/-- is an outline sound -/
def soundB (K A B : Int) : Bool := if K = 3 then A != 0 || B != 0 else if K = 4 then decide (A ≤ B) else true

theorem outline1 (X Y A B C V : Int) (w : World) :
    Calls Try.prog 67 #[sh 1 X Y A B C V] w fun e w' => e = .returned (.iface 94 (.agg #[.int .i64 A, .int .i64 B])) ∧ Below w.heap.size w w' := by
  go_enter Try.func67, Try.ntmps67
  go_wp2_with fail
  go_ret
  exact ⟨rfl, bnew _ _⟩

theorem outline2 (X Y A B C V : Int) (w : World) :
    Calls Try.prog 67 #[sh 2 X Y A B C V] w fun e w' => e = .returned (.iface 95 (.agg #[.int .i64 A, .int .i64 B])) ∧ Below w.heap.size w w' := by
  go_enter Try.func67, Try.ntmps67
  go_wp2_with fail
  go_ret
  exact ⟨rfl, bnew _ _⟩

theorem outline3 (X Y A B C V : Int) (w : World) :
    Calls Try.prog 67 #[sh 3 X Y A B C V] w fun e w' => e = .returned (.iface 97 (.agg #[.int .i64 A, .int .i64 B, .int .i64 C])) ∧ Below w.heap.size w w' := by
  go_enter Try.func67, Try.ntmps67
  go_wp2_with fail
  go_ret
  exact ⟨rfl, bnew _ _⟩

theorem outline4 (X Y A B C V : Int) (w : World) :
    Calls Try.prog 67 #[sh 4 X Y A B C V] w fun e w' => e = .returned (.iface 99 (.agg #[.int .i64 A, .int .i64 B])) ∧ Below w.heap.size w w' := by
  go_enter Try.func67, Try.ntmps67
  go_wp2_with fail
  go_ret
  exact ⟨rfl, bnew _ _⟩

theorem ta95_98 (v : Value) (w : World) : (Instr.typeAssert (.iface 94 v) 77 97 true).run Try.prog w = .ok (.tuple #[.agg #[.int .i64 0, .int .i64 0, .int .i64 0], .bool false]) w := by kernel_rfl

theorem ta96_98 (v : Value) (w : World) : (Instr.typeAssert (.iface 95 v) 77 97 true).run Try.prog w = .ok (.tuple #[.agg #[.int .i64 0, .int .i64 0, .int .i64 0], .bool false]) w := by kernel_rfl

theorem ta100_98 (v : Value) (w : World) : (Instr.typeAssert (.iface 99 v) 77 97 true).run Try.prog w = .ok (.tuple #[.agg #[.int .i64 0, .int .i64 0, .int .i64 0], .bool false]) w := by kernel_rfl

theorem ta95_100 (v : Value) (w : World) : (Instr.typeAssert (.iface 94 v) 77 99 true).run Try.prog w = .ok (.tuple #[.agg #[.int .i64 0, .int .i64 0], .bool false]) w := by kernel_rfl

theorem ta96_100 (v : Value) (w : World) : (Instr.typeAssert (.iface 95 v) 77 99 true).run Try.prog w = .ok (.tuple #[.agg #[.int .i64 0, .int .i64 0], .bool false]) w := by kernel_rfl

theorem ta98 (v : Value) (w : World) : (Instr.typeAssert (.iface 97 v) 77 97 true).run Try.prog w = .ok (.tuple #[v, .bool true]) w := by kernel_rfl

theorem ta100 (v : Value) (w : World) : (Instr.typeAssert (.iface 99 v) 77 99 true).run Try.prog w = .ok (.tuple #[v, .bool true]) w := by kernel_rfl

theorem sound1 (A B : Int) (w : World) :
    Calls Try.prog 68 #[.iface 94 (.agg #[.int .i64 A, .int .i64 B])] w fun e w' => e = .returned (.bool true) ∧ Below w.heap.size w w' := by
  have t1 := ta95_98 (.agg #[.int .i64 A, .int .i64 B])
  have t2 := ta95_100 (.agg #[.int .i64 A, .int .i64 B])
  go_enter Try.func68, Try.ntmps68
  go_wp2_with fail
  go_ret
  exact ⟨rfl, by first | exact bnew _ _ | exact (bnew _ _).alloc (by simp) _⟩

theorem sound2 (A B : Int) (w : World) :
    Calls Try.prog 68 #[.iface 95 (.agg #[.int .i64 A, .int .i64 B])] w fun e w' => e = .returned (.bool true) ∧ Below w.heap.size w w' := by
  have t1 := ta96_98 (.agg #[.int .i64 A, .int .i64 B])
  have t2 := ta96_100 (.agg #[.int .i64 A, .int .i64 B])
  go_enter Try.func68, Try.ntmps68
  go_wp2_with fail
  go_ret
  exact ⟨rfl, by first | exact bnew _ _ | exact (bnew _ _).alloc (by simp) _⟩

theorem sound3 (A B C : Int) (w : World) :
    Calls Try.prog 68 #[.iface 97 (.agg #[.int .i64 A, .int .i64 B, .int .i64 C])] w fun e w' => e = .returned (.bool (A != 0 || B != 0)) ∧ Below w.heap.size w w' := by
  have t1 := ta98 (.agg #[.int .i64 A, .int .i64 B, .int .i64 C])
  by_cases h : A = 0
  · subst h
    go_enter Try.func68, Try.ntmps68
    go_wp2_with fail
    go_ret
    exact ⟨by simp, bnew _ _⟩
  · have h1 : (A != 0) = true := by simpa using h
    rw [h1]
    go_enter Try.func68, Try.ntmps68
    go_wp2_with fail
    go_ret
    exact ⟨rfl, bnew _ _⟩

theorem sound4 (A B : Int) (w : World) :
    Calls Try.prog 68 #[.iface 99 (.agg #[.int .i64 A, .int .i64 B])] w fun e w' => e = .returned (.bool (decide (A ≤ B))) ∧ Below w.heap.size w w' := by
  have t1 := ta100_98 (.agg #[.int .i64 A, .int .i64 B])
  have t2 := ta100 (.agg #[.int .i64 A, .int .i64 B])
  go_enter Try.func68, Try.ntmps68
  go_wp2_with fail
  go_ret
  exact ⟨rfl, by first | exact bnew _ _ | exact (bnew _ _).alloc (by simp) _⟩

theorem outline_any (K X Y A B C V : Int) (h : inB K 1 4 = true) (w : World) :
    Calls Try.prog 67 #[sh K X Y A B C V] w fun e w' => e = .returned (outl K A B C) ∧ Below w.heap.size w w' := by
  have : K = 1 ∨ K = 2 ∨ K = 3 ∨ K = 4 := by
    unfold inB at h
    simp only [Bool.and_eq_true, decide_eq_true_eq] at h
    omega
  rcases this with rfl | rfl | rfl | rfl
  · exact outline1 X Y A B C V w
  · exact outline2 X Y A B C V w
  · exact outline3 X Y A B C V w
  · exact outline4 X Y A B C V w

theorem sound_any (K A B C : Int) (h : inB K 1 4 = true) (w : World) :
    Calls Try.prog 68 #[outl K A B C] w fun e w' => e = .returned (.bool (soundB K A B)) ∧ Below w.heap.size w w' := by
  have : K = 1 ∨ K = 2 ∨ K = 3 ∨ K = 4 := by
    unfold inB at h
    simp only [Bool.and_eq_true, decide_eq_true_eq] at h
    omega
  rcases this with rfl | rfl | rfl | rfl
  · exact sound1 A B w
  · exact sound2 A B w
  · exact sound3 A B C w
  · exact sound4 A B w

/-- the limits of its own kind are what the specification asks -/
theorem shape_eq (K X Y A B C V : Int) : shapeB K X Y A B C V = (inL K X Y A B C V (lmA K) (lmA K) (lmC K) && soundB K A B) := by
  rw [Bool.eq_iff_iff]
  unfold shapeB inL soundB kindB low lmA lmC inB
  by_cases h1 : K = 1
  · subst h1; simp; omega
  by_cases h2 : K = 2
  · subst h2; simp; omega
  by_cases h3 : K = 3
  · subst h3; simp; omega
  by_cases h4 : K = 4
  · subst h4; simp; omega
  simp [h1, h2, h3, h4]
  omega

/-- what newOutline answers -/
def newOut (K X Y A B C V : Int) (e : Ending) : Prop :=
  if shapeB K X Y A B C V = true then e = .returned (.tuple #[outl K A B C, .bool true]) else ∃ v, e = .returned (.tuple #[v, .bool false])

set_option maxHeartbeats 400000 in
theorem newOutline_any (K X Y A B C V : Int) (w : World) :
    Calls Try.prog 48 #[sh K X Y A B C V, lm (lmA K) (lmA K) (lmC K)] w fun e w' => newOut K X Y A B C V e ∧ Below w.heap.size w w' := by
  have HB0 : Hid (Below w.heap.size w ((w.alloc (shCells K X Y A B C V 28)).alloc (.cells #[.int .i64 (lmA K), .int .i64 (lmA K), .int .i64 (lmC K)] 81))) := ((Below.refl _ _).alloc (Nat.le_refl _) _).alloc (by simp) _
  have HN0 : Hid (ShB w.heap.size K X Y A B C V ((w.alloc (shCells K X Y A B C V 28)).alloc (.cells #[.int .i64 (lmA K), .int .i64 (lmA K), .int .i64 (lmC K)] 81))) := (ShB.new _ _ _ _ _ _ _ _ _).below (bnew _ _)
  have cL := inLimits_any K X Y A B C V (lmA K) (lmA K) (lmC K)
  have HE := shape_eq K X Y A B C V
  cases hL : inL K X Y A B C V (lmA K) (lmA K) (lmC K)
  · rw [hL] at cL HE
    have HR : ∀ v, newOut K X Y A B C V (.returned (.tuple #[v, .bool false])) := fun v => by
      unfold newOut; rw [HE]; exact ⟨_, rfl⟩
    clear hL HE
    generalize lmA K = a at *
    generalize lmC K = c at *
    go_enter Try.func48, Try.ntmps48
    go_wp2_with fail
    refine (cL _).mono ?_
    rintro e w1 ⟨rfl, hb⟩
    have HB1 : Hid (Below w.heap.size w w1) := bnext HB0.out (Nat.le_refl _) hb
    clear hb cL HB0 HN0
    go_wp2_with fail
    go_ret2
    exact ⟨HR _, HB1.out⟩
  · have hK : inB K 1 4 = true := by
      unfold inL at hL
      simp only [Bool.and_eq_true] at hL
      exact hL.1
    rw [hL] at cL HE
    have cO := outline_any K X Y A B C V hK
    have cS := sound_any K A B C hK
    have HR : newOut K X Y A B C V (.returned (.tuple #[outl K A B C, .bool (soundB K A B)])) := by
      unfold newOut; rw [HE, Bool.true_and]
      cases soundB K A B
      · exact ⟨_, rfl⟩
      · rfl
    clear hL HE hK
    generalize lmA K = a at *
    generalize lmC K = c at *
    generalize outl K A B C = v at *
    generalize soundB K A B = s at *
    go_enter Try.func48, Try.ntmps48
    go_wp2_with fail
    refine (cL _).mono ?_
    rintro e w1 ⟨rfl, hb⟩
    have HB1 : Hid (Below w.heap.size w w1) := bnext HB0.out (Nat.le_refl _) hb
    obtain ⟨s0, s1, s2, s3, s4, s5, s6⟩ := HN0.out.below hb
    clear hb cL HB0 HN0
    go_wp2_with fail
    refine (cO _).mono ?_
    rintro e w2 ⟨rfl, hb⟩
    have HB2 : Hid (Below w.heap.size w w2) := bnext HB1.out (Nat.le_refl _) hb
    clear hb cO HB1 s0 s1 s2 s3 s4 s5 s6
    go_wp2_with fail
    refine (cS _).mono ?_
    rintro e w3 ⟨rfl, hb⟩
    have HB3 : Hid (Below w.heap.size w w3) := bnext HB2.out (Nat.le_refl _) hb
    clear hb cS HB2
    go_wp2_with fail
    go_ret2
    exact ⟨HR, HB3.out⟩

end Go.Proofs.Ytedjnemijeaeoaa

namespace Go.Proofs.Ytedjnemijeaeoaa
open Go.RowKit

theorem neg_wrap {A : Int} (h : A.natAbs ≤ 1000) : IntKind.i64.wrap (-A) = -A := wrapn (P := 1000) (by omega) (by omega)

theorem has1 (A B C d e : Int) (hA : A.natAbs ≤ 1000) (hB : B.natAbs ≤ 1000) (w : World) :
    Calls Try.prog 87 #[.agg #[.int .i64 A, .int .i64 B], .int .i64 d, .int .i64 e] w fun r w' => r = .returned (.bool (insB 1 A B C d e)) ∧ Below w.heap.size w w' := by
  have na := neg_wrap hA
  have nb := neg_wrap hB
  have c1 := within_any d (-A) A
  have c2 := within_any e (-B) B
  have hr : insB 1 A B C d e = (inB d (-A) A && inB e (-B) B) := rfl
  rw [hr]
  clear hr hA hB
  cases h : inB d (-A) A
  · rw [h] at c1
    clear h
    go_enter Try.func87, Try.ntmps87
    go_wp2_with fail
    refine (c1 _).mono ?_
    rintro e w' ⟨rfl, rfl⟩
    go_wp2_with fail
    go_ret
    exact ⟨rfl, bnew _ _⟩
  · rw [h] at c1
    clear h
    go_enter Try.func87, Try.ntmps87
    go_wp2_with fail
    refine (c1 _).mono ?_
    rintro e w' ⟨rfl, rfl⟩
    go_wp2_with fail
    refine (c2 _).mono ?_
    rintro e w' ⟨rfl, rfl⟩
    go_wp2_with fail
    go_ret
    exact ⟨rfl, bnew _ _⟩

theorem has2 (A B C d e : Int) (hA : A.natAbs ≤ 1000) (hB : B.natAbs ≤ 1000) (hd : d.natAbs ≤ 101000) (he : e.natAbs ≤ 101000) (w : World) :
    Calls Try.prog 88 #[.agg #[.int .i64 A, .int .i64 B], .int .i64 d, .int .i64 e] w fun r w' => r = .returned (.bool (insB 2 A B C d e)) ∧ Below w.heap.size w w' := by
  have m1 := natb hA hA
  have m2 := natb hB hB
  have m3 := natb m2 hd
  have m4 := natb m3 hd
  have m5 := natb m1 he
  have m6 := natb m5 he
  have m7 := nata m4 m6
  have m8 := natb m1 m2
  have v1 := wrapn m1 (by omega)
  have v2 := wrapn m2 (by omega)
  have v3 := wrapn m3 (by omega)
  have v4 := wrapn m4 (by omega)
  have v5 := wrapn m5 (by omega)
  have v6 := wrapn m6 (by omega)
  have v7 := wrapn m7 (by omega)
  have v8 := wrapn m8 (by omega)
  have hr : insB 2 A B C d e = decide (B * B * d * d + A * A * e * e ≤ A * A * (B * B)) := by
    rw [Int.mul_assoc (B * B), Int.mul_assoc (A * A)]; rfl
  rw [hr]
  clear hr hA hB hd he m1 m2 m3 m4 m5 m6 m7 m8
  go_enter Try.func88, Try.ntmps88
  go_wp2_with fail
  go_ret
  exact ⟨rfl, bnew _ _⟩

theorem has3 (A B C d e : Int) (hA : A.natAbs ≤ 1000) (hB : B.natAbs ≤ 1000) (hC : C.natAbs ≤ 1000) (hd : d.natAbs ≤ 101000) (he : e.natAbs ≤ 101000) (w : World) :
    Calls Try.prog 89 #[.agg #[.int .i64 A, .int .i64 B, .int .i64 C], .int .i64 d, .int .i64 e] w fun r w' => r = .returned (.bool (insB 3 A B C d e)) ∧ Below w.heap.size w w' := by
  have m1 := natb hA hd
  have m2 := natb hB he
  have m3 := nata m1 m2
  have v1 := wrapn m1 (by omega)
  have v2 := wrapn m2 (by omega)
  have v3 := wrapn m3 (by omega)
  have nc := neg_wrap hC
  have hr : insB 3 A B C d e = inB (A * d + B * e) (-C) C := rfl
  rw [hr]
  have c1 := within_any (A * d + B * e) (-C) C
  clear hr hA hB hd he hC m1 m2 m3
  go_enter Try.func89, Try.ntmps89
  go_wp2_with fail
  refine (c1 _).mono ?_
  rintro e w' ⟨rfl, rfl⟩
  go_wp2_with fail
  go_ret
  exact ⟨rfl, bnew _ _⟩

theorem has4 (A B C d e : Int) (hA : A.natAbs ≤ 1000) (hB : B.natAbs ≤ 1000) (hd : d.natAbs ≤ 101000) (he : e.natAbs ≤ 101000) (w : World) :
    Calls Try.prog 90 #[.agg #[.int .i64 A, .int .i64 B], .int .i64 d, .int .i64 e] w fun r w' => r = .returned (.bool (insB 4 A B C d e)) ∧ Below w.heap.size w w' := by
  have m1 := natb hd hd
  have m2 := natb he he
  have m3 := nata m1 m2
  have m4 := natb hA hA
  have m5 := natb hB hB
  have v1 := wrapn m1 (by omega)
  have v2 := wrapn m2 (by omega)
  have v3 := wrapn m3 (by omega)
  have v4 := wrapn m4 (by omega)
  have v5 := wrapn m5 (by omega)
  have hr : insB 4 A B C d e = inB (d * d + e * e) (A * A) (B * B) := rfl
  rw [hr]
  have c1 := within_any (d * d + e * e) (A * A) (B * B)
  clear hr hA hB hd he m1 m2 m3 m4 m5
  go_enter Try.func90, Try.ntmps90
  go_wp2_with fail
  refine (c1 _).mono ?_
  rintro e w' ⟨rfl, rfl⟩
  go_wp2_with fail
  go_ret
  exact ⟨rfl, bnew _ _⟩

end Go.Proofs.Ytedjnemijeaeoaa

namespace Go.Proofs.Ytedjnemijeaeoaa
open Go.RowKit
set_option maxRecDepth 100000
set_option maxHeartbeats 2000000

/-- what stands in the two slots behind newOutline -/
def Made (K X Y A B C V : Int) (v o : Value) : Prop :=
  (shapeB K X Y A B C V = true ∧ v = outl K A B C ∧ o = .bool true) ∨ (shapeB K X Y A B C V = false ∧ o = .bool false)

theorem newOut_made {K X Y A B C V : Int} {e : Ending} (h : newOut K X Y A B C V e) : ∃ v o, e = .returned (.tuple #[v, o]) ∧ Made K X Y A B C V v o := by
  unfold newOut at h
  split at h
  · exact ⟨_, _, h, .inl ⟨‹_›, rfl, rfl⟩⟩
  · obtain ⟨v, rfl⟩ := h
    exact ⟨_, _, rfl, .inr ⟨Bool.eq_false_iff.mpr ‹_›, rfl⟩⟩

theorem nil95 (A B : Int) (w : World) : (nilAhead 119 94 (.agg #[.int .i64 A, .int .i64 B]) "loop.example/g00050/impl.has").run Try.prog w = .ok (some false) w := by kernel_rfl
theorem met95 (A B : Int) (w : World) : (method 119 94 (.agg #[.int .i64 A, .int .i64 B]) "loop.example/g00050/impl.has").run Try.prog w = .ok (87, .agg #[.int .i64 A, .int .i64 B]) w := by kernel_rfl
theorem nil96 (A B : Int) (w : World) : (nilAhead 119 95 (.agg #[.int .i64 A, .int .i64 B]) "loop.example/g00050/impl.has").run Try.prog w = .ok (some false) w := by kernel_rfl
theorem met96 (A B : Int) (w : World) : (method 119 95 (.agg #[.int .i64 A, .int .i64 B]) "loop.example/g00050/impl.has").run Try.prog w = .ok (88, .agg #[.int .i64 A, .int .i64 B]) w := by kernel_rfl
theorem nil98 (A B C : Int) (w : World) : (nilAhead 119 97 (.agg #[.int .i64 A, .int .i64 B, .int .i64 C]) "loop.example/g00050/impl.has").run Try.prog w = .ok (some false) w := by kernel_rfl
theorem met98 (A B C : Int) (w : World) : (method 119 97 (.agg #[.int .i64 A, .int .i64 B, .int .i64 C]) "loop.example/g00050/impl.has").run Try.prog w = .ok (89, .agg #[.int .i64 A, .int .i64 B, .int .i64 C]) w := by kernel_rfl
theorem nil100 (A B : Int) (w : World) : (nilAhead 119 99 (.agg #[.int .i64 A, .int .i64 B]) "loop.example/g00050/impl.has").run Try.prog w = .ok (some false) w := by kernel_rfl
theorem met100 (A B : Int) (w : World) : (method 119 99 (.agg #[.int .i64 A, .int .i64 B]) "loop.example/g00050/impl.has").run Try.prog w = .ok (90, .agg #[.int .i64 A, .int .i64 B]) w := by kernel_rfl

end Go.Proofs.Ytedjnemijeaeoaa

namespace Go.Proofs.Ytedjnemijeaeoaa
open Go.RowKit
set_option maxRecDepth 100000
set_option maxHeartbeats 2000000

end Go.Proofs.Ytedjnemijeaeoaa

namespace Go.Proofs.Ytedjnemijeaeoaa
open Go.RowKit
set_option maxRecDepth 100000
set_option maxHeartbeats 2000000

/-- is the k-th shape of these cells right -/
def shG (g : Nat → Int) (k : Nat) : Bool := shapeB (g (k * 7)) (g (k * 7 + 1)) (g (k * 7 + 2)) (g (k * 7 + 3)) (g (k * 7 + 4)) (g (k * 7 + 5)) (g (k * 7 + 6))
/-- has it the point -/
def insG (g : Nat → Int) (x y : Int) (k : Nat) : Bool := insideB (g (k * 7)) (g (k * 7 + 1)) (g (k * 7 + 2)) (g (k * 7 + 3)) (g (k * 7 + 4)) (g (k * 7 + 5)) (g (k * 7 + 6)) x y
/-- the k-th shape as a value -/
abbrev shV (g : Nat → Int) (k : Nat) : Value := sh (g (k * 7)) (g (k * 7 + 1)) (g (k * 7 + 2)) (g (k * 7 + 3)) (g (k * 7 + 4)) (g (k * 7 + 5)) (g (k * 7 + 6))

theorem Px.seven {a : Option Addr} {len : Nat} {g : Nat → Int} {w : World} {k : Nat} (h : Px a (len * 7) g w) (hk : k < len) :
    ∃ b off, a = some ⟨b, off, none⟩ ∧ b < w.heap.size ∧ w.cell? ⟨b, off + k * 7, none⟩ = some (.int .i64 (g (k * 7))) ∧ w.cell? ⟨b, off + k * 7 + 1, none⟩ = some (.int .i64 (g (k * 7 + 1))) ∧ w.cell? ⟨b, off + k * 7 + 2, none⟩ = some (.int .i64 (g (k * 7 + 2))) ∧ w.cell? ⟨b, off + k * 7 + 3, none⟩ = some (.int .i64 (g (k * 7 + 3))) ∧ w.cell? ⟨b, off + k * 7 + 4, none⟩ = some (.int .i64 (g (k * 7 + 4))) ∧ w.cell? ⟨b, off + k * 7 + 5, none⟩ = some (.int .i64 (g (k * 7 + 5))) ∧ w.cell? ⟨b, off + k * 7 + 6, none⟩ = some (.int .i64 (g (k * 7 + 6))) := by
  rcases h with h | ⟨b, off, ha, hc⟩
  · omega
  · refine ⟨b, off, ha, World.block_lt_of_cell? w _ (hc (k * 7) (by omega)), hc (k * 7) (by omega), ?_, ?_, ?_, ?_, ?_, ?_⟩ <;> rw [Nat.add_assoc] <;> exact hc _ (by omega)

theorem Part.seven {b n k : Nat} {g : Nat → Int} {w : World} (h : Part b n k g w) (hk : k + 7 ≤ n) :
    Part b n (k + 7) g (((((((w.setCell ⟨b, k, none⟩ (.int .i64 (g k))).setCell ⟨b, k + 1, none⟩ (.int .i64 (g (k + 1)))).setCell ⟨b, k + 2, none⟩ (.int .i64 (g (k + 2)))).setCell ⟨b, k + 3, none⟩ (.int .i64 (g (k + 3)))).setCell ⟨b, k + 4, none⟩ (.int .i64 (g (k + 4)))).setCell ⟨b, k + 5, none⟩ (.int .i64 (g (k + 5)))).setCell ⟨b, k + 6, none⟩ (.int .i64 (g (k + 6)))) := by
  have h0 := h.step (by omega) (g k) rfl
  have h1 := h0.step (by omega) (g (k + 1)) rfl
  have h2 := h1.step (by omega) (g (k + 2)) rfl
  have h3 := h2.step (by omega) (g (k + 3)) rfl
  have h4 := h3.step (by omega) (g (k + 4)) rfl
  have h5 := h4.step (by omega) (g (k + 5)) rfl
  exact h5.step (by omega) (g (k + 6)) rfl

set_option maxRecDepth 100000 in
theorem make_sh (n : Nat) (h : n ≤ 1048576) (w : World) :
    (Instr.makeSlice 24 (.int .i64 n) (.int .i64 n)).run Try.prog w = .ok (.slice (some ⟨w.heap.size, 0, none⟩) n n) (w.alloc (.cells (madeCells #[.int .i64 0, .int .i64 0, .int .i64 0, .int .i64 0, .int .i64 0, .int .i64 0, .int .i64 0] (n * 7)) 28)) := by
  have := run_make (P := Try.prog) w 24 28 _ (sh 0 0 0 0 0 0 0) Try.underlying24 rfl rfl .i64 .i64 n n (by omega) (by omega) (by show (56 : Int) * _ ≤ _; omega) (by omega)
  rw [this]
  show Result.ok (Value.slice _ (n : Int).toNat (n : Int).toNat) (w.alloc (.cells (madeCells (Value.cells (sh 0 0 0 0 0 0 0)) ((n : Int).toNat * 7)) 28)) = _
  rw [Int.toNat_natCast]
  rfl

theorem made_sh (n k : Nat) (h : k < n) : (madeCells #[Value.int .i64 0, .int .i64 0, .int .i64 0, .int .i64 0, .int .i64 0, .int .i64 0, .int .i64 0] n)[k]? = some (.int .i64 0) := by
  unfold madeCells
  rw [Array.getElem?_map, Array.getElem?_range, if_pos h]
  show some ((#[Value.int .i64 0, .int .i64 0, .int .i64 0, .int .i64 0, .int .i64 0, .int .i64 0, .int .i64 0] : Array Value)[k % 7]!) = _
  have h2 : k % 7 = 0 ∨ k % 7 = 1 ∨ k % 7 = 2 ∨ k % 7 = 3 ∨ k % 7 = 4 ∨ k % 7 = 5 ∨ k % 7 = 6 := by omega
  rcases h2 with h2 | h2 | h2 | h2 | h2 | h2 | h2 <;> rw [h2] <;> rfl

theorem part_sh (n : Nat) (g : Nat → Int) (w : World) : Part w.heap.size n 0 g (w.alloc (.cells (madeCells #[.int .i64 0, .int .i64 0, .int .i64 0, .int .i64 0, .int .i64 0, .int .i64 0, .int .i64 0] n) 28)) := by
  intro j hj
  have := made_sh n j hj
  exact ⟨⟨0, by simp [go_sem, this], fun h => absurd h (Nat.not_lt_zero _)⟩, by simp [go_sem]⟩

end Go.Proofs.Ytedjnemijeaeoaa

namespace Go.Proofs.Ytedjnemijeaeoaa
open Go.RowKit
set_option maxRecDepth 100000
set_option maxHeartbeats 2000000

/-- few enough, and all right -/
def okS (g : Nat → Int) (n : Nat) : Bool := decide (n ≤ 64) && allG (shG g) n

set_option maxHeartbeats 8000000 in
theorem l2Ok_any (a : Option Addr) (len cap : Nat) (g : Nat → Int) (hl : len ≤ 1048576) (w : World) (h : Px a (len * 7) g w) :
    Calls Try.prog 25 #[.slice a len cap] w fun e w' => e = .returned (.bool (okS g len)) ∧ Below w.heap.size w w' := by
  have HP : Hid (Px a (len * 7) g w) := h
  clear h
  by_cases hm : 64 < len
  · have hr : okS g len = false := by unfold okS; rw [decide_eq_false (by omega)]; rfl
    rw [hr]
    clear HP hr
    go_enter Try.func25, Try.ntmps25
    go_wp2_with fail
    go_ret
    exact ⟨rfl, Below.refl _ _⟩
  · have hm' : ¬ (64 : Int) < (len : Int) := by omega
    have hr : okS g len = allG (shG g) len := by unfold okS; rw [decide_eq_true (by omega)]; rfl
    go_enter Try.func25, Try.ntmps25
    go_wp2
    go_loopw [3] (fun i wr => ∃ k : Nat, k ≤ len ∧ i = .int .i64 k ∧ allG (shG g) k = true ∧ Below w.heap.size w wr) (fun i _ => len - (intOf i).toNat)
    case atStart => exact ⟨0, by omega, rfl, rfl, Below.refl _ _⟩
    case round =>
      obtain ⟨k, hk, rfl, hall, hb⟩ := hrel
      by_cases hlt : k < len
      · obtain ⟨b, off, rfl, _, z0, z1, z2, z3, z4, z5, z6⟩ := (HP.out.below hb).seven hlt
        have hq := specShape_any (g (k * 7)) (g (k * 7 + 1)) (g (k * 7 + 2)) (g (k * 7 + 3)) (g (k * 7 + 4)) (g (k * 7 + 5)) (g (k * 7 + 6))
        cases hS : shG g k
        · rw [show shapeB (g (k * 7)) (g (k * 7 + 1)) (g (k * 7 + 2)) (g (k * 7 + 3)) (g (k * 7 + 4)) (g (k * 7 + 5)) (g (k * 7 + 6)) = false from hS] at hq
          have hn : okS g len = false := by rw [hr]; exact allG_no k hlt hS
          clear HP hS
          go_wp2_with fail
          refine (hq _).mono ?_
          rintro e w1 ⟨rfl, hb1⟩
          have HB1 : Hid (Below w.heap.size w w1) := bnext hb (Nat.le_refl _) hb1
          clear hb1 hb z0 z1 z2 z3 z4 z5 z6 hq
          go_wp2_with fail
          go_ret
          exact ⟨by rw [hn]; rfl, HB1.out⟩
        · rw [show shapeB (g (k * 7)) (g (k * 7 + 1)) (g (k * 7 + 2)) (g (k * 7 + 3)) (g (k * 7 + 4)) (g (k * 7 + 5)) (g (k * 7 + 6)) = true from hS] at hq
          have hn : allG (shG g) (k + 1) = true := by simp [allG, hall, hS]
          clear HP hS
          go_wp2_with fail
          refine (hq _).mono ?_
          rintro e w1 ⟨rfl, hb1⟩
          have HB1 : Hid (Below w.heap.size w w1) := bnext hb (Nat.le_refl _) hb1
          clear hb1 hb z0 z1 z2 z3 z4 z5 z6 hq
          go_wp2_with fail
          exact ⟨⟨k + 1, by omega, rfl, hn, HB1.out⟩, by simp [intOf]; omega⟩
      · obtain rfl : k = len := by omega
        go_wp2
        go_ret
        exact ⟨by rw [hr, hall]; rfl, hb⟩

/-- what the first n shapes give at a point -/
def dens (g : Nat → Int) (x y : Int) : Nat → Int
  | 0 => 0
  | n + 1 => dens g x y n + if insG g x y n = true then g (n * 7 + 6) else 0

theorem val_bound {g : Nat → Int} {n k : Nat} (h : okS g n = true) (hk : k < n) : (g (k * 7 + 6)).natAbs ≤ 1000 := by
  unfold okS at h
  simp only [Bool.and_eq_true] at h
  exact (shape_bounds (allG_at h.2 k hk)).2.2.2.2.2.1

theorem dens_bound {g : Nat → Int} {x y : Int} {n : Nat} (h : okS g n = true) : ∀ k, k ≤ n → (dens g x y k).natAbs ≤ 1000 * k
  | 0, _ => by simp [dens]
  | k + 1, hk => by
    have h1 := dens_bound (x := x) (y := y) h k (by omega)
    have h2 := val_bound h (k := k) (by omega)
    simp only [dens]
    split <;> omega

theorem okS_le {g : Nat → Int} {n : Nat} (h : okS g n = true) : n ≤ 64 := by
  unfold okS at h
  simp only [Bool.and_eq_true, decide_eq_true_eq] at h
  exact h.1

/-- what Density answers -/
def densB (g : Nat → Int) (n : Nat) (x y : Int) : Int := if (okS g n && (inB x (-100000) 100000 && inB y (-100000) 100000)) = true then dens g x y n else 0

end Go.Proofs.Ytedjnemijeaeoaa
