/- The program's outlines as values behind an interface. -/
import Derived.Test.YtadeajdjjcelhaaOut1
namespace Go.Proofs.Ytadeajdjjcelhaa
open Go.RowKit

/-- the outline of a shape as a value -/
def outl (K A B C : Int) : Value :=
  if K = 1 then .iface 96 (.agg #[.int .i64 A, .int .i64 B]) else if K = 2 then .iface 97 (.agg #[.int .i64 A, .int .i64 B]) else if K = 3 then .iface 99 (.agg #[.int .i64 A, .int .i64 B, .int .i64 C]) else .iface 101 (.agg #[.int .i64 A, .int .i64 B])

/-- is an outline sound -/
def soundB (K A B : Int) : Bool := if K = 3 then A != 0 || B != 0 else if K = 4 then decide (A ≤ B) else true

theorem outline1 (X Y A B C V : Int) (w : World) :
    Calls Try.prog 63 #[sh 1 X Y A B C V] w fun e w' => e = .returned (.iface 96 (.agg #[.int .i64 A, .int .i64 B])) ∧ Below w.heap.size w w' := by
  go_enter Try.func63, Try.ntmps63
  go_wp2_with fail
  go_ret
  exact ⟨rfl, bnew _ _⟩

theorem outline2 (X Y A B C V : Int) (w : World) :
    Calls Try.prog 63 #[sh 2 X Y A B C V] w fun e w' => e = .returned (.iface 97 (.agg #[.int .i64 A, .int .i64 B])) ∧ Below w.heap.size w w' := by
  go_enter Try.func63, Try.ntmps63
  go_wp2_with fail
  go_ret
  exact ⟨rfl, bnew _ _⟩

theorem outline3 (X Y A B C V : Int) (w : World) :
    Calls Try.prog 63 #[sh 3 X Y A B C V] w fun e w' => e = .returned (.iface 99 (.agg #[.int .i64 A, .int .i64 B, .int .i64 C])) ∧ Below w.heap.size w w' := by
  go_enter Try.func63, Try.ntmps63
  go_wp2_with fail
  go_ret
  exact ⟨rfl, bnew _ _⟩

theorem outline4 (X Y A B C V : Int) (w : World) :
    Calls Try.prog 63 #[sh 4 X Y A B C V] w fun e w' => e = .returned (.iface 101 (.agg #[.int .i64 A, .int .i64 B])) ∧ Below w.heap.size w w' := by
  go_enter Try.func63, Try.ntmps63
  go_wp2_with fail
  go_ret
  exact ⟨rfl, bnew _ _⟩

theorem ta95_98 (v : Value) (w : World) : (Instr.typeAssert (.iface 96 v) 74 99 true).run Try.prog w = .ok (.tuple #[.agg #[.int .i64 0, .int .i64 0, .int .i64 0], .bool false]) w := by kernel_rfl

theorem ta96_98 (v : Value) (w : World) : (Instr.typeAssert (.iface 97 v) 74 99 true).run Try.prog w = .ok (.tuple #[.agg #[.int .i64 0, .int .i64 0, .int .i64 0], .bool false]) w := by kernel_rfl

theorem ta100_98 (v : Value) (w : World) : (Instr.typeAssert (.iface 101 v) 74 99 true).run Try.prog w = .ok (.tuple #[.agg #[.int .i64 0, .int .i64 0, .int .i64 0], .bool false]) w := by kernel_rfl

theorem ta95_100 (v : Value) (w : World) : (Instr.typeAssert (.iface 96 v) 74 101 true).run Try.prog w = .ok (.tuple #[.agg #[.int .i64 0, .int .i64 0], .bool false]) w := by kernel_rfl

theorem ta96_100 (v : Value) (w : World) : (Instr.typeAssert (.iface 97 v) 74 101 true).run Try.prog w = .ok (.tuple #[.agg #[.int .i64 0, .int .i64 0], .bool false]) w := by kernel_rfl

theorem ta98 (v : Value) (w : World) : (Instr.typeAssert (.iface 99 v) 74 99 true).run Try.prog w = .ok (.tuple #[v, .bool true]) w := by kernel_rfl

theorem ta100 (v : Value) (w : World) : (Instr.typeAssert (.iface 101 v) 74 101 true).run Try.prog w = .ok (.tuple #[v, .bool true]) w := by kernel_rfl

theorem sound1 (A B : Int) (w : World) :
    Calls Try.prog 64 #[.iface 96 (.agg #[.int .i64 A, .int .i64 B])] w fun e w' => e = .returned (.bool true) ∧ Below w.heap.size w w' := by
  have t1 := ta95_98 (.agg #[.int .i64 A, .int .i64 B])
  have t2 := ta95_100 (.agg #[.int .i64 A, .int .i64 B])
  go_enter Try.func64, Try.ntmps64
  go_wp2_with fail
  go_ret
  exact ⟨rfl, by first | exact bnew _ _ | exact (bnew _ _).alloc (by simp) _⟩

theorem sound2 (A B : Int) (w : World) :
    Calls Try.prog 64 #[.iface 97 (.agg #[.int .i64 A, .int .i64 B])] w fun e w' => e = .returned (.bool true) ∧ Below w.heap.size w w' := by
  have t1 := ta96_98 (.agg #[.int .i64 A, .int .i64 B])
  have t2 := ta96_100 (.agg #[.int .i64 A, .int .i64 B])
  go_enter Try.func64, Try.ntmps64
  go_wp2_with fail
  go_ret
  exact ⟨rfl, by first | exact bnew _ _ | exact (bnew _ _).alloc (by simp) _⟩

theorem sound3 (A B C : Int) (w : World) :
    Calls Try.prog 64 #[.iface 99 (.agg #[.int .i64 A, .int .i64 B, .int .i64 C])] w fun e w' => e = .returned (.bool (A != 0 || B != 0)) ∧ Below w.heap.size w w' := by
  have t1 := ta98 (.agg #[.int .i64 A, .int .i64 B, .int .i64 C])
  by_cases h : A = 0
  · subst h
    go_enter Try.func64, Try.ntmps64
    go_wp2_with fail
    go_ret
    exact ⟨by simp, bnew _ _⟩
  · have h1 : (A != 0) = true := by simpa using h
    rw [h1]
    go_enter Try.func64, Try.ntmps64
    go_wp2_with fail
    go_ret
    exact ⟨rfl, bnew _ _⟩

theorem sound4 (A B : Int) (w : World) :
    Calls Try.prog 64 #[.iface 101 (.agg #[.int .i64 A, .int .i64 B])] w fun e w' => e = .returned (.bool (decide (A ≤ B))) ∧ Below w.heap.size w w' := by
  have t1 := ta100_98 (.agg #[.int .i64 A, .int .i64 B])
  have t2 := ta100 (.agg #[.int .i64 A, .int .i64 B])
  go_enter Try.func64, Try.ntmps64
  go_wp2_with fail
  go_ret
  exact ⟨rfl, by first | exact bnew _ _ | exact (bnew _ _).alloc (by simp) _⟩

theorem outline_any (K X Y A B C V : Int) (h : inB K 1 4 = true) (w : World) :
    Calls Try.prog 63 #[sh K X Y A B C V] w fun e w' => e = .returned (outl K A B C) ∧ Below w.heap.size w w' := by
  have : K = 1 ∨ K = 2 ∨ K = 3 ∨ K = 4 := by
    unfold inB at h
    simp only [Bool.and_eq_true, decide_eq_true_eq] at h
    omega
  rcases this with rfl | rfl | rfl | rfl
  · exact outline1 X Y A B C V w
  · exact outline2 X Y A B C V w
  · exact outline3 X Y A B C V w
  · exact outline4 X Y A B C V w

theorem sound_any (K A B C : Int) (h : inB K 1 4 = true) (w : World) :
    Calls Try.prog 64 #[outl K A B C] w fun e w' => e = .returned (.bool (soundB K A B)) ∧ Below w.heap.size w w' := by
  have : K = 1 ∨ K = 2 ∨ K = 3 ∨ K = 4 := by
    unfold inB at h
    simp only [Bool.and_eq_true, decide_eq_true_eq] at h
    omega
  rcases this with rfl | rfl | rfl | rfl
  · exact sound1 A B w
  · exact sound2 A B w
  · exact sound3 A B C w
  · exact sound4 A B w

/-- the limits of its own kind are what the specification asks -/
theorem shape_eq (K X Y A B C V : Int) : shapeB K X Y A B C V = (inL K X Y A B C V (lmA K) (lmA K) (lmC K) && soundB K A B) := by
  rw [Bool.eq_iff_iff]
  unfold shapeB inL soundB kindB low lmA lmC inB
  by_cases h1 : K = 1
  · subst h1; simp; omega
  by_cases h2 : K = 2
  · subst h2; simp; omega
  by_cases h3 : K = 3
  · subst h3; simp; omega
  by_cases h4 : K = 4
  · subst h4; simp; omega
  simp [h1, h2, h3, h4]
  omega

/-- what newOutline answers -/
def newOut (K X Y A B C V : Int) (e : Ending) : Prop :=
  if shapeB K X Y A B C V = true then e = .returned (.tuple #[outl K A B C, .bool true]) else ∃ v, e = .returned (.tuple #[v, .bool false])

set_option maxHeartbeats 400000 in
theorem newOutline_any (K X Y A B C V : Int) (w : World) :
    Calls Try.prog 51 #[sh K X Y A B C V, lm (lmA K) (lmA K) (lmC K)] w fun e w' => newOut K X Y A B C V e ∧ Below w.heap.size w w' := by
  have HB0 : Hid (Below w.heap.size w ((w.alloc (shCells K X Y A B C V 33)).alloc (.cells #[.int .i64 (lmA K), .int .i64 (lmA K), .int .i64 (lmC K)] 78))) := ((Below.refl _ _).alloc (Nat.le_refl _) _).alloc (by simp) _
  have HN0 : Hid (ShB w.heap.size K X Y A B C V ((w.alloc (shCells K X Y A B C V 33)).alloc (.cells #[.int .i64 (lmA K), .int .i64 (lmA K), .int .i64 (lmC K)] 78))) := (ShB.new _ _ _ _ _ _ _ _ _).below (bnew _ _)
  have cL := inLimits_any K X Y A B C V (lmA K) (lmA K) (lmC K)
  have HE := shape_eq K X Y A B C V
  cases hL : inL K X Y A B C V (lmA K) (lmA K) (lmC K)
  · rw [hL] at cL HE
    have HR : ∀ v, newOut K X Y A B C V (.returned (.tuple #[v, .bool false])) := fun v => by
      unfold newOut; rw [HE]; exact ⟨_, rfl⟩
    clear hL HE
    generalize lmA K = a at *
    generalize lmC K = c at *
    go_enter Try.func51, Try.ntmps51
    go_wp2_with fail
    refine (cL _).mono ?_
    rintro e w1 ⟨rfl, hb⟩
    have HB1 : Hid (Below w.heap.size w w1) := bnext HB0.out (Nat.le_refl _) hb
    clear hb cL HB0 HN0
    go_wp2_with fail
    go_ret2
    exact ⟨HR _, HB1.out⟩
  · have hK : inB K 1 4 = true := by
      unfold inL at hL
      simp only [Bool.and_eq_true] at hL
      exact hL.1
    rw [hL] at cL HE
    have cO := outline_any K X Y A B C V hK
    have cS := sound_any K A B C hK
    have HR : newOut K X Y A B C V (.returned (.tuple #[outl K A B C, .bool (soundB K A B)])) := by
      unfold newOut; rw [HE, Bool.true_and]
      cases soundB K A B
      · exact ⟨_, rfl⟩
      · rfl
    clear hL HE hK
    generalize lmA K = a at *
    generalize lmC K = c at *
    generalize outl K A B C = v at *
    generalize soundB K A B = s at *
    go_enter Try.func51, Try.ntmps51
    go_wp2_with fail
    refine (cL _).mono ?_
    rintro e w1 ⟨rfl, hb⟩
    have HB1 : Hid (Below w.heap.size w w1) := bnext HB0.out (Nat.le_refl _) hb
    obtain ⟨s0, s1, s2, s3, s4, s5, s6⟩ := HN0.out.below hb
    clear hb cL HB0 HN0
    go_wp2_with fail
    refine (cO _).mono ?_
    rintro e w2 ⟨rfl, hb⟩
    have HB2 : Hid (Below w.heap.size w w2) := bnext HB1.out (Nat.le_refl _) hb
    clear hb cO HB1 s0 s1 s2 s3 s4 s5 s6
    go_wp2_with fail
    refine (cS _).mono ?_
    rintro e w3 ⟨rfl, hb⟩
    have HB3 : Hid (Below w.heap.size w w3) := bnext HB2.out (Nat.le_refl _) hb
    clear hb cS HB2
    go_wp2_with fail
    go_ret2
    exact ⟨HR, HB3.out⟩

end Go.Proofs.Ytadeajdjjcelhaa
