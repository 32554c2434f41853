/- The program's outlines: limits, kinds, soundness. -/
import Derived.Test.YtadeajdjjcelhaaIns3
namespace Go.Proofs.Ytadeajdjjcelhaa
open Go.RowKit

/-- a row of limits as a value -/
abbrev lm (a b c : Int) : Value := .agg #[.int .i64 a, .int .i64 b, .int .i64 c]
def lmA (K : Int) : Int := if K = 2 then 1 else if K = 3 then -1000 else 0
def lmC (K : Int) : Int := if K = 3 then 1000 else 0

theorem limits_any (K : Int) (w : World) :
    Calls Try.prog 52 #[.int .i64 K] w fun e w' => e = .returned (lm (lmA K) (lmA K) (lmC K)) ∧ Below w.heap.size w w' := by
  by_cases h2 : K = 2
  · subst h2
    go_enter Try.func52, Try.ntmps52
    go_wp2_with fail
    refine bodyPost_ret (v := lm 1 1 0) (by simp [results, Try.results52, go_sem]) rfl ⟨rfl, ?_⟩
    exact bnew _ _
  by_cases h3 : K = 3
  · subst h3
    go_enter Try.func52, Try.ntmps52
    go_wp2_with fail
    refine bodyPost_ret (v := lm (-1000) (-1000) 1000) (by simp [results, Try.results52, go_sem]) rfl ⟨rfl, ?_⟩
    exact bnew _ _
  have ea : lmA K = 0 := by unfold lmA; rw [if_neg h2, if_neg h3]
  have ec : lmC K = 0 := by unfold lmC; rw [if_neg h3]
  rw [ea, ec]
  go_enter Try.func52, Try.ntmps52
  go_wp2_with fail
  refine bodyPost_ret (v := lm 0 0 0) (by simp [results, Try.results52, go_sem]) rfl ⟨rfl, ?_⟩
  exact bnew _ _

theorem isKind_any (x : Int) (w : World) :
    Calls Try.prog 66 #[.int .i64 x] w fun e w' => e = .returned (.bool (inB x 1 4)) ∧ w' = w := by
  have hc := within_any x 1 4
  go_enter Try.func66, Try.ntmps66
  go_wp2_with fail
  refine (hc _).mono ?_
  rintro e w' ⟨rfl, rfl⟩
  go_wp2_with fail
  go_ret
  exact ⟨rfl, rfl⟩

theorem isPoint_any (x y : Int) (w : World) :
    Calls Try.prog 43 #[.int .i64 x, .int .i64 y] w fun e w' => e = .returned (.bool (inB x (-100000) 100000 && inB y (-100000) 100000)) ∧ w' = w := by
  have hc := within_any x (-100000) 100000
  have hd := within_any y (-100000) 100000
  cases h : inB x (-100000) 100000
  · rw [h] at hc
    go_enter Try.func43, Try.ntmps43
    go_wp2_with fail
    refine (hc _).mono ?_
    rintro e w' ⟨rfl, rfl⟩
    go_wp2_with fail
    go_ret
    exact ⟨rfl, rfl⟩
  · rw [h] at hc
    go_enter Try.func43, Try.ntmps43
    go_wp2_with fail
    refine (hc _).mono ?_
    rintro e w' ⟨rfl, rfl⟩
    go_wp2_with fail
    refine (hd _).mono ?_
    rintro e w' ⟨rfl, rfl⟩
    go_wp2_with fail
    go_ret
    exact ⟨rfl, rfl⟩

/-- are a shape's numbers within its limits -/
def inL (K X Y A B C V a b c : Int) : Bool :=
  inB K 1 4 && (inB V (-1000) 1000 && (inB X (-1000) 1000 && (inB Y (-1000) 1000 && (inB A a 1000 && (inB B b 1000 && inB C 0 c)))))

set_option maxHeartbeats 1000000 in
theorem inLimits_any (K X Y A B C V a b c : Int) (w : World) :
    Calls Try.prog 62 #[sh K X Y A B C V, lm a b c] w fun e w' => e = .returned (.bool (inL K X Y A B C V a b c)) ∧ Below w.heap.size w w' := by
  have HB : Hid (Below w.heap.size w ((w.alloc (shCells K X Y A B C V 33)).alloc (.cells #[.int .i64 a, .int .i64 b, .int .i64 c] 78))) := ((Below.refl _ _).alloc (Nat.le_refl _) _).alloc (by simp) _
  have c1 := isKind_any K
  have c2 := within_any V (-1000) 1000
  have c3 := within_any X (-1000) 1000
  have c4 := within_any Y (-1000) 1000
  have c5 := within_any A a 1000
  have c6 := within_any B b 1000
  have c7 := within_any C 0 c
  cases h1 : inB K 1 4
  · have hr : inL K X Y A B C V a b c = false := by unfold inL; simp only [h1, Bool.false_and]
    rw [hr]
    rw [h1] at c1
    clear hr h1 c2 c3 c4 c5 c6 c7
    go_enter Try.func62, Try.ntmps62
    go_wp2_with fail
    refine (c1 _).mono ?_
    rintro e w' ⟨rfl, rfl⟩
    go_wp2_with fail
    go_ret
    exact ⟨rfl, HB.out⟩
  rw [h1] at c1
  cases h2 : inB V (-1000) 1000
  · have hr : inL K X Y A B C V a b c = false := by unfold inL; simp only [h1, h2, Bool.false_and, Bool.true_and]
    rw [hr]
    rw [h2] at c2
    clear hr h1 h2 c3 c4 c5 c6 c7
    go_enter Try.func62, Try.ntmps62
    go_wp2_with fail
    refine (c1 _).mono ?_
    rintro e w' ⟨rfl, rfl⟩
    go_wp2_with fail
    refine (c2 _).mono ?_
    rintro e w' ⟨rfl, rfl⟩
    go_wp2_with fail
    go_ret
    exact ⟨rfl, HB.out⟩
  rw [h2] at c2
  cases h3 : inB X (-1000) 1000
  · have hr : inL K X Y A B C V a b c = false := by unfold inL; simp only [h1, h2, h3, Bool.false_and, Bool.true_and]
    rw [hr]
    rw [h3] at c3
    clear hr h1 h2 h3 c4 c5 c6 c7
    go_enter Try.func62, Try.ntmps62
    go_wp2_with fail
    refine (c1 _).mono ?_
    rintro e w' ⟨rfl, rfl⟩
    go_wp2_with fail
    refine (c2 _).mono ?_
    rintro e w' ⟨rfl, rfl⟩
    go_wp2_with fail
    refine (c3 _).mono ?_
    rintro e w' ⟨rfl, rfl⟩
    go_wp2_with fail
    go_ret
    exact ⟨rfl, HB.out⟩
  rw [h3] at c3
  cases h4 : inB Y (-1000) 1000
  · have hr : inL K X Y A B C V a b c = false := by unfold inL; simp only [h1, h2, h3, h4, Bool.false_and, Bool.true_and]
    rw [hr]
    rw [h4] at c4
    clear hr h1 h2 h3 h4 c5 c6 c7
    go_enter Try.func62, Try.ntmps62
    go_wp2_with fail
    refine (c1 _).mono ?_
    rintro e w' ⟨rfl, rfl⟩
    go_wp2_with fail
    refine (c2 _).mono ?_
    rintro e w' ⟨rfl, rfl⟩
    go_wp2_with fail
    refine (c3 _).mono ?_
    rintro e w' ⟨rfl, rfl⟩
    go_wp2_with fail
    refine (c4 _).mono ?_
    rintro e w' ⟨rfl, rfl⟩
    go_wp2_with fail
    go_ret
    exact ⟨rfl, HB.out⟩
  rw [h4] at c4
  cases h5 : inB A a 1000
  · have hr : inL K X Y A B C V a b c = false := by unfold inL; simp only [h1, h2, h3, h4, h5, Bool.false_and, Bool.true_and]
    rw [hr]
    rw [h5] at c5
    clear hr h1 h2 h3 h4 h5 c6 c7
    go_enter Try.func62, Try.ntmps62
    go_wp2_with fail
    refine (c1 _).mono ?_
    rintro e w' ⟨rfl, rfl⟩
    go_wp2_with fail
    refine (c2 _).mono ?_
    rintro e w' ⟨rfl, rfl⟩
    go_wp2_with fail
    refine (c3 _).mono ?_
    rintro e w' ⟨rfl, rfl⟩
    go_wp2_with fail
    refine (c4 _).mono ?_
    rintro e w' ⟨rfl, rfl⟩
    go_wp2_with fail
    refine (c5 _).mono ?_
    rintro e w' ⟨rfl, rfl⟩
    go_wp2_with fail
    go_ret
    exact ⟨rfl, HB.out⟩
  rw [h5] at c5
  cases h6 : inB B b 1000
  · have hr : inL K X Y A B C V a b c = false := by unfold inL; simp only [h1, h2, h3, h4, h5, h6, Bool.false_and, Bool.true_and]
    rw [hr]
    rw [h6] at c6
    clear hr h1 h2 h3 h4 h5 h6 c7
    go_enter Try.func62, Try.ntmps62
    go_wp2_with fail
    refine (c1 _).mono ?_
    rintro e w' ⟨rfl, rfl⟩
    go_wp2_with fail
    refine (c2 _).mono ?_
    rintro e w' ⟨rfl, rfl⟩
    go_wp2_with fail
    refine (c3 _).mono ?_
    rintro e w' ⟨rfl, rfl⟩
    go_wp2_with fail
    refine (c4 _).mono ?_
    rintro e w' ⟨rfl, rfl⟩
    go_wp2_with fail
    refine (c5 _).mono ?_
    rintro e w' ⟨rfl, rfl⟩
    go_wp2_with fail
    refine (c6 _).mono ?_
    rintro e w' ⟨rfl, rfl⟩
    go_wp2_with fail
    go_ret
    exact ⟨rfl, HB.out⟩
  rw [h6] at c6
  have hr : inL K X Y A B C V a b c = inB C 0 c := by unfold inL; simp only [h1, h2, h3, h4, h5, h6, Bool.true_and]
  rw [hr]
  clear hr h1 h2 h3 h4 h5 h6
  go_enter Try.func62, Try.ntmps62
  go_wp2_with fail
  refine (c1 _).mono ?_
  rintro e w' ⟨rfl, rfl⟩
  go_wp2_with fail
  refine (c2 _).mono ?_
  rintro e w' ⟨rfl, rfl⟩
  go_wp2_with fail
  refine (c3 _).mono ?_
  rintro e w' ⟨rfl, rfl⟩
  go_wp2_with fail
  refine (c4 _).mono ?_
  rintro e w' ⟨rfl, rfl⟩
  go_wp2_with fail
  refine (c5 _).mono ?_
  rintro e w' ⟨rfl, rfl⟩
  go_wp2_with fail
  refine (c6 _).mono ?_
  rintro e w' ⟨rfl, rfl⟩
  go_wp2_with fail
  refine (c7 _).mono ?_
  rintro e w' ⟨rfl, rfl⟩
  go_wp2_with fail
  go_ret
  exact ⟨rfl, HB.out⟩

end Go.Proofs.Ytadeajdjjcelhaa
