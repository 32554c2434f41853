/- Goals: when one is right. -/
import Derived.Test.YtocmbdckjdggiaaGls
import Derived.Deep.RegionHeld
import Derived.BigRegion
namespace Go.Proofs.Ytocmbdckjdggiaa
open Go.RowKit

/-- is it a goal -/
def gokB (k l c : Int) : Bool := inB k 1 3 && (inB l 0 1000000000 && (inB c 0 1024 && (decide (k = 3) || decide (c = 0))))

theorem gok_impl (k l c : Int) : (inB k 1 3 && (inB l 0 1000000000 && inB c 0 (if k = 3 then 1024 else 0))) = gokB k l c := by
  unfold gokB inB
  by_cases hk : k = 3
  · subst hk; simp
  · rw [if_neg hk]
    by_cases hc : c = 0
    · subst hc; simp
    · have : (decide (0 ≤ c) && decide (c ≤ 0)) = false := by
        by_cases h : 0 ≤ c
        · have h2 : ¬ c ≤ 0 := by omega
          simp [h2]
        · simp [h]
      rw [this]
      simp [hk, hc]

set_option maxRecDepth 100000 in
set_option maxHeartbeats 2000000 in
theorem specGoalOk_any (k o l c : Int) (w : World) :
    Calls Try.prog 39 #[vGoal k o l c] w fun e w' => e = .returned (.bool (gokB k l c)) ∧ Below w.heap.size w w' := by
  have HB := hide (bnew w (.cells #[.int .i64 k, .int .i64 o, .int .i64 l, .int .i64 c] 54))
  have c0 := fun w' => l1In_any k 1 3 w'
  have c1 := fun w' => l1In_any l 0 1000000000 w'
  have c2 := fun w' => l1In_any c 0 1024 w'
  unfold gokB
  cases h0 : inB k 1 3
  · simp only [h0] at c0
    simp only [Bool.false_and]
    clear c1 c2 h0
    go_enter Try.func39, Try.ntmps39
    go_wp2_with fail
    refine (c0 _).mono ?_
    rintro e w1 ⟨rfl, rfl⟩
    go_wp2_with fail
    go_ret
    exact ⟨rfl, HB.out⟩
  simp only [h0] at c0
  clear h0
  cases h1 : inB l 0 1000000000
  · simp only [h1] at c1
    simp only [Bool.false_and, Bool.true_and]
    clear c2 h1
    go_enter Try.func39, Try.ntmps39
    go_wp2_with fail
    refine (c0 _).mono ?_
    rintro e w1 ⟨rfl, rfl⟩
    go_wp2_with fail
    refine (c1 _).mono ?_
    rintro e w1 ⟨rfl, rfl⟩
    go_wp2_with fail
    go_ret
    exact ⟨rfl, HB.out⟩
  simp only [h1] at c1
  clear h1
  cases h2 : inB c 0 1024
  · simp only [h2] at c2
    simp only [Bool.false_and, Bool.true_and]
    clear h2
    go_enter Try.func39, Try.ntmps39
    go_wp2_with fail
    refine (c0 _).mono ?_
    rintro e w1 ⟨rfl, rfl⟩
    go_wp2_with fail
    refine (c1 _).mono ?_
    rintro e w1 ⟨rfl, rfl⟩
    go_wp2_with fail
    refine (c2 _).mono ?_
    rintro e w1 ⟨rfl, rfl⟩
    go_wp2_with fail
    go_ret
    exact ⟨rfl, HB.out⟩
  simp only [h2] at c2
  simp only [Bool.true_and]
  clear h2
  by_cases hk : k = 3
  · subst hk
    go_enter Try.func39, Try.ntmps39
    go_wp2_with fail
    refine (c0 _).mono ?_
    rintro e w1 ⟨rfl, rfl⟩
    go_wp2_with fail
    refine (c1 _).mono ?_
    rintro e w1 ⟨rfl, rfl⟩
    go_wp2_with fail
    refine (c2 _).mono ?_
    rintro e w1 ⟨rfl, rfl⟩
    go_wp2_with fail
    go_ret
    exact ⟨rfl, HB.out⟩
  have hk1 : (k == 3) = false := by simp [hk]
  have HC : Hid ((decide (k = 3) || decide (c = 0)) = (c == 0)) := by show _ = _; rw [decide_eq_false hk, Bool.false_or]; by_cases h : c = 0 <;> simp [h]
  clear hk
  go_enter Try.func39, Try.ntmps39
  go_wp2_with fail
  refine (c0 _).mono ?_
  rintro e w1 ⟨rfl, rfl⟩
  go_wp2_with fail
  refine (c1 _).mono ?_
  rintro e w1 ⟨rfl, rfl⟩
  go_wp2_with fail
  refine (c2 _).mono ?_
  rintro e w1 ⟨rfl, rfl⟩
  go_wp2_with fail
  go_ret
  exact ⟨by rw [HC.out]; rfl, HB.out⟩

set_option maxRecDepth 100000 in
set_option maxHeartbeats 2000000 in
theorem implGoalOk_any (k o l c : Int) (w : World) :
    Calls Try.prog 41 #[vGoal k o l c] w fun e w' => e = .returned (.bool (gokB k l c)) ∧ Below w.heap.size w w' := by
  have HB := hide (bnew w (.cells #[.int .i64 k, .int .i64 o, .int .i64 l, .int .i64 c] 54))
  have c0 := fun w' => within_any k 1 3 w'
  have c1 := fun w' => within_any l 0 1000000000 w'
  have c2 := fun w' => within_any c 0 (if k = 3 then 1024 else 0) w'
  rw [← gok_impl]
  have hd : k = 3 ∨ (k ≠ 3 ∧ (k == 3) = false) := by by_cases hk : k = 3; exact .inl hk; exact .inr ⟨hk, by simp [hk]⟩
  generalize hq0 : inB k 1 3 = q0 at *
  generalize hq1 : inB l 0 1000000000 = q1 at *
  generalize hq2 : inB c 0 (if k = 3 then 1024 else 0) = q2 at *
  clear hq0 hq1 hq2
  rcases hd with rfl | ⟨hk, hk1⟩
  · simp only [if_true] at c2
    cases q0
    · simp only [Bool.false_and]
      go_enter Try.func41, Try.ntmps41
      go_wp2_with fail
      refine (c0 _).mono ?_
      rintro e w1 ⟨rfl, rfl⟩
      go_wp2_with fail
      go_ret
      exact ⟨rfl, HB.out⟩
    cases q1
    · simp only [Bool.false_and, Bool.true_and]
      go_enter Try.func41, Try.ntmps41
      go_wp2_with fail
      refine (c0 _).mono ?_
      rintro e w1 ⟨rfl, rfl⟩
      go_wp2_with fail
      refine (c1 _).mono ?_
      rintro e w1 ⟨rfl, rfl⟩
      go_wp2_with fail
      go_ret
      exact ⟨rfl, HB.out⟩
    simp only [Bool.true_and]
    go_enter Try.func41, Try.ntmps41
    go_wp2_with fail
    refine (c0 _).mono ?_
    rintro e w1 ⟨rfl, rfl⟩
    go_wp2_with fail
    refine (c1 _).mono ?_
    rintro e w1 ⟨rfl, rfl⟩
    go_wp2_with fail
    refine (c2 _).mono ?_
    rintro e w1 ⟨rfl, rfl⟩
    go_wp2_with fail
    go_ret
    exact ⟨rfl, HB.out⟩
  · simp only [if_neg hk] at c2
    clear hk
    cases q0
    · simp only [Bool.false_and]
      go_enter Try.func41, Try.ntmps41
      go_wp2_with fail
      refine (c0 _).mono ?_
      rintro e w1 ⟨rfl, rfl⟩
      go_wp2_with fail
      go_ret
      exact ⟨rfl, HB.out⟩
    cases q1
    · simp only [Bool.false_and, Bool.true_and]
      go_enter Try.func41, Try.ntmps41
      go_wp2_with fail
      refine (c0 _).mono ?_
      rintro e w1 ⟨rfl, rfl⟩
      go_wp2_with fail
      refine (c1 _).mono ?_
      rintro e w1 ⟨rfl, rfl⟩
      go_wp2_with fail
      go_ret
      exact ⟨rfl, HB.out⟩
    simp only [Bool.true_and]
    go_enter Try.func41, Try.ntmps41
    go_wp2_with fail
    refine (c0 _).mono ?_
    rintro e w1 ⟨rfl, rfl⟩
    go_wp2_with fail
    refine (c1 _).mono ?_
    rintro e w1 ⟨rfl, rfl⟩
    go_wp2_with fail
    refine (c2 _).mono ?_
    rintro e w1 ⟨rfl, rfl⟩
    go_wp2_with fail
    go_ret
    exact ⟨rfl, HB.out⟩

end Go.Proofs.Ytocmbdckjdggiaa
