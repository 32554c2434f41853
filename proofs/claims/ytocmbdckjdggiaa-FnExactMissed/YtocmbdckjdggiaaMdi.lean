/- Missed: the program. -/
import Derived.Test.YtocmbdckjdggiaaDsb
import Derived.Test.YtocmbdckjdggiaaQ4
import Derived.Deep.RegionHeld
import Derived.BigRegion
namespace Go.Proofs.Ytocmbdckjdggiaa
open Go.RowKit

set_option maxRecDepth 100000 in
set_option maxHeartbeats 4000000 in
theorem isMet_any (kd o l c : Int) (a : Option Addr) (n cap : Nat) (s : Nat → Int) (hl : n ≤ 1048576) (w : World) (h : Px a n s w) :
    Calls Try.prog 80 #[vGoal kd o l c, .slice a n cap] w fun e w' => e = .returned (.bool (metB kd c (cA s l n) (cB s l n))) ∧ Below w.heap.size w w' := by
  have HS0 := hide ((St.start w).box [.int .i64 kd, .int .i64 o, .int .i64 l, .int .i64 c] 54)
  have HP := hide (h.below HS0.out.below)
  obtain ⟨i0, i1, i2, i3⟩ := HS0.out.im4 0 rfl
  have HB := hide HS0.out.below
  clear h HS0
  go_enter Try.func80, Try.ntmps80
  go_wp2_with fail
  change World.cell? (w.alloc (.cells #[.int .i64 kd, .int .i64 o, .int .i64 l, .int .i64 c] 54)) _ = _ at i0 i1 i2 i3
  change Hid (Px _ _ _ (w.alloc (.cells #[.int .i64 kd, .int .i64 o, .int .i64 l, .int .i64 c] 54))) at HP
  change Hid (Below _ _ (w.alloc (.cells #[.int .i64 kd, .int .i64 o, .int .i64 l, .int .i64 c] 54))) at HB
  generalize w.alloc (.cells #[.int .i64 kd, .int .i64 o, .int .i64 l, .int .i64 c] 54) = w1 at *
  go_loop [5, 6, 8, 11] (fun lo hi _ i => ∃ k : Nat, k ≤ n ∧ i = .int .i64 k ∧ lo = .int .i64 (cB s l k) ∧ hi = .int .i64 (cA s l k)) (fun _ _ _ i => n - (intOf i).toNat)
  case atStart => exact ⟨0, by omega, rfl, rfl, rfl⟩
  case round =>
    obtain ⟨k, hk, rfl, rfl, rfl⟩ := hrel
    by_cases hlt : k < n
    · obtain ⟨b, off, rfl, hz⟩ := HP.out.at hlt
      have b1 := cA_bd s l k
      have b2 := cB_bd s l k
      clear HP
      by_cases h1 : s k < l
      · have h2 : ¬ l < s k := by omega
        have HA : Hid (cA s l (k + 1) = cA s l k) := by show cA s l k + _ = _; rw [if_neg h2]; omega
        have HC : Hid (cB s l (k + 1) = cB s l k + 1) := by show cB s l k + _ = _; rw [if_pos h1]
        generalize cA s l k = A0 at *
        generalize cB s l k = B0 at *
        generalize s k = X at *
        go_wp2_with fail
        exact ⟨⟨k + 1, by omega, rfl, by rw [HC.out], by rw [HA.out]⟩, by simp [intOf]; omega⟩
      · have HC : Hid (cB s l (k + 1) = cB s l k) := by show cB s l k + _ = _; rw [if_neg h1]; omega
        by_cases h2 : l < s k
        · have HA : Hid (cA s l (k + 1) = cA s l k + 1) := by show cA s l k + _ = _; rw [if_pos h2]
          generalize cA s l k = A0 at *
          generalize cB s l k = B0 at *
          generalize s k = X at *
          go_wp2_with fail
          exact ⟨⟨k + 1, by omega, rfl, by rw [HC.out], by rw [HA.out]⟩, by simp [intOf]; omega⟩
        · have HA : Hid (cA s l (k + 1) = cA s l k) := by show cA s l k + _ = _; rw [if_neg h2]; omega
          generalize cA s l k = A0 at *
          generalize cB s l k = B0 at *
          generalize s k = X at *
          go_wp2_with fail
          exact ⟨⟨k + 1, by omega, rfl, by rw [HC.out], by rw [HA.out]⟩, by simp [intOf]; omega⟩
    · obtain rfl : k = n := by omega
      clear HP
      by_cases hk2 : kd = 2
      · subst hk2
        have HM : Hid (metB 2 c (cA s l k) (cB s l k) = (cB s l k == 0)) := by show metB _ _ _ _ = _; unfold metB; rw [if_pos rfl]; by_cases h : cB s l k = 0 <;> simp [h]
        go_wp2_with fail
        go_ret
        exact ⟨by rw [HM.out]; rfl, HB.out⟩
      · have q1 : (kd == 2) = false := by simp [hk2]
        have HM : Hid (metB kd c (cA s l k) (cB s l k) = decide (cA s l k ≤ c)) := by show metB _ _ _ _ = _; unfold metB; rw [if_neg hk2]
        clear hk2
        go_wp2_with fail
        go_ret
        exact ⟨by rw [HM.out]; rfl, HB.out⟩

set_option maxRecDepth 100000 in
set_option maxHeartbeats 2000000 in
theorem noGoal_any (kd o l c : Int) (w : World) :
    Calls Try.prog 91 #[vGoal kd o l c] w fun e w' => e = .returned (.bool (!gokB kd l c)) ∧ Below w.heap.size w w' := by
  have HB := hide (bnew w (.cells #[.int .i64 kd, .int .i64 o, .int .i64 l, .int .i64 c] 54))
  have c0 := fun w' => implGoalOk_any kd o l c w'
  generalize gokB kd l c = r at *
  go_enter Try.func91, Try.ntmps91
  go_wp2_with fail
  refine (c0 _).mono ?_
  rintro e w1 ⟨rfl, hb⟩
  have HB1 := hide (bnext HB.out (Nat.le_refl _) hb)
  clear hb HB c0
  go_wp2_with fail
  go_ret
  exact ⟨rfl, HB1.out⟩

set_option maxRecDepth 100000 in
set_option maxHeartbeats 4000000 in
/-- the first that is no goal, or -1 -/
theorem indexGoal_any (a : Option Addr) (n cap : Nat) (g : Nat → Int) (hl : n ≤ 1048576) (w : World) (h : Px a (n * 4) g w) :
    Calls Try.prog 96 #[.slice a n cap, .func (.func 91) #[] #[]] w fun e w' => ∃ i : Int, e = .returned (.int .i64 i) ∧ (decide (0 ≤ i) = !allG (fun i => gokB (g (i * 4)) (g (i * 4 + 2)) (g (i * 4 + 3))) n) ∧ Below w.heap.size w w' := by
  have HP := hide h
  clear h
  go_enter Try.func96, Try.ntmps96
  go_wp2_with fail
  go_loopw [5, 8] (fun _ i wr => ∃ k : Nat, k ≤ n ∧ i = .int .i64 k ∧ allG (fun i => gokB (g (i * 4)) (g (i * 4 + 2)) (g (i * 4 + 3))) k = true ∧ Below w.heap.size w wr) (fun _ i _ => n - (intOf i).toNat)
  case atStart => exact ⟨0, by omega, rfl, rfl, Below.refl _ _⟩
  case round =>
    obtain ⟨k, hk, rfl, hA, hb⟩ := hrel
    have HA := hide hA
    have HB := hide hb
    clear hA
    by_cases hlt : k < n
    · obtain ⟨b, off, rfl, hbl, z0, z1, z2, z3⟩ := (HP.out.below hb).atGoal hlt
      have c0 := fun w' => noGoal_any (g (k * 4)) (g (k * 4 + 1)) (g (k * 4 + 2)) (g (k * 4 + 3)) w'
      have hK : ∀ ar w, Sem.run Try.prog (callFunc 91 ar) w = .ok (.enter 91 ar) w := fun _ _ => rfl
      clear hb HP hbl
      cases hq : gokB (g (k * 4)) (g (k * 4 + 2)) (g (k * 4 + 3))
      · have HF : Hid (allG (fun i => gokB (g (i * 4)) (g (i * 4 + 2)) (g (i * 4 + 3))) n = false) := allG_no k hlt hq
        simp only [hq] at c0
        clear hq HA
        go_wp2_with fail
        refine (c0 _).mono ?_
        rintro e w1 ⟨rfl, hb⟩
        have HB1 := hide (bnext HB.out (Nat.le_refl _) hb)
        clear hb HB c0
        go_wp2_with fail
        go_ret
        exact ⟨k, rfl, by rw [HF.out]; simp, HB1.out⟩
      · have HAn : Hid (allG (fun i => gokB (g (i * 4)) (g (i * 4 + 2)) (g (i * 4 + 3))) (k + 1) = true) := by
          show (allG _ k && gokB (g (k * 4)) (g (k * 4 + 2)) (g (k * 4 + 3))) = true
          rw [HA.out, hq]; rfl
        simp only [hq] at c0
        clear hq HA
        go_wp2_with fail
        refine (c0 _).mono ?_
        rintro e w1 ⟨rfl, hb⟩
        have HB1 := hide (bnext HB.out (Nat.le_refl _) hb)
        clear hb HB c0
        go_wp2_with fail
        exact ⟨⟨k + 1, by omega, rfl, HAn.out, HB1.out⟩, by simp [intOf]; omega⟩
    · obtain rfl : k = n := by omega
      clear HP hb
      go_wp2_with fail
      go_ret
      exact ⟨-1, rfl, by rw [HA.out]; rfl, HB.out⟩

set_option maxRecDepth 100000 in
set_option maxHeartbeats 4000000 in
theorem areGoals_any (a : Option Addr) (n cap : Nat) (g : Nat → Int) (hl : n ≤ 1048576) (w : World) (h : Px a (n * 4) g w) :
    Calls Try.prog 79 #[.slice a n cap] w fun e w' => e = .returned (.bool (gsB n g)) ∧ Below w.heap.size w w' := by
  have cC : Calls Try.prog 92 #[.slice a n cap, .func (.func 91) #[] #[]] w fun e w' => e = .returned (.bool (!allG (fun i => gokB (g (i * 4)) (g (i * 4 + 2)) (g (i * 4 + 3))) n)) ∧ Below w.heap.size w w' := by
    have c0 := indexGoal_any a n cap g hl w h
    clear h
    generalize allG (fun i => gokB (g (i * 4)) (g (i * 4 + 2)) (g (i * 4 + 3))) n = r at *
    go_enter Try.func92, Try.ntmps92
    go_wp2_with fail
    refine c0.mono ?_
    rintro e w1 ⟨i, rfl, hi, hb⟩
    have HI := hide hi
    have HB := hide hb
    clear c0 hi hb
    go_wp2_with fail
    go_ret
    exact ⟨by rw [← HI.out]; rfl, HB.out⟩
  unfold gsB
  clear h
  generalize allG (fun i => gokB (g (i * 4)) (g (i * 4 + 2)) (g (i * 4 + 3))) n = r at *
  by_cases h1 : n ≤ 64
  · rw [decide_eq_true h1, Bool.true_and]
    have h1' : (n : Int) ≤ 64 := by omega
    go_enter Try.func79, Try.ntmps79
    go_wp2_with fail
    refine cC.mono ?_
    rintro e w1 ⟨rfl, hb⟩
    have HB := hide hb
    clear cC hb
    go_wp2_with fail
    go_ret
    exact ⟨by simp, HB.out⟩
  · rw [decide_eq_false h1, Bool.false_and]
    have h1' : ¬ (n : Int) ≤ 64 := by omega
    clear cC
    go_enter Try.func79, Try.ntmps79
    go_wp2_with fail
    go_ret
    exact ⟨rfl, Below.refl _ _⟩

end Go.Proofs.Ytocmbdckjdggiaa
