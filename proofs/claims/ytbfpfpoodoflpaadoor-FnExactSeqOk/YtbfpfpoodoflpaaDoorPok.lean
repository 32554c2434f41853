/- Is it an order: the specification and the program. -/
import Derived.Test.YtbfpfpoodoflpaaDoorFrm
import Derived.Test.YtbfpfpoodoflpaaDoorPls
namespace Go.Proofs.YtbfpfpoodoflpaaDoor
open Go.RowKit

/-- is it an order whose numbers are in range -/
def pulB (K A N T : Int) : Bool :=
  if K = 1 then inB A 1 3 && (inB N 1 3 && inB T 0 0)
  else if K = 2 then inB A 1 2 && (inB N (-1000) 1000 && inB T 1 10000)
  else if K = 3 then inB A 0 0 && (inB N 1 256 && inB T 0 0)
  else if K = 4 then inB A 0 0 && (inB N 1 10000 && inB T 0 0)
  else if K = 5 then inB A 0 0 && (inB N 0 100000 && inB T 0 0)
  else if K = 6 then inB A 0 0 && (inB N 1 64 && inB T 0 0)
  else if K = 7 then inB A 0 0 && (inB N 0 0 && inB T 0 0)
  else false
theorem inB_zero (x : Int) : inB x 0 0 = (x == 0) := by
  unfold inB
  rw [Bool.eq_iff_iff]
  simp
  omega

theorem l1In_any (n lo hi : Int) (w : World) :
    Calls Tryd.prog 54 #[.int .i64 n, .int .i64 lo, .int .i64 hi] w fun e w' => e = .returned (.bool (inB n lo hi)) ∧ w' = w := by
  unfold inB
  by_cases h1 : lo ≤ n <;> by_cases h2 : n ≤ hi
  all_goals
    go_enter Tryd.func54, Tryd.ntmps54
    go_wp2
    go_ret
    exact ⟨by simp [h1, h2], rfl⟩

theorem within_any (n lo hi : Int) (w : World) :
    Calls Tryd.prog 56 #[.int .i64 n, .int .i64 lo, .int .i64 hi] w fun e w' => e = .returned (.bool (inB n lo hi)) ∧ w' = w := by
  unfold inB
  by_cases h1 : lo ≤ n <;> by_cases h2 : n ≤ hi
  all_goals
    go_enter Tryd.func56, Tryd.ntmps56
    go_wp2
    go_ret
    exact ⟨by simp [h1, h2], rfl⟩

theorem l3Zero_any (K A N T : Int) (w : World) :
    Calls Tryd.prog 55 #[vPulse K A N T, .bool false, .bool false] w fun e w' => e = .returned (.bool (inB A 0 0 && inB T 0 0)) ∧ Below w.heap.size w w' := by
  rw [inB_zero, inB_zero]
  cases hA : (A == 0)
  · go_enter Tryd.func55, Tryd.ntmps55
    go_wp2
    go_ret
    exact ⟨rfl, bnew _ _⟩
  · cases hT : (T == 0)
    · go_enter Tryd.func55, Tryd.ntmps55
      go_wp2
      go_ret
      exact ⟨rfl, bnew _ _⟩
    · go_enter Tryd.func55, Tryd.ntmps55
      go_wp2
      go_ret
      exact ⟨rfl, bnew _ _⟩

set_option maxHeartbeats 1000000 in
theorem implPulse_row (k : Nat) (k1 : 1 ≤ k) (k7 : k ≤ 7) (A N T : Int) (w : World) (h : Frm w) :
    Calls Tryd.prog 21 #[vPulse k A N T] w fun e w' => e = .returned (.bool (inB A (fnum k 0) (fnum k 1) && (inB N (fnum k 2) (fnum k 3) && inB T (fnum k 4) (fnum k 5)))) ∧ Below w.heap.size w w' := by
  have cK := within_any (k : Int) 1 7
  have hK : inB (k : Int) 1 7 = true := by unfold inB; simp; omega
  rw [hK] at cK
  have cA := within_any A (fnum k 0) (fnum k 1)
  have cN := within_any N (fnum k 2) (fnum k 3)
  have cT := within_any T (fnum k 4) (fnum k 5)
  obtain ⟨z, hz⟩ := (h.below (bnew w (cPulse k A N T 27))) k (by omega)
  have z0 := hz 0 (by omega)
  have z1 := hz 1 (by omega)
  have z2 := hz 2 (by omega)
  have z3 := hz 3 (by omega)
  have z4 := hz 4 (by omega)
  have z5 := hz 5 (by omega)
  clear h hz hK
  rw [Nat.add_zero] at z0
  generalize fnum k 0 = q0 at *
  generalize fnum k 1 = q1 at *
  generalize fnum k 2 = q2 at *
  generalize fnum k 3 = q3 at *
  generalize fnum k 4 = q4 at *
  generalize fnum k 5 = q5 at *
  generalize (⟨⟨fword k⟩⟩ : ByteArray) = s at *
  have HB : Hid (∀ o o', Below w.heap.size w ((w.alloc o).alloc o')) := fun o o' => (bnew _ _).alloc (by simp) _
  cases hA : inB A q0 q1
  · rw [hA] at cA
    go_enter Tryd.func21, Tryd.ntmps21
    go_wp2_with fail
    refine (cK _).mono ?_
    rintro e w1 ⟨rfl, rfl⟩
    go_wp2_with fail
    refine (cA _).mono ?_
    rintro e w1 ⟨rfl, rfl⟩
    go_wp2_with fail
    go_ret
    exact ⟨rfl, HB.out _ _⟩
  · rw [hA] at cA
    cases hN : inB N q2 q3
    · rw [hN] at cN
      go_enter Tryd.func21, Tryd.ntmps21
      go_wp2_with fail
      refine (cK _).mono ?_
      rintro e w1 ⟨rfl, rfl⟩
      go_wp2_with fail
      refine (cA _).mono ?_
      rintro e w1 ⟨rfl, rfl⟩
      go_wp2_with fail
      refine (cN _).mono ?_
      rintro e w1 ⟨rfl, rfl⟩
      go_wp2_with fail
      go_ret
      exact ⟨rfl, HB.out _ _⟩
    · rw [hN] at cN
      go_enter Tryd.func21, Tryd.ntmps21
      go_wp2_with fail
      refine (cK _).mono ?_
      rintro e w1 ⟨rfl, rfl⟩
      go_wp2_with fail
      refine (cA _).mono ?_
      rintro e w1 ⟨rfl, rfl⟩
      go_wp2_with fail
      refine (cN _).mono ?_
      rintro e w1 ⟨rfl, rfl⟩
      go_wp2_with fail
      refine (cT _).mono ?_
      rintro e w1 ⟨rfl, rfl⟩
      go_wp2_with fail
      go_ret
      exact ⟨by simp, HB.out _ _⟩

theorem implPulse_any (K A N T : Int) (w : World) (h : Frm w) :
    Calls Tryd.prog 21 #[vPulse K A N T] w fun e w' => e = .returned (.bool (pulB K A N T)) ∧ Below w.heap.size w w' := by
  by_cases hK : 1 ≤ K ∧ K ≤ 7
  · obtain ⟨k, rfl, k1, k7⟩ : ∃ k : Nat, K = (k : Int) ∧ 1 ≤ k ∧ k ≤ 7 := ⟨K.toNat, by omega, by omega, by omega⟩
    have := implPulse_row k k1 k7 A N T w h
    clear hK
    match k, k1, k7, this with
    | 1, _, _, this => exact this
    | 2, _, _, this => exact this
    | 3, _, _, this => exact this
    | 4, _, _, this => exact this
    | 5, _, _, this => exact this
    | 6, _, _, this => exact this
    | 7, _, _, this => exact this
  · have hf : pulB K A N T = false := by
      unfold pulB
      rw [if_neg (by omega), if_neg (by omega), if_neg (by omega), if_neg (by omega), if_neg (by omega), if_neg (by omega), if_neg (by omega)]
    have cK := within_any K 1 7
    have hK' : inB K 1 7 = false := by unfold inB; simp; omega
    rw [hK'] at cK
    rw [hf]
    clear hK hf hK' h
    go_enter Tryd.func21, Tryd.ntmps21
    go_wp2_with fail
    refine (cK _).mono ?_
    rintro e w1 ⟨rfl, rfl⟩
    go_wp2_with fail
    go_ret
    exact ⟨rfl, bnew _ _⟩

theorem specPulse_1 (A N T : Int) (w : World) : Calls Tryd.prog 19 #[vPulse 1 A N T] w fun e w' => e = .returned (.bool (inB A 1 3 && (inB N 1 3 && inB T 0 0))) ∧ Below w.heap.size w w' := by
  have cA := l1In_any A 1 3
  have cN := l1In_any N 1 3
  rw [inB_zero T]
  cases hA : inB A 1 3
  · rw [hA] at cA
    go_enter Tryd.func19, Tryd.ntmps19
    go_wp2_with fail
    refine (cA _).mono ?_
    rintro e w1 ⟨rfl, rfl⟩
    go_wp2_with fail
    go_ret
    exact ⟨rfl, bnew _ _⟩
  cases hN : inB N 1 3
  · rw [hA] at cA
    rw [hN] at cN
    go_enter Tryd.func19, Tryd.ntmps19
    go_wp2_with fail
    refine (cA _).mono ?_
    rintro e w1 ⟨rfl, rfl⟩
    go_wp2_with fail
    refine (cN _).mono ?_
    rintro e w1 ⟨rfl, rfl⟩
    go_wp2_with fail
    go_ret
    exact ⟨rfl, bnew _ _⟩
  · rw [hA] at cA
    rw [hN] at cN
    go_enter Tryd.func19, Tryd.ntmps19
    go_wp2_with fail
    refine (cA _).mono ?_
    rintro e w1 ⟨rfl, rfl⟩
    go_wp2_with fail
    refine (cN _).mono ?_
    rintro e w1 ⟨rfl, rfl⟩
    go_wp2_with fail
    go_ret
    exact ⟨by simp, bnew _ _⟩

theorem specPulse_2 (A N T : Int) (w : World) : Calls Tryd.prog 19 #[vPulse 2 A N T] w fun e w' => e = .returned (.bool (inB A 1 2 && (inB N (-1000) 1000 && inB T 1 10000))) ∧ Below w.heap.size w w' := by
  have cA := l1In_any A 1 2
  have cN := l1In_any N (-1000) 1000
  have cT := l1In_any T 1 10000
  cases hA : inB A 1 2
  · rw [hA] at cA
    go_enter Tryd.func19, Tryd.ntmps19
    go_wp2_with fail
    refine (cA _).mono ?_
    rintro e w1 ⟨rfl, rfl⟩
    go_wp2_with fail
    go_ret
    exact ⟨rfl, bnew _ _⟩
  cases hN : inB N (-1000) 1000
  · rw [hA] at cA
    rw [hN] at cN
    go_enter Tryd.func19, Tryd.ntmps19
    go_wp2_with fail
    refine (cA _).mono ?_
    rintro e w1 ⟨rfl, rfl⟩
    go_wp2_with fail
    refine (cN _).mono ?_
    rintro e w1 ⟨rfl, rfl⟩
    go_wp2_with fail
    go_ret
    exact ⟨rfl, bnew _ _⟩
  · rw [hA] at cA
    rw [hN] at cN
    go_enter Tryd.func19, Tryd.ntmps19
    go_wp2_with fail
    refine (cA _).mono ?_
    rintro e w1 ⟨rfl, rfl⟩
    go_wp2_with fail
    refine (cN _).mono ?_
    rintro e w1 ⟨rfl, rfl⟩
    go_wp2_with fail
    refine (cT _).mono ?_
    rintro e w1 ⟨rfl, rfl⟩
    go_wp2_with fail
    go_ret
    exact ⟨by simp, bnew _ _⟩

theorem specPulse_3 (A N T : Int) (w : World) : Calls Tryd.prog 19 #[vPulse 3 A N T] w fun e w' => e = .returned (.bool (inB A 0 0 && (inB N 1 256 && inB T 0 0))) ∧ Below w.heap.size w w' := by
  have cZ := l3Zero_any 3 A N T
  have cN := l1In_any N 1 256
  rw [show (inB A 0 0 && (inB N 1 256 && inB T 0 0)) = ((inB A 0 0 && inB T 0 0) && inB N 1 256) by cases inB A 0 0 <;> cases inB N 1 256 <;> cases inB T 0 0 <;> rfl]
  have BP := fun w' (h : Below (w.alloc (cPulse 3 A N T 27)).heap.size (w.alloc (cPulse 3 A N T 27)) w') => BPulse.below (BPulse.new 3 A N T 27 w) h (by simp)
  cases hz : (inB A 0 0 && inB T 0 0)
  · rw [hz] at cZ
    go_enter Tryd.func19, Tryd.ntmps19
    go_wp2_with fail
    refine (cZ _).mono ?_
    rintro e w1 ⟨rfl, hb⟩
    have HB := hide (bnext (bnew w (cPulse 3 A N T 27)) (Nat.le_refl _) hb)
    obtain ⟨i0, i1, i2, i3⟩ := BP _ hb
    clear hb
    go_wp2_with fail
    go_ret
    exact ⟨rfl, HB.out⟩
  · rw [hz] at cZ
    go_enter Tryd.func19, Tryd.ntmps19
    go_wp2_with fail
    refine (cZ _).mono ?_
    rintro e w1 ⟨rfl, hb⟩
    have HB := hide (bnext (bnew w (cPulse 3 A N T 27)) (Nat.le_refl _) hb)
    obtain ⟨i0, i1, i2, i3⟩ := BP _ hb
    clear hb
    go_wp2_with fail
    refine (cN _).mono ?_
    rintro e w1 ⟨rfl, rfl⟩
    go_wp2_with fail
    go_ret
    exact ⟨by simp, HB.out⟩

theorem specPulse_4 (A N T : Int) (w : World) : Calls Tryd.prog 19 #[vPulse 4 A N T] w fun e w' => e = .returned (.bool (inB A 0 0 && (inB N 1 10000 && inB T 0 0))) ∧ Below w.heap.size w w' := by
  have cZ := l3Zero_any 4 A N T
  have cN := l1In_any N 1 10000
  rw [show (inB A 0 0 && (inB N 1 10000 && inB T 0 0)) = ((inB A 0 0 && inB T 0 0) && inB N 1 10000) by cases inB A 0 0 <;> cases inB N 1 10000 <;> cases inB T 0 0 <;> rfl]
  have BP := fun w' (h : Below (w.alloc (cPulse 4 A N T 27)).heap.size (w.alloc (cPulse 4 A N T 27)) w') => BPulse.below (BPulse.new 4 A N T 27 w) h (by simp)
  cases hz : (inB A 0 0 && inB T 0 0)
  · rw [hz] at cZ
    go_enter Tryd.func19, Tryd.ntmps19
    go_wp2_with fail
    refine (cZ _).mono ?_
    rintro e w1 ⟨rfl, hb⟩
    have HB := hide (bnext (bnew w (cPulse 4 A N T 27)) (Nat.le_refl _) hb)
    obtain ⟨i0, i1, i2, i3⟩ := BP _ hb
    clear hb
    go_wp2_with fail
    go_ret
    exact ⟨rfl, HB.out⟩
  · rw [hz] at cZ
    go_enter Tryd.func19, Tryd.ntmps19
    go_wp2_with fail
    refine (cZ _).mono ?_
    rintro e w1 ⟨rfl, hb⟩
    have HB := hide (bnext (bnew w (cPulse 4 A N T 27)) (Nat.le_refl _) hb)
    obtain ⟨i0, i1, i2, i3⟩ := BP _ hb
    clear hb
    go_wp2_with fail
    refine (cN _).mono ?_
    rintro e w1 ⟨rfl, rfl⟩
    go_wp2_with fail
    go_ret
    exact ⟨by simp, HB.out⟩

theorem specPulse_5 (A N T : Int) (w : World) : Calls Tryd.prog 19 #[vPulse 5 A N T] w fun e w' => e = .returned (.bool (inB A 0 0 && (inB N 0 100000 && inB T 0 0))) ∧ Below w.heap.size w w' := by
  have cZ := l3Zero_any 5 A N T
  have cN := l1In_any N 0 100000
  rw [show (inB A 0 0 && (inB N 0 100000 && inB T 0 0)) = ((inB A 0 0 && inB T 0 0) && inB N 0 100000) by cases inB A 0 0 <;> cases inB N 0 100000 <;> cases inB T 0 0 <;> rfl]
  have BP := fun w' (h : Below (w.alloc (cPulse 5 A N T 27)).heap.size (w.alloc (cPulse 5 A N T 27)) w') => BPulse.below (BPulse.new 5 A N T 27 w) h (by simp)
  cases hz : (inB A 0 0 && inB T 0 0)
  · rw [hz] at cZ
    go_enter Tryd.func19, Tryd.ntmps19
    go_wp2_with fail
    refine (cZ _).mono ?_
    rintro e w1 ⟨rfl, hb⟩
    have HB := hide (bnext (bnew w (cPulse 5 A N T 27)) (Nat.le_refl _) hb)
    obtain ⟨i0, i1, i2, i3⟩ := BP _ hb
    clear hb
    go_wp2_with fail
    go_ret
    exact ⟨rfl, HB.out⟩
  · rw [hz] at cZ
    go_enter Tryd.func19, Tryd.ntmps19
    go_wp2_with fail
    refine (cZ _).mono ?_
    rintro e w1 ⟨rfl, hb⟩
    have HB := hide (bnext (bnew w (cPulse 5 A N T 27)) (Nat.le_refl _) hb)
    obtain ⟨i0, i1, i2, i3⟩ := BP _ hb
    clear hb
    go_wp2_with fail
    refine (cN _).mono ?_
    rintro e w1 ⟨rfl, rfl⟩
    go_wp2_with fail
    go_ret
    exact ⟨by simp, HB.out⟩

theorem specPulse_6 (A N T : Int) (w : World) : Calls Tryd.prog 19 #[vPulse 6 A N T] w fun e w' => e = .returned (.bool (inB A 0 0 && (inB N 1 64 && inB T 0 0))) ∧ Below w.heap.size w w' := by
  have cZ := l3Zero_any 6 A N T
  have cN := l1In_any N 1 64
  rw [show (inB A 0 0 && (inB N 1 64 && inB T 0 0)) = ((inB A 0 0 && inB T 0 0) && inB N 1 64) by cases inB A 0 0 <;> cases inB N 1 64 <;> cases inB T 0 0 <;> rfl]
  have BP := fun w' (h : Below (w.alloc (cPulse 6 A N T 27)).heap.size (w.alloc (cPulse 6 A N T 27)) w') => BPulse.below (BPulse.new 6 A N T 27 w) h (by simp)
  cases hz : (inB A 0 0 && inB T 0 0)
  · rw [hz] at cZ
    go_enter Tryd.func19, Tryd.ntmps19
    go_wp2_with fail
    refine (cZ _).mono ?_
    rintro e w1 ⟨rfl, hb⟩
    have HB := hide (bnext (bnew w (cPulse 6 A N T 27)) (Nat.le_refl _) hb)
    obtain ⟨i0, i1, i2, i3⟩ := BP _ hb
    clear hb
    go_wp2_with fail
    go_ret
    exact ⟨rfl, HB.out⟩
  · rw [hz] at cZ
    go_enter Tryd.func19, Tryd.ntmps19
    go_wp2_with fail
    refine (cZ _).mono ?_
    rintro e w1 ⟨rfl, hb⟩
    have HB := hide (bnext (bnew w (cPulse 6 A N T 27)) (Nat.le_refl _) hb)
    obtain ⟨i0, i1, i2, i3⟩ := BP _ hb
    clear hb
    go_wp2_with fail
    refine (cN _).mono ?_
    rintro e w1 ⟨rfl, rfl⟩
    go_wp2_with fail
    go_ret
    exact ⟨by simp, HB.out⟩

theorem specPulse_7 (A N T : Int) (w : World) : Calls Tryd.prog 19 #[vPulse 7 A N T] w fun e w' => e = .returned (.bool (inB A 0 0 && (inB N 0 0 && inB T 0 0))) ∧ Below w.heap.size w w' := by
  rw [inB_zero, inB_zero, inB_zero]
  go_enter Tryd.func19, Tryd.ntmps19
  go_wp2_with fail
  all_goals
    go_ret
    exact ⟨by simp [*], bnew _ _⟩

theorem specPulse_any (K A N T : Int) (w : World) :
    Calls Tryd.prog 19 #[vPulse K A N T] w fun e w' => e = .returned (.bool (pulB K A N T)) ∧ Below w.heap.size w w' := by
  unfold pulB
  by_cases h1 : K = 1
  · subst h1; exact specPulse_1 A N T w
  by_cases h2 : K = 2
  · subst h2; exact specPulse_2 A N T w
  by_cases h3 : K = 3
  · subst h3; exact specPulse_3 A N T w
  by_cases h4 : K = 4
  · subst h4; exact specPulse_4 A N T w
  by_cases h5 : K = 5
  · subst h5; exact specPulse_5 A N T w
  by_cases h6 : K = 6
  · subst h6; exact specPulse_6 A N T w
  by_cases h7 : K = 7
  · subst h7; exact specPulse_7 A N T w
  rw [if_neg h1, if_neg h2, if_neg h3, if_neg h4, if_neg h5, if_neg h6, if_neg h7]
  go_enter Tryd.func19, Tryd.ntmps19
  go_wp2_with fail
  go_ret
  exact ⟨rfl, bnew _ _⟩

set_option maxHeartbeats 1000000 in
theorem fnExactPulseOk_walk (K A N T : Int) (w : World) (h : Frm w) :
    Calls Tryd.prog 5 #[vPulse K A N T] w fun e w' => e = .returned (.bool true) ∧ Below w.heap.size w w' := by
  have cT := toPulse_any K A N T
  have cS := specPulse_any K A N T
  have cI := fun w' h => implPulse_any K A N T w' h
  have HF := hide (h.below (bnew w (cPulse K A N T 41)))
  have HB0 := hide (bnew w (cPulse K A N T 41))
  have BP := fun w' (h : Below (w.alloc (cPulse K A N T 41)).heap.size (w.alloc (cPulse K A N T 41)) w') => BPulse.below (BPulse.new K A N T 41 w) h (by simp)
  generalize pulB K A N T = r at *
  have hrr : (r != r) = false := by simp
  clear h
  go_enter Tryd.func5, Tryd.ntmps5
  go_wp2_with fail
  refine (cT _).mono ?_
  rintro e w1 ⟨rfl, hb⟩
  have HB1 := hide hb
  clear hb
  go_wp2_with fail
  refine (cS _).mono ?_
  rintro e w2 ⟨rfl, hb⟩
  have HB2 := hide (bnext HB1.out (Nat.le_refl _) hb)
  clear hb HB1 cS
  obtain ⟨i0, i1, i2, i3⟩ := BP _ HB2.out
  go_wp2_with fail
  refine (cT _).mono ?_
  rintro e w3 ⟨rfl, hb⟩
  have HB3 := hide (bnext HB2.out (Nat.le_refl _) hb)
  have f3 := HF.out.below HB3.out
  clear hb HB2 i0 i1 i2 i3 cT
  go_wp2_with fail
  refine (cI _ f3).mono ?_
  rintro e w4 ⟨rfl, hb⟩
  have HB4 := hide (bnext HB3.out (Nat.le_refl _) hb)
  clear hb HB3 f3 cI
  go_wp2_with fail
  go_ret
  exact ⟨rfl, bnext HB0.out (Nat.le_refl _) HB4.out⟩


end Go.Proofs.YtbfpfpoodoflpaaDoor