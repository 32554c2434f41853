/- Is a message whole, is it open: the program. -/
import Derived.Test.YtoomnfjcbdghgaaGpi
namespace Go.Proofs.Ytoomnfjcbdghgaa
open Go.RowKit

set_option maxRecDepth 100000 in
set_option maxHeartbeats 2000000 in
theorem isWhole_any (a : Option Addr) (m cap : Nat) (E : Nat → SPart) (hm : m ≤ 1048576) (h0 : 0 < m) (w : World) (h : PxG a (m * 4) (FPart E) w) :
    Calls Try.prog 112 #[.slice a m cap] w fun e w' => e = .returned (.bool (whB E m)) ∧ w' = w := by
  obtain ⟨j, rfl⟩ : ∃ j, m = j + 1 := ⟨m - 1, by omega⟩
  obtain ⟨b, off, rfl, z0, z1, z2, z3⟩ := h.atPart (show j < j + 1 by omega)
  have HV : Hid (whB E (j + 1) = ((E j).f2 && decide ((E j).f1 = (j : Int)))) := by
    show _ = _
    unfold whB
    rw [show j + 1 - 1 = j by omega, show ((j + 1 : Nat) : Int) - 1 = (j : Int) by omega]
  generalize whB E (j + 1) = V at *
  have hj1 : (((j + 1 : Nat) : Int) - 1) = (j : Int) := by omega
  have hjm : (j : Int) < ((j + 1 : Nat) : Int) := by omega
  have heq : ((E j).f1 == (j : Int)) = decide ((E j).f1 = (j : Int)) := by rw [Bool.eq_iff_iff]; simp
  clear h
  generalize (E j).f1 = y1 at *
  cases hL : (E j).f2 with
  | false =>
    rw [hL] at z2 HV
    go_enter Try.func112, Try.ntmps112
    go_wp2_with fail
    go_ret
    exact ⟨by rw [HV.out]; rfl, rfl⟩
  | true =>
    rw [hL] at z2 HV
    go_enter Try.func112, Try.ntmps112
    go_wp2_with fail
    go_ret
    exact ⟨by rw [HV.out, ← heq]; simp, rfl⟩

set_option maxRecDepth 100000 in
set_option maxHeartbeats 2000000 in
theorem l15Whole_any (a : Option Addr) (m cap : Nat) (E : Nat → SPart) (hm : m ≤ 1048576) (h0 : 0 < m) (w : World) (h : PxG a (m * 4) (FPart E) w) :
    Calls Try.prog 73 #[.slice a m cap] w fun e w' => e = .returned (.bool (whB E m)) ∧ w' = w := by
  obtain ⟨j, rfl⟩ : ∃ j, m = j + 1 := ⟨m - 1, by omega⟩
  obtain ⟨b, off, rfl, z0, z1, z2, z3⟩ := h.atPart (show j < j + 1 by omega)
  have HV : Hid (whB E (j + 1) = ((E j).f2 && decide ((E j).f1 = (j : Int)))) := by
    show _ = _
    unfold whB
    rw [show j + 1 - 1 = j by omega, show ((j + 1 : Nat) : Int) - 1 = (j : Int) by omega]
  generalize whB E (j + 1) = V at *
  have hj1 : (((j + 1 : Nat) : Int) - 1) = (j : Int) := by omega
  have hjm : (j : Int) < ((j + 1 : Nat) : Int) := by omega
  have hj0 : (0 : Int) < ((j + 1 : Nat) : Int) := by omega
  have heq : ((E j).f1 == (j : Int)) = decide ((E j).f1 = (j : Int)) := by rw [Bool.eq_iff_iff]; simp
  clear h
  generalize (E j).f1 = y1 at *
  cases hL : (E j).f2 with
  | false =>
    rw [hL] at z2 HV
    go_enter Try.func73, Try.ntmps73
    go_wp2_with fail
    go_ret
    exact ⟨by rw [HV.out]; rfl, rfl⟩
  | true =>
    rw [hL] at z2 HV
    go_enter Try.func73, Try.ntmps73
    go_wp2_with fail
    go_ret
    exact ⟨by rw [HV.out, ← heq]; simp, rfl⟩

set_option maxRecDepth 100000 in
set_option maxHeartbeats 4000000 in
theorem isOpen_any (a : Option Addr) (m cap : Nat) (E : Nat → SPart) (hm : m ≤ 1048576) (hS : byS E m ≤ 1048576) (w : World) (h : PxG a (m * 4) (FPart E) w) :
    Calls Try.prog 82 #[.slice a m cap] w fun e w' => e = .returned (.bool (opB E m)) ∧ Below w.heap.size w w' := by
  have HP := hide h
  have HV : Hid (opB E m = (apB E m && decide (0 < m) && tgB E m && !whB E m)) := rfl
  have HC1 : Hid (∀ w', Below w.heap.size w w' → Calls Try.prog 110 #[.slice a m cap] w' fun e w'' => e = .returned (.bool (tgB E m)) ∧ Below w'.heap.size w' w'') := fun w' hb => areOfOne_any a m cap E hm hS w' (HP.out.below hb)
  have HC2 : Hid (∀ w', 0 < m → Below w.heap.size w w' → Calls Try.prog 112 #[.slice a m cap] w' fun e w'' => e = .returned (.bool (whB E m)) ∧ w'' = w') := fun w' h0 hb => isWhole_any a m cap E hm h0 w' (HP.out.below hb)
  clear h
  generalize opB E m = V at *
  generalize tgB E m = V2 at *
  generalize whB E m = V3 at *
  go_enter Try.func82, Try.ntmps82
  go_wp2_with fail
  go_loopw [7] (fun i wr => ∃ k : Nat, k ≤ m ∧ i = .int .i64 k ∧ Hid (apB E k = true) ∧ Below w.heap.size w wr) (fun i _ => m - (intOf i).toNat)
  case atStart => exact ⟨0, by omega, rfl, hide rfl, Below.refl _ _⟩
  case round =>
    obtain ⟨k, hk, rfl, HA, hb⟩ := hrel
    have HB := hide hb
    by_cases hlt : k < m
    · have hlt' : (k : Int) < m := by omega
      obtain ⟨b, off, rfl, z0, z1, z2, z3⟩ := (HP.out.below hb).atPart hlt
      have HBA : Hid (Below w.heap.size w (wr.alloc (.cells #[.int .i64 (E k).f0, .int .i64 (E k).f1, .bool (E k).f2, .string (E k).f3] 36))) := hb.alloc hb.size _
      have c := fun w' => isPart_any (E k) w'
      cases hp : prB (E k) with
      | false =>
        rw [hp] at c
        have HF : Hid (V = false) := by show _ = _; rw [HV.out, apB_f hlt hp]; rfl
        clear HP HV HC1 HC2 HA hb HB
        generalize (E k).f0 = y0 at *
        generalize (E k).f1 = y1 at *
        generalize (E k).f2 = y2 at *
        generalize (E k).f3 = y3 at *
        go_wp2_with fail
        refine (c _).mono ?_
        rintro e w1 ⟨rfl, hb1⟩
        have HB1 := hide (bnext HBA.out (Nat.le_refl _) hb1)
        clear c hb1 HBA
        go_wp2_with fail
        go_ret
        exact ⟨by rw [HF.out]; rfl, HB1.out⟩
      | true =>
        rw [hp] at c
        have HA2 : Hid (apB E (k + 1) = true) := by show _ = _; simp only [apB]; rw [HA.out, hp]; rfl
        clear HA hb HB hp
        generalize hy0 : (E k).f0 = y0 at *
        generalize hy1 : (E k).f1 = y1 at *
        generalize hy2 : (E k).f2 = y2 at *
        generalize hy3 : (E k).f3 = y3 at *
        clear hy0 hy1 hy2 hy3
        go_wp2_with fail
        refine (c _).mono ?_
        rintro e w1 ⟨rfl, hb1⟩
        have HB1 := hide (bnext HBA.out (Nat.le_refl _) hb1)
        clear c hb1 HBA
        go_wp2_with fail
        go_roundw
        case rel => exact ⟨k + 1, by omega, by go_num, HA2, HB1.out⟩
        case measure => simp [intOf]; omega
    · obtain rfl : k = m := by omega
      have HV2 : Hid (V = (decide (0 < k) && V2 && !V3)) := by show _ = _; rw [HV.out, HA.out]; rfl
      clear HV HA HP
      by_cases h0 : 0 < k
      · have h0' : (0 : Int) < k := by omega
        rw [decide_eq_true h0] at HV2
        have c1 := HC1.out wr hb
        cases V2 with
        | false =>
          clear HC1 HC2 hb
          go_wp2_with fail
          refine c1.mono ?_
          rintro e w1 ⟨rfl, hb1⟩
          have HB1 := hide (bnext HB.out (Nat.le_refl _) hb1)
          clear c1 hb1
          go_wp2_with fail
          go_ret
          exact ⟨by rw [HV2.out]; rfl, HB1.out⟩
        | true =>
          clear HC1 hb
          go_wp2_with fail
          refine c1.mono ?_
          rintro e w1 ⟨rfl, hb1⟩
          have HB1 := hide (bnext HB.out (Nat.le_refl _) hb1)
          have c2 := HC2.out w1 h0 HB1.out
          clear c1 hb1 HC2
          go_wp2_with fail
          refine c2.mono ?_
          rintro e w2 ⟨rfl, rfl⟩
          clear c2
          go_wp2_with fail
          go_ret
          exact ⟨by rw [HV2.out]; simp, HB1.out⟩
      · have h0' : ¬ (0 : Int) < k := by omega
        rw [decide_eq_false h0] at HV2
        clear HC1 HC2 hb
        go_wp2_with fail
        go_ret
        exact ⟨by rw [HV2.out]; rfl, HB.out⟩

end Go.Proofs.Ytoomnfjcbdghgaa
