/- Runs of a list of noughts and ones: the specification and the program. -/
import Derived.Test.YtipkfaajngabmaaRnm
namespace Go.Proofs.Ytipkfaajngabmaa
open Go.RowKit

set_option maxRecDepth 100000 in
set_option maxHeartbeats 1000000 in
theorem l7Runs_any (a : Option Addr) (n cap : Nat) (f : Nat → Int) (hl : n ≤ 1048576) (hf : bit1 f n) (w : World) (h : Px a n f w) :
    Calls Try.prog 24 #[.slice a n cap] w (LsR (rcnt f n) (rval f n) w) := by
  have HP := hide h
  have HF := hide hf
  have HO0 := hide (own_start w w.heap.size (Nat.le_refl _) (rval f 0) rfl)
  have HB0 := hide (bnew w (.cells #[.int .i64 0] 2))
  clear h hf
  go_enter Try.func24, Try.ntmps24
  go_wp2_with fail
  go_loopw [3, 4, 5] (fun v q i wr => ∃ k : Nat, k ≤ n ∧ i = .int .i64 k ∧ q = .int .i64 (rnow f k) ∧ wr.ownsRow w.heap.size 2 1 v (rcnt f k) (ints (fl (rval f k) (rcnt f k))) ∧ Below w.heap.size w wr) (fun _ _ i _ => n - (intOf i).toNat)
  case atStart => exact ⟨0, by omega, rfl, rfl, HO0.out, HB0.out⟩
  case round =>
    obtain ⟨k, hk, rfl, rfl, ho, hb⟩ := hrel
    clear HO0 HB0
    by_cases hlt : k < n
    · obtain ⟨ba, off, rfl, hz⟩ := (HP.out.below hb).at hlt
      have hcb := rcnt_bd f k
      have hvb := rval_bd f k
      by_cases hs : f k = rnow f k
      · have HE := hide (rcnt_same hs)
        have HV := hide (rval_same hs)
        have hne : (f k != rnow f k) = false := by simp [hs]
        obtain ⟨M, hM⟩ : ∃ M, rcnt f k = M + 1 := ⟨rcnt f k - 1, by omega⟩
        have hvM := hvb M
        rw [hM] at ho HE HV hcb
        obtain ⟨b, cp, rfl, hB, hc⟩ := own_parts ho (by omega)
        obtain ⟨z1, z2⟩ := hc M (by omega)
        obtain ⟨Y, hY⟩ : ∃ Y, Y = rval f k M + 1 := ⟨_, rfl⟩
        have wY : IntKind.i64.wrap (rval f k M + 1) = Y := by rw [IntKind.wrap_i64]; omega
        have hML : M ≤ 1048576 := by omega
        have HO := hide (own_set (g := rval f (k + 1)) (k := M) (z := Y) ho (fun j hj => by rw [HV.out j, hY]; rfl))
        have HB := hide (hb.setCell (p := ⟨b, M, none⟩) hB (.int .i64 Y))
        have HN : Hid (rnow f (k + 1) = rnow f k) := by show f k = _; exact hs
        clear ho hb hc HP HF hvb hcb hM hs HV hY hvM hB
        generalize rval f k M = X at *
        generalize rnow f k = q at *
        generalize f k = p at *
        go_wp2_with fail
        refine ⟨⟨k + 1, by omega, rfl, by rw [HN.out], ?_, HB.out⟩, by simp [intOf]; omega⟩
        rw [HE.out]; exact HO.out
      · have HE := hide (rcnt_other hs)
        have HV := hide (rval_other hs)
        have hne : (f k != rnow f k) = true := by simp [hs]
        have hfl := rnow_flip HF.out hlt hs
        have hfb := HF.out k hlt
        have w1 : IntKind.i64.wrap (1 - rnow f k) = f k := by rw [IntKind.wrap_i64]; omega
        have HZ := hide (rval_out f k _ (Nat.le_refl _)).symm
        have HL : Hid (rcnt f k ≤ 1048576) := by show _ ≤ _; omega
        have HO := hide ho
        have HB := hide hb
        have HS := hide hb.size
        have HN : Hid (rnow f (k + 1) = f k) := rfl
        clear ho hb HP HF hvb hcb hs hfl hfb
        generalize rcnt f k = M at *
        generalize rnow f k = q at *
        generalize f k = p at *
        go_wp2_with (refine grow1 _ rfl _ _ rfl w.heap.size _ M (rval f k) rfl w HO.out HB.out HS.out 0 HZ.out rfl HL.out ?_)
        intro v' w' ho' hb' hs'
        obtain ⟨b, cp, rfl, hB, hc⟩ := own_parts ho' (by omega)
        obtain ⟨z1, z2⟩ := hc M (by omega)
        rw [← HZ.out] at z1
        have hML : M ≤ 1048576 := HL.out
        have HO2 := hide (own_set (g := rval f (k + 1)) (k := M) (z := 1) ho' (fun j hj => HV.out j))
        have HB2 := hide (hb'.setCell (p := ⟨b, M, none⟩) hB (.int .i64 1))
        clear HO HB HS ho' hb' hs' hc HV HZ HL hB hz
        go_wp2_with fail
        refine ⟨⟨k + 1, by omega, rfl, by rw [HN.out], ?_, HB2.out⟩, by simp [intOf]; omega⟩
        rw [HE.out]; exact HO2.out
    · obtain rfl : k = n := by omega
      clear HF HP
      go_wp2
      go_ret
      obtain ⟨a', cap', b', rfl, ow, hB⟩ := ow_fl ho
      exact ⟨a', cap', b', rfl, ow, hB, hb⟩

set_option maxRecDepth 100000 in
set_option maxHeartbeats 1000000 in
theorem runsIn_any (a : Option Addr) (n cap : Nat) (f : Nat → Int) (hl : n ≤ 1048576) (w : World) (h : Px a n f w) :
    Calls Try.prog 26 #[.slice a n cap] w (LsR (rcnt f n) (rval f n) w) := by
  have HP := hide h
  have HO0 := hide (own_start w w.heap.size (Nat.le_refl _) (rval f 0) rfl)
  have HB0 := hide (bnew w (.cells #[.int .i64 0] 2))
  clear h
  go_enter Try.func26, Try.ntmps26
  go_wp2_with fail
  go_loopw [3, 4, 6, 10] (fun v q _ i wr => ∃ k : Nat, k ≤ n ∧ i = .int .i64 k ∧ q = .int .i64 (rnow f k) ∧ wr.ownsRow w.heap.size 2 1 v (rcnt f k) (ints (fl (rval f k) (rcnt f k))) ∧ Below w.heap.size w wr) (fun _ _ _ i _ => n - (intOf i).toNat)
  case atStart => exact ⟨0, by omega, rfl, rfl, HO0.out, HB0.out⟩
  case round =>
    obtain ⟨k, hk, rfl, rfl, ho, hb⟩ := hrel
    clear HO0 HB0
    by_cases hlt : k < n
    · obtain ⟨ba, off, rfl, hz⟩ := (HP.out.below hb).at hlt
      have hcb := rcnt_bd f k
      have hvb := rval_bd f k
      by_cases hs : f k = rnow f k
      · have HE := hide (rcnt_same hs)
        have HV := hide (rval_same hs)
        have hne : (f k != rnow f k) = false := by simp [hs]
        obtain ⟨M, hM⟩ : ∃ M, rcnt f k = M + 1 := ⟨rcnt f k - 1, by omega⟩
        have hvM := hvb M
        rw [hM] at ho HE HV hcb
        obtain ⟨b, cp, rfl, hB, hc⟩ := own_parts ho (by omega)
        obtain ⟨z1, z2⟩ := hc M (by omega)
        obtain ⟨Y, hY⟩ : ∃ Y, Y = rval f k M + 1 := ⟨_, rfl⟩
        have wY : IntKind.i64.wrap (rval f k M + 1) = Y := by rw [IntKind.wrap_i64]; omega
        have hML : M ≤ 1048576 := by omega
        have HO := hide (own_set (g := rval f (k + 1)) (k := M) (z := Y) ho (fun j hj => by rw [HV.out j, hY]; rfl))
        have HB := hide (hb.setCell (p := ⟨b, M, none⟩) hB (.int .i64 Y))
        have HN : Hid (rnow f (k + 1) = rnow f k) := by show f k = _; exact hs
        clear ho hb hc HP hvb hcb hM hs HV hY hvM hB
        generalize rval f k M = X at *
        generalize rnow f k = q at *
        generalize f k = p at *
        go_wp2_with fail
        refine ⟨⟨k + 1, by omega, rfl, by rw [HN.out], ?_, HB.out⟩, by simp [intOf]; omega⟩
        rw [HE.out]; exact HO.out
      · have HE := hide (rcnt_other hs)
        have HV := hide (rval_other hs)
        have hne : (f k != rnow f k) = true := by simp [hs]
        have HZ := hide (rval_out f k _ (Nat.le_refl _)).symm
        have HL : Hid (rcnt f k ≤ 1048576) := by show _ ≤ _; omega
        have HO := hide ho
        have HB := hide hb
        have HS := hide hb.size
        have HN : Hid (rnow f (k + 1) = f k) := rfl
        clear ho hb HP hvb hcb hs
        generalize rcnt f k = M at *
        generalize rnow f k = q at *
        generalize f k = p at *
        go_wp2_with (refine grow1 _ rfl _ _ rfl w.heap.size _ M (rval f k) rfl w HO.out HB.out HS.out 0 HZ.out rfl HL.out ?_)
        intro v' w' ho' hb' hs'
        obtain ⟨b, cp, rfl, hB, hc⟩ := own_parts ho' (by omega)
        obtain ⟨z1, z2⟩ := hc M (by omega)
        rw [← HZ.out] at z1
        have hML : M ≤ 1048576 := HL.out
        have HO2 := hide (own_set (g := rval f (k + 1)) (k := M) (z := 1) ho' (fun j hj => HV.out j))
        have HB2 := hide (hb'.setCell (p := ⟨b, M, none⟩) hB (.int .i64 1))
        clear HO HB HS ho' hb' hs' hc HV HZ HL hB hz
        go_wp2_with fail
        refine ⟨⟨k + 1, by omega, rfl, by rw [HN.out], ?_, HB2.out⟩, by simp [intOf]; omega⟩
        rw [HE.out]; exact HO2.out
    · obtain rfl : k = n := by omega
      clear HP
      go_wp2
      go_ret
      obtain ⟨a', cap', b', rfl, ow, hB⟩ := ow_fl ho
      exact ⟨a', cap', b', rfl, ow, hB, hb⟩

end Go.Proofs.Ytipkfaajngabmaa
