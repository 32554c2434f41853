/- The program's codecs write: rice, runs, steps. -/
import Derived.Test.YtebcclmilplfcaaCmi
namespace Go.Proofs.Ytebcclmilplfcaa
open Go.RowKit

theorem bestLow_any (a : Option Addr) (n cap : Nat) (f : Nat → Int) (hn : n ≤ 65536) (ht : tnB f n) (w : World) (h : Px a n f w) :
    Calls Try.prog 45 #[.slice a n cap] w fun e w' => e = .returned (.int .i64 (bst f n)) ∧ w' = w := by
  have HC := hide (fun k hk => riceBits_any a n cap f hn ht k hk w h)
  have HN := hide (fun k hk => rcN_bd ht k hk n (Nat.le_refl _))
  clear h ht
  go_enter Try.func45, Try.ntmps45
  go_wp2
  go_loopw [3, 4, 5] (fun x _ i wr => ∃ j : Nat, j ≤ 16 ∧ i = .int .i64 j ∧ x = .int .i64 (bstK f n (j - 1)) ∧ wr = w) (fun _ _ i _ => 16 - (intOf i).toNat)
  case atStart => exact ⟨0, by omega, rfl, rfl, rfl⟩
  case round =>
    obtain ⟨j, hj, rfl, rfl, rfl⟩ := hrel
    by_cases hlt : j < 16
    · have hb := bstK_le f n (j - 1)
      have c1 := HC.out j (by omega)
      have c2 := HC.out (bstK f n (j - 1)) (by omega)
      have HX : Hid (bstK f n (j + 1 - 1) = if rcN f j n < rcN f (bstK f n (j - 1)) n then j else bstK f n (j - 1)) := by
        show _ = _
        rw [Nat.add_sub_cancel]
        cases j with
        | zero => simp [bstK]
        | succ j => rfl
      clear HC HN
      generalize bstK f n (j - 1) = K at *
      generalize rcN f j n = X at *
      generalize rcN f K n = Y at *
      by_cases hXY : X < Y
      · rw [if_pos hXY] at HX
        go_wp2_with fail
        refine c1.mono ?_
        rintro e w1 ⟨rfl, rfl⟩
        go_wp2_with fail
        refine c2.mono ?_
        rintro e w1 ⟨rfl, rfl⟩
        go_wp2_with fail
        go_roundw
        case rel => exact ⟨j + 1, hlt, by go_num, by rw [HX.out], trivial⟩
        case measure => simp [intOf]; omega
      · rw [if_neg hXY] at HX
        go_wp2_with fail
        refine c1.mono ?_
        rintro e w1 ⟨rfl, rfl⟩
        go_wp2_with fail
        refine c2.mono ?_
        rintro e w1 ⟨rfl, rfl⟩
        go_wp2_with fail
        go_roundw
        case rel => exact ⟨j + 1, hlt, by go_num, by rw [HX.out], trivial⟩
        case measure => simp [intOf]; omega
    · obtain rfl : j = 16 := by omega
      go_wp2
      go_ret
      exact ⟨rfl, rfl⟩

set_option maxRecDepth 100000 in
set_option maxHeartbeats 1000000 in
theorem putRice_any (p : Nat) (L : List Int) (a : Option Addr) (n cap : Nat) (f : Nat → Int) (hn : n ≤ 65536) (ht : tnB f n) (hlm : L.length ≤ 4000000) (W : World) (hP : Px a n f W) (hWp : W.heap.size ≤ p) (w : World) (hWb : Below W.heap.size W w) (h : BW p L w) :
    Calls Try.prog 33 #[.pointer (some ⟨p, 0, none⟩), .slice a n cap] w fun e w' => e = .returned (.tuple #[]) ∧ BW p (L ++ bitK (bst f n) 8 ++ rcB f (bst f n) n) w' ∧ Below p w w' := by
  have cB := bestLow_any a n cap f hn ht w (hP.below hWb)
  have cP := put_any p L (bst f n) 8 (by omega) (by omega) w h
  have e8 : ((8 : Nat) : Int) = 8 := rfl
  have e1 : ((1 : Nat) : Int) = 1 := rfl
  rw [e8] at cP
  have HLB : Hid (rcN f (bst f n) n ≤ 1114112) := bst_bits ht hn
  have HP := hide hP
  have HT := hide ht
  have HWp := hide hWp
  have HWb := hide hWb
  have hk15 := bst_le f n
  have HMN := hide (fun m (hm : m ≤ n) => rcN_mono f (bst f n) hm)
  clear hP hWp hWb h ht
  generalize bst f n = K at *
  go_enter Try.func33, Try.ntmps33
  go_wp2_with fail
  refine cB.mono ?_
  rintro e w1 ⟨rfl, rfl⟩
  clear cB
  go_wp2_with fail
  refine cP.mono ?_
  rintro e w2 ⟨rfl, hw2, hb2⟩
  clear cP
  have HW2 := hide hw2
  have HB2 := hide hb2
  have HLL : Hid ((L ++ bitK K 8).length ≤ 4000008) := by show _ ≤ _; rw [List.length_append, bitK_len]; omega
  clear hw2 hb2
  generalize hL2 : L ++ bitK K 8 = L2 at *
  have HL2 := hide hL2
  clear hL2
  go_wp2_with fail
  go_loopw [6, 14] (fun _ i wr => ∃ j : Nat, j ≤ n ∧ i = .int .i64 j ∧ BW p (L2 ++ rcB f K j) wr ∧ Below p w1 wr) (fun _ i _ => n - (intOf i).toNat)
  case atStart => exact ⟨0, by omega, rfl, by simpa [rcB] using HW2.out, HB2.out⟩
  case round =>
    obtain ⟨j, hj, rfl, hw, hb⟩ := hrel
    by_cases hlt : j < n
    · obtain ⟨b, off, rfl, hz⟩ := (HP.out.below (HWb.out.trans (hb.mono HWp.out))).at hlt
      have hfk := HT.out j hlt
      have hd0 : 0 ≤ f j / 2 ^ K := Int.ediv_nonneg hfk.1 (Int.le_of_lt (pow_pos2 K))
      have hd1 : f j / 2 ^ K ≤ 65535 := Int.le_trans (Int.ediv_le_self _ hfk.1) hfk.2
      have HZ : Hid (L2 ++ rcB f K (j + 1) = L2 ++ rcB f K j ++ ones (f j / 2 ^ K).toNat ++ [0] ++ bitK (f j) K) := by show _ = _; simp only [rcB, List.append_assoc]
      have HXL : Hid ((L2 ++ rcB f K j).length + (f j / 2 ^ K).toNat + 1 + K ≤ 8000000) := by
        show _ ≤ _
        have h1 := HMN.out (j + 1) hlt
        have h2 := HLL.out
        have h3 := HLB.out
        simp only [rcN] at h1
        rw [List.length_append, rcB_len]
        omega
      have HB := hide hb
      have HW := hide hw
      clear hw hb HP HT HWp HWb HMN HLL HLB HW2 HB2
      generalize L2 ++ rcB f K j = X at *
      obtain ⟨D, hD⟩ : ∃ D : Nat, f j / 2 ^ K = D := ⟨(f j / 2 ^ K).toNat, by omega⟩
      have hDn : (f j / 2 ^ K).toNat = D := by omega
      rw [hDn] at HZ HXL
      clear hDn hd0
      rw [hD] at hd1
      go_wp2_with fail
      go_loopw [21] (fun i wr => ∃ q : Nat, q ≤ D ∧ i = .int .i64 q ∧ BW p (X ++ ones q) wr ∧ Below p w1 wr) (fun i _ => D - (intOf i).toNat)
      case atStart => exact ⟨0, by omega, rfl, by simpa [ones] using HW.out, HB.out⟩
      case round =>
        obtain ⟨q, hq, rfl, hw, hb⟩ := hrel
        clear HW HB
        by_cases hlq : q < D
        · have c := put_any p (X ++ ones q) 1 1 (by omega) (by have := HXL.out; rw [List.length_append, ones_len]; omega) wr hw
          rw [e1] at c
          have HO : Hid (X ++ ones (q + 1) = X ++ ones q ++ bitK 1 1) := by show _ = _; rw [ones_step, ← List.append_assoc]; rfl
          have HB := hide hb
          clear hw hb HZ HXL
          generalize X ++ ones q = Y at *
          go_wp2_with fail
          refine c.mono ?_
          rintro e w' ⟨rfl, hw', hb'⟩
          have HW2 := hide hw'
          have HB2 := hide (HB.out.trans hb')
          clear hw' hb' c
          go_wp2_with fail
          go_roundw
          case rel => exact ⟨q + 1, by omega, by go_num, by rw [HO.out]; exact HW2.out, HB2.out⟩
          case measure => simp [intOf]; omega
        · obtain rfl : q = D := by omega
          have hxl := HXL.out
          have c := put_any p (X ++ ones q) 0 1 (by omega) (by rw [List.length_append, ones_len]; omega) wr hw
          rw [e1] at c
          have c2 := fun w' h' => put_any p (X ++ ones q ++ bitK 0 1) (f j) K (by omega) (by rw [List.length_append, List.length_append, ones_len, bitK_len]; omega) w' h'
          have HB := hide hb
          clear hw hb hxl HXL
          rw [show ([0] : List Int) = bitK 0 1 from rfl] at HZ
          generalize X ++ ones q = Y at *
          go_wp2_with fail
          refine c.mono ?_
          rintro e w' ⟨rfl, hw', hb'⟩
          have HB2 := hide (HB.out.trans hb')
          have c3 := c2 w' hw'
          clear hw' hb' c c2
          generalize Y ++ bitK 0 1 = Y1 at *
          go_wp2_with fail
          refine c3.mono ?_
          rintro e w'' ⟨rfl, hw', hb'⟩
          have HW3 := hide hw'
          have HB3 := hide (HB2.out.trans hb')
          clear hw' hb' c3
          go_wp2_with fail
          go_roundw
          case rel => exact ⟨j + 1, by omega, by go_num, by rw [HZ.out]; exact HW3.out, HB3.out⟩
          case measure => simp [intOf]; omega
    · obtain rfl : j = n := by omega
      go_wp2
      go_end0
      exact ⟨rfl, by rw [HL2.out]; exact hw, hb⟩

set_option maxRecDepth 100000 in
set_option maxHeartbeats 1000000 in
theorem putSteps_any (p : Nat) (L : List Int) (a : Option Addr) (n cap : Nat) (f : Nat → Int) (hn : n ≤ 65536) (ht : tnB f n) (hlm : L.length ≤ 4000000) (W : World) (hP : Px a n f W) (hWp : W.heap.size ≤ p) (w : World) (hWb : Below W.heap.size W w) (h : BW p L w) :
    Calls Try.prog 35 #[.pointer (some ⟨p, 0, none⟩), .slice a n cap] w fun e w' => e = .returned (.tuple #[]) ∧ BW p (L ++ bb (stL f n)) w' ∧ Below p w w' := by
  have HP := hide hP
  have HT := hide ht
  have HWp := hide hWp
  have HWb := hide hWb
  clear hP hWp hWb ht
  go_enter Try.func35, Try.ntmps35
  go_wp2
  go_loopw [4, 6, 7, 10] (fun y _ _ i wr => ∃ j : Nat, j ≤ n ∧ i = .int .i64 j ∧ y = .int .i64 (aheadV f j) ∧ BW p (L ++ bb (stL f j)) wr ∧ Below p w wr) (fun _ _ _ i _ => n - (intOf i).toNat)
  case atStart => exact ⟨0, by omega, rfl, rfl, by simpa [stL, bb] using h, Below.refl _ _⟩
  case round =>
    obtain ⟨j, hj, rfl, rfl, hw, hb⟩ := hrel
    clear h
    by_cases hlt : j < n
    · obtain ⟨b, off, rfl, hz⟩ := (HP.out.below (HWb.out.trans (hb.mono HWp.out))).at hlt
      have hfk := HT.out j hlt
      have ha := aheadV_bd HT.out j hj
      have hs := stpV_le hfk.1 hfk.2 ha.1 ha.2
      have hlen := stL_len HT.out j hj
      have hl3 := smL_len _ (Nat.le_trans hs (by omega))
      have c := putSmall_any p (L ++ bb (stL f j)) (stpV (f j) (aheadV f j)) (by omega) (by rw [List.length_append, bb_len]; omega) wr hw
      have HZ : Hid (L ++ bb (stL f (j + 1)) = L ++ bb (stL f j) ++ bb (smL (stpV (f j) (aheadV f j)))) := by show _ = _; simp only [stL, bb_app, List.append_assoc]
      have HA : Hid (aheadV f (j + 1) = f j) := rfl
      have HB := hide hb
      clear hw hb HP HT HWp HWb hlen hl3 hlm
      generalize L ++ bb (stL f j) = X at *
      generalize aheadV f j = A at *
      generalize f j = F at *
      have q1 : IntKind.i64.wrap (F - A) = F - A := by rw [IntKind.wrap_i64]; omega
      by_cases hle : A ≤ F
      · have e1 : ((stpV F A : Nat) : Int) = 2 * (F - A) := by unfold stpV; rw [if_pos hle]; omega
        rw [e1] at c
        have q2 : IntKind.i64.wrap (2 * (F - A)) = 2 * (F - A) := by rw [IntKind.wrap_i64]; omega
        have q3 : ¬ F - A < 0 := by omega
        clear e1
        generalize smL (stpV F A) = M at *
        go_wp2_with fail
        refine c.mono ?_
        rintro e w' ⟨rfl, hw', hb'⟩
        have HW2 := hide hw'
        have HB2 := hide (HB.out.trans hb')
        clear hw' hb' c
        go_wp2_with fail
        go_roundw
        case rel => exact ⟨j + 1, by omega, by go_num, by rw [HA.out], by rw [HZ.out]; exact HW2.out, HB2.out⟩
        case measure => simp [intOf]; omega
      · have e1 : ((stpV F A : Nat) : Int) = -2 * (F - A) - 1 := by unfold stpV; rw [if_neg hle]; omega
        rw [e1] at c
        have q2 : IntKind.i64.wrap (-2 * (F - A)) = -2 * (F - A) := by rw [IntKind.wrap_i64]; omega
        have q4 : IntKind.i64.wrap (-2 * (F - A) - 1) = -2 * (F - A) - 1 := by rw [IntKind.wrap_i64]; omega
        have q3 : F - A < 0 := by omega
        clear e1
        generalize smL (stpV F A) = M at *
        go_wp2_with fail
        refine c.mono ?_
        rintro e w' ⟨rfl, hw', hb'⟩
        have HW2 := hide hw'
        have HB2 := hide (HB.out.trans hb')
        clear hw' hb' c
        go_wp2_with fail
        go_roundw
        case rel => exact ⟨j + 1, by omega, by go_num, by rw [HA.out], by rw [HZ.out]; exact HW2.out, HB2.out⟩
        case measure => simp [intOf]; omega
    · obtain rfl : j = n := by omega
      go_wp2
      go_end0
      exact ⟨rfl, hw, hb⟩

end Go.Proofs.Ytebcclmilplfcaa
