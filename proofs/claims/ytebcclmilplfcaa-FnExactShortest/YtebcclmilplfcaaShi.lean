/- The program's Shortest. -/
import Derived.Test.YtebcclmilplfcaaShn
namespace Go.Proofs.Ytebcclmilplfcaa
open Go.RowKit

set_option maxRecDepth 100000 in
set_option maxHeartbeats 1000000 in
theorem implShortest_any (a : Option Addr) (n cap : Nat) (f : Nat → Int) (hl : n ≤ 1048576) (hcap : n ≤ cap) (w : World) (h : Px a n f w) :
    Calls Try.prog 19 #[.slice a n cap] w (ShR f n w) := by
  have HP := hide h
  have cN := codecNames_any w
  clear h
  go_enter Try.func19, Try.ntmps19
  go_wp2_with fail
  refine cN.mono ?_
  rintro e w1 ⟨rfl, hx1, hb1⟩
  have HX1 := hide hx1
  have HB1 := hide hb1
  clear cN hx1 hb1
  go_wp2_with fail
  go_loopw [4, 5, 7, 8, 9, 12] (fun nm ls _ _ _ i wr => ∃ j : Nat, j ≤ 4 ∧ i = .int .i64 j ∧ nm = .string (nmC (curC f n j)) ∧ LsV (cmL (curC f n j) f n) w ls wr ∧ PxT w.heap.size 4 g4 wr ∧ Below w.heap.size w wr) (fun _ _ _ _ _ i _ => 4 - (intOf i).toNat)
  case atStart =>
    have h0 : curC f n 0 = 0 := Nat.le_zero.1 (curC_le f n 0)
    exact ⟨0, by omega, rfl, by rw [h0]; rfl, by rw [h0, cmL_0]; exact ⟨none, 0, 0, rfl, .inl rfl, .inl rfl⟩, HX1.out, HB1.out⟩
  case round =>
    obtain ⟨j, hj, rfl, rfl, hls, hx, hb⟩ := hrel
    clear HX1 HB1
    have HL := hide hls
    have HX := hide hx
    have HB := hide hb
    have hc4 := curC_le f n j
    by_cases hlt : j < 4
    · have hz := hx j hlt
      have cC := implCompress_any (g4 j) a n cap f hl hcap wr (HP.out.below hb)
      rw [cdN_g4 hlt] at cC
      clear hls hx hb
      obtain ⟨a0, cap0, b0, rfl, ho0, hB0⟩ := HL.out
      clear ho0 hB0
      have HNM : Hid (nmC (j + 1) = g4 j) := nmC_at j
      cases hton : tonB f n with
      | false =>
        have HC : Hid (curC f n (j + 1) = 0) := curC_no f n _ hton
        have hc0 : curC f n j = 0 := curC_no f n _ hton
        rw [hc0] at HL
        rw [hc0]
        go_wp2_with fail
        refine cC.mono ?_
        intro e w2 hcm
        obtain ⟨a2, cap2, rfl, hl2, hb2⟩ := hcm.ls
        rw [cmOk_j, hton]
        have HLO := hide (HL.out.below hb2)
        have HB2 := hide (bnext HB.out (Nat.le_refl _) hb2)
        have HX2 := hide (HX.out.below hb2)
        clear cC hcm hl2 hb2 HL HB HX
        generalize (cmL 0 f n).length = l0 at *
        generalize (cmL (j + 1) f n).length = l1 at *
        go_wp2_with fail
        go_roundw
        case rel => exact ⟨j + 1, by omega, by go_num, by rw [HC.out], by rw [HC.out]; exact HLO.out, HX2.out, HB2.out⟩
        case measure => simp [intOf]; omega
      | true =>
        by_cases hs : curC f n j = 0
        · have HC : Hid (curC f n (j + 1) = j + 1) := curC_step f n j hton (.inl hs)
          have hem : (nmC (curC f n j)).toList.isEmpty = true := by rw [hs]; exact nmC_0
          generalize nmC (curC f n j) = NM at *
          go_wp2_with fail
          refine cC.mono ?_
          intro e w2 hcm
          obtain ⟨a2, cap2, rfl, hl2, hb2⟩ := hcm.ls
          rw [cmOk_j, hton]
          have HLN : Hid (LsV (cmL (j + 1) f n) w (.slice a2 (cmL (j + 1) f n).length cap2) w2) := by
            obtain ⟨a3, cap3, b3, hv3, ho3, hB3⟩ := hl2
            exact ⟨a3, cap3, b3, hv3, ho3, hB3.imp id (Nat.le_trans HB.out.size)⟩
          have HB2 := hide (bnext HB.out (Nat.le_refl _) hb2)
          have HX2 := hide (HX.out.below hb2)
          clear cC hcm hl2 hb2 HL HB HX
          generalize hl0 : (cmL (curC f n j) f n).length = l0 at *
          clear hl0
          obtain ⟨l1, hl1⟩ : ∃ l1, (cmL (j + 1) f n).length = l1 := ⟨_, rfl⟩
          rw [hl1] at HLN ⊢
          clear hl1
          go_wp2_with fail
          go_roundw
          case rel => exact ⟨j + 1, by omega, by go_num, by rw [HC.out, HNM.out], by rw [HC.out]; exact HLN.out, HX2.out, HB2.out⟩
          case measure => simp [intOf]; omega
        · have hem : (nmC (curC f n j)).toList.isEmpty = false := nmC_pos hs (by omega)
          by_cases hll : (cmL (j + 1) f n).length < (cmL (curC f n j) f n).length
          · have HC : Hid (curC f n (j + 1) = j + 1) := curC_step f n j hton (.inr hll)
            generalize nmC (curC f n j) = NM at *
            go_wp2_with fail
            refine cC.mono ?_
            intro e w2 hcm
            obtain ⟨a2, cap2, rfl, hl2, hb2⟩ := hcm.ls
            rw [cmOk_j, hton]
            have HLN : Hid (LsV (cmL (j + 1) f n) w (.slice a2 (cmL (j + 1) f n).length cap2) w2) := by
              obtain ⟨a3, cap3, b3, hv3, ho3, hB3⟩ := hl2
              exact ⟨a3, cap3, b3, hv3, ho3, hB3.imp id (Nat.le_trans HB.out.size)⟩
            have HB2 := hide (bnext HB.out (Nat.le_refl _) hb2)
            have HX2 := hide (HX.out.below hb2)
            have m0 := cmL_le (curC f n j) f n
            clear cC hcm hl2 hb2 HL HB HX
            generalize hl0 : (cmL (curC f n j) f n).length = l0 at *
            clear hl0
            obtain ⟨l1, hl1⟩ : ∃ l1, (cmL (j + 1) f n).length = l1 := ⟨_, rfl⟩
            rw [hl1] at HLN hll ⊢
            clear hl1
            go_wp2_with fail
            go_roundw
            case rel => exact ⟨j + 1, by omega, by go_num, by rw [HC.out, HNM.out], by rw [HC.out]; exact HLN.out, HX2.out, HB2.out⟩
            case measure => simp [intOf]; omega
          · have HC : Hid (curC f n (j + 1) = curC f n j) := curC_stay f n j hton (by rintro (h9 | h9); exact hs h9; exact hll h9)
            obtain ⟨NM, hNM⟩ : ∃ NM, nmC (curC f n j) = NM := ⟨_, rfl⟩
            rw [hNM] at hem ⊢
            have HNM2 := hide hNM
            clear hNM
            go_wp2_with fail
            refine cC.mono ?_
            intro e w2 hcm
            obtain ⟨a2, cap2, rfl, hl2, hb2⟩ := hcm.ls
            rw [cmOk_j, hton]
            have HLO := hide (HL.out.below hb2)
            have HB2 := hide (bnext HB.out (Nat.le_refl _) hb2)
            have HX2 := hide (HX.out.below hb2)
            have m0 := cmL_le (curC f n j) f n
            have m1 := cmL_le (j + 1) f n
            clear cC hcm hl2 hb2 HL HB HX
            obtain ⟨l0, hl0⟩ : ∃ l0, (cmL (curC f n j) f n).length = l0 := ⟨_, rfl⟩
            rw [hl0] at HLO hll m0 ⊢
            clear hl0
            generalize (cmL (j + 1) f n).length = l1 at *
            go_wp2_with fail
            go_roundw
            case rel => exact ⟨j + 1, by omega, by go_num, by rw [HC.out, HNM2.out], by rw [HC.out]; exact HLO.out, HX2.out, HB2.out⟩
            case measure => simp [intOf]; omega
    · obtain rfl : j = 4 := by omega
      clear hls hx hb HX
      obtain ⟨a0, cap0, b0, rfl, ho0, hB0⟩ := HL.out
      clear ho0 hB0
      have HF : Hid (ShR f n w (.returned (.tuple #[.string (nmC (curC f n 4)), .slice a0 (cmL (curC f n 4) f n).length cap0])) wr) := ⟨_, rfl, HL.out, HB.out⟩
      clear HL HB
      go_wp2_with fail
      go_ret2
      exact HF.out

end Go.Proofs.Ytebcclmilplfcaa
