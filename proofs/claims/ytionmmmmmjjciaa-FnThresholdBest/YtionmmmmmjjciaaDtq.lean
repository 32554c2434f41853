/- The draw of a histogram out of bytes. -/
import Derived.Test.YtionmmmmmjjciaaDth9
import Derived.Deep.DeepCutAuto
namespace Go.Proofs.Ytionmmmmmjjciaa
open Go.RowKit

/-- numbers are drawn -/
def DHR (w : World) (e : Ending) (w' : World) : Prop := ∃ (a : Option Addr) (n c : Nat) (f : Nat → Int), e = .returned (.slice a n c) ∧ n ≤ 257 ∧ Px a n f w' ∧ Below w.heap.size w w'
theorem own_pxH {w : World} {B n : Nat} {a : Option Addr} {c : Nat} {L : List Int} (h : w.ownsRow B 2 1 (.slice a n c) n (ints L)) : Px a n (fun k => L.getD k 0) w := by
  by_cases h0 : 0 < n
  · obtain ⟨b, c', hv, -, hc⟩ := own_partsL h h0
    cases hv
    exact .inr ⟨b, 0, rfl, fun k hk => by rw [Nat.zero_add]; exact (hc k hk).1⟩
  · exact .inl (by omega)

set_option maxRecDepth 100000 in
set_option maxHeartbeats 8000000 in
theorem drawThreshold_any (a : Option Addr) (len cap : Nat) (w : World) (h : Bytes a len w) :
    Calls Try.prog 5 #[.slice a len cap] w (DHR w) := by
  have hn := new_any a len cap w h
  have HAB := hide (bytes_ltH h (B := w.heap.size) (Nat.le_refl _))
  have HBY := hide h
  have hmk := fun w' => make_px 256 (by omega) w'
  have e256 : ((256 : Nat) : Int) = 256 := rfl
  rw [e256] at hmk
  clear h e256
  go_enter Try.func5, Try.ntmps5
  go_wp2_with fail
  refine hn.mono ?_
  rintro e w1' ⟨x, rfl, rfl⟩
  have HC1 := hide (cur_new a len cap w HBY.out x)
  have HB1 := hide (bnew w (.cells #[.slice a len cap, .int .i64 0, .int .i64 x] 47))
  obtain ⟨w1, hw1⟩ : ∃ w1, w1 = w.alloc (.cells #[.slice a len cap, .int .i64 0, .int .i64 x] 47) := ⟨_, rfl⟩
  have hs1 : w1.heap.size = w.heap.size + 1 := by rw [hw1]; simp
  rw [← hw1] at HC1 HB1
  rw [← hw1]
  clear hw1 hn HBY
  obtain ⟨p, hp⟩ : ∃ p, p = w.heap.size := ⟨_, rfl⟩
  rw [← hp] at HC1
  rw [← hp]
  have hp1 : p < w1.heap.size := by omega
  have HAB1 : Hid (len = 0 ∨ ∀ b off, a = some ⟨b, off, none⟩ → b < w1.heap.size) := HAB.out.imp id fun h b off e => by have := h b off e; omega
  have HPE := hide (And.intro hp hs1)
  clear hp hs1 HAB
  have HFIN : Hid (∀ v n L wr, n ≤ 257 → DN p a len cap w1 v n L wr → DHR w (.returned v) wr) := fun v n L wr hn hD => by
    have hq := HPE.out
    obtain ⟨a2, c2, rfl⟩ := own_isH hD.own
    exact ⟨a2, n, c2, _, rfl, hn, own_pxH hD.own, HB1.out.trans (hD.kept.below (by omega) (by omega))⟩
  have HD1 : Hid (DN p a len cap w1 (.slice (some ⟨w1.heap.size, 0, none⟩) 256 256) 256 (List.replicate 256 0) (w1.alloc (.cells (madeCells #[.int .i64 0] 256) 2))) := ⟨HC1.out.below (bnew _ _), Kept.of_below (bnew _ _), made_own 256 (by unfold maxLen; omega) w1⟩
  have hmk1 := hmk w1
  clear hmk HC1
  have hd := below_any p a len cap _ HD1.out.cur 14 (by omega) (by omega)
  go_upto_region 3 with fail
  generalize hw2 : w1.alloc (.cells (madeCells #[.int .i64 0] 256) 2) = w2 at *
  clear hw2 hmk1
  go_wp2_with fail
  refine hd.mono ?_
  rintro e w3 ⟨m, rfl, m0, m1, hc, hk⟩
  have HD3 := hide (HD1.out.step hp1 hc hk)
  obtain ⟨M, rfl⟩ : ∃ M : Nat, m = (M : Int) := ⟨m.toNat, by omega⟩
  have HM : Hid (M ≤ 14) := by show _ ≤ _; omega
  clear hd hc hk HD1 m0 m1
  generalize hBb : w1.heap.size = B at HD3 ⊢
  have HBb := hide hBb
  clear hBb
  go_wp2_with fail
  go_loopw [5] (fun i wr => ∃ (j : Nat) (L : List Int), i = .int .i64 j ∧ j ≤ M ∧ L.length = 256 ∧ DN p a len cap w1 (.slice (some ⟨B, 0, none⟩) 256 256) 256 L wr) (fun i _ => (intOf i).toNat)
  case atStart => exact ⟨M, _, rfl, Nat.le_refl _, by simp, HD3.out⟩
  case round =>
    obtain ⟨j, L, rfl, hjM, hL, hD⟩ := hrel
    have HD := hide hD
    have HL := hide hL
    clear hD HD3 hL
    by_cases hj : 0 < j
    · have hd := below_any p a len cap _ HD.out.cur 256 (by omega) (by omega)
      have HjB : Hid (j ≤ 14) := by have := HM.out; show _ ≤ _; omega
      go_wp2_with fail
      refine hd.mono ?_
      rintro e w4 ⟨i, rfl, i0, i1, hc, hk⟩
      obtain ⟨I, rfl⟩ : ∃ I : Nat, i = (I : Int) := ⟨i.toNat, by omega⟩
      have HI : Hid (I < 256) := by show _ < _; omega
      have HD4 := hide (HD.out.step hp1 hc hk)
      clear hd hc hk HD
      have hd := below_any p a len cap _ HD4.out.cur 60 (by omega) (by omega)
      go_wp2_with fail
      refine hd.mono ?_
      rintro e w5 ⟨y, rfl, y0, y1, hc, hk⟩
      have HD5 := hide (HD4.out.step hp1 hc hk)
      clear hd hc hk HD4
      obtain ⟨b', c', hv, hB', hcl⟩ := own_partsL HD5.out.own (by omega)
      cases hv
      obtain ⟨yc, yf⟩ := hcl I HI.out
      have hI3 : (I : Int) < 256 := by have := HI.out; omega
      have HS : Hid (DN p a len cap w1 (.slice (some ⟨B, 0, none⟩) 256 256) 256 (L.set I y) (w5.setCell ⟨B, I, none⟩ (.int .i64 y))) := by
        have hb : Below w1.heap.size w5 (w5.setCell ⟨B, I, none⟩ (.int .i64 y)) := (Below.refl _ _).setCell hB' _
        exact HD5.out.grown hp1 HAB1.out (own_setL HD5.out.own I y) hb
      have HL5 : Hid ((L.set I y).length = 256) := by show _ = _; rw [List.length_set]; exact HL.out
      have hjw : IntKind.i64.wrap ((j : Int) - 1) = ((j - 1 : Nat) : Int) := by have := HjB.out; rw [IntKind.wrap_i64]; omega
      have HJ1 : Hid (j - 1 ≤ M) := by show _ ≤ _; omega
      have HMe : Hid ((((j - 1 : Nat) : Int)).toNat < ((j : Nat) : Int).toNat) := by show _ < _; rw [Int.toNat_natCast, Int.toNat_natCast]; omega
      clear hcl HD5 HL i0 i1 y0 y1
      obtain ⟨J, hJ⟩ : ∃ J, J = j - 1 := ⟨_, rfl⟩
      rw [← hJ] at hjw HJ1 HMe
      clear hJ
      go_wp2_with fail
      go_roundw
      case rel => exact ⟨J, _, rfl, HJ1.out, HL5.out, HS.out⟩
      case measure => exact HMe.out
    · obtain rfl : j = 0 := by omega
      clear hj hjM
      have hd := once_any p a len cap _ HD.out.cur 3 (by omega) (by omega)
      go_upto_if 22 with (first | (refine hd.mono ?_; rintro e w4 ⟨q, rfl, hc, hk⟩; have HD4 := hide (HD.out.step hp1 hc hk); clear hd hc hk HD))
      go_cut [4] (fun s wc => ∃ n L, n ≤ 256 ∧ DN p a len cap w1 s n L wc)
      case first =>
        cases q
        · go_wp2_with fail
          go_meet
          exact ⟨256, L, by omega, HD4.out⟩
        · have hd := drawGrey_any spoil_any p a len cap w4 HD4.out.cur (Nat.lt_of_lt_of_le hp1 HD4.out.kept.size) (HAB1.out.imp id fun h b off e => Nat.lt_of_lt_of_le (h b off e) HD4.out.kept.size)
          go_wp2_with fail
          refine hd.mono ?_
          rintro e w5 ⟨W, H, x5, b5, m5, c5, f5, rfl, hm5, ho5, hb5, hc, hk⟩
          have HK5 := hide (HD4.out.kept.trans hk)
          have HC5 := hide hc
          have cH := specHistogramO_any W H x5 m5 c5 f5 (by omega) w5 ho5.px
          clear hd hc hk hb5 ho5 hm5 HD4
          go_wp2_with fail
          refine cH.mono ?_
          rintro e w6 ⟨v, n, L', rfl, hn, ho, hb⟩
          have HD6 : Hid (DN p a len cap w1 v n L' w6) := ⟨HC5.out.below hb, HK5.out.trans (Kept.of_below hb), owns_mono' ho HK5.out.size⟩
          clear cH ho hb HC5 HK5
          go_wp2_with fail
          go_meet
          exact ⟨n, L', hn, HD6.out⟩
      case rest =>
      obtain ⟨n, L', hn, hD⟩ := hcut
      obtain ⟨av, cv, rfl⟩ := own_isH hD.own
      have HD5 := hide hD
      have HN := hide hn
      clear hD hn HD4 HL
      go_upto_region 9 with fail
      go_cut [32] (fun s wc => ∃ bq : Bool, s = .bool bq ∧ (bq = true → 0 < n) ∧ DN p a len cap w1 (.slice av n cv) n L' wc)
      case first =>
        have hd := once_any p a len cap _ HD5.out.cur 14 (by omega) (by omega)
        go_wp2_with fail
        refine hd.mono ?_
        rintro e w6 ⟨q, rfl, hc, hk⟩
        have HD6 := hide (HD5.out.step hp1 hc hk)
        clear hd hc hk HD5
        cases q
        · go_wp2_with fail
          go_meet
          exact ⟨_, rfl, fun h => by simp at h, HD6.out⟩
        · by_cases h0 : 0 < n
          · have hni : (0 : Int) < (n : Int) := by omega
            go_wp2_with fail
            go_meet
            exact ⟨_, rfl, fun _ => h0, HD6.out⟩
          · obtain rfl : n = 0 := by omega
            go_wp2_with fail
            go_meet
            exact ⟨_, rfl, fun h => by simp at h, HD6.out⟩
      case rest =>
      obtain ⟨q, rfl, hq0, hD⟩ := hcut
      clear HD5
      have HD6 := hide hD
      clear hD
      go_upto_if 32 with fail
      go_cut [] (fun wc => ∃ L, DN p a len cap w1 (.slice av n cv) n L wc)
      case first =>
        cases q
        · go_wp2_with fail
          go_meet
          exact ⟨L', HD6.out⟩
        · have h0 := hq0 rfl
          have hni : (0 : Int) < (n : Int) := by omega
          have hd := below_any p a len cap _ HD6.out.cur n (by omega) (by have := HN.out; omega)
          go_wp2_with fail
          refine hd.mono ?_
          rintro e w7 ⟨i, rfl, i0, i1, hc, hk⟩
          obtain ⟨I, rfl⟩ : ∃ I : Nat, i = (I : Int) := ⟨i.toNat, by omega⟩
          have HI : Hid (I < n) := by show _ < _; omega
          have HD7 := hide (HD6.out.step hp1 hc hk)
          have HD8 := hide (HD7.out.alloc (.cells #[.int .i64 (-1), .int .i64 4096, .int .i64 4097, .int .i64 4611686018427387904, .int .i64 3000] 2))
          have HT : Hid (TabC 5 w7.heap.size (w7.alloc (.cells #[.int .i64 (-1), .int .i64 4096, .int .i64 4097, .int .i64 4611686018427387904, .int .i64 3000] 2))) := tab_lit [-1, 4096, 4097, 4611686018427387904, 3000]
          have HPT : Hid (w7.heap.size ≠ p) := by have := HD7.out.kept.size; show _ ≠ _; omega
          clear hd hc hk HD6 HD7 i0 i1
          have hd := below_any p a len cap _ HD8.out.cur 5 (by omega) (by omega)
          go_wp2_with fail
          refine hd.mono ?_
          rintro e w9 ⟨m, rfl, hm0, hm1, hc, hk⟩
          have HD9 := hide (HD8.out.step hp1 hc hk)
          obtain ⟨Mm, rfl⟩ : ∃ Mm : Nat, m = (Mm : Int) := ⟨m.toNat, by omega⟩
          have hMi : (Mm : Int) < 5 := by omega
          obtain ⟨Z, hz⟩ := (HT.out.kept hk HPT.out) Mm (by omega)
          clear hd hc hk HD8 HT hm0 hm1
          generalize w7.heap.size = Tq at *
          obtain ⟨b', c', hv, hB', hcl⟩ := own_partsL HD9.out.own h0
          obtain ⟨rfl, -, rfl⟩ := Value.slice.inj hv
          obtain ⟨yc, yf⟩ := hcl I HI.out
          have hI3 : (I : Int) < (n : Int) := by have := HI.out; omega
          have HS : Hid (∃ L, DN p a len cap w1 (.slice (some ⟨b', 0, none⟩) n cv) n L (w9.setCell ⟨b', I, none⟩ (.int .i64 Z))) := by
            have hb : Below w1.heap.size w9 (w9.setCell ⟨b', I, none⟩ (.int .i64 Z)) := (Below.refl _ _).setCell hB' _
            exact ⟨_, HD9.out.grown hp1 HAB1.out (own_setL HD9.out.own I Z) hb⟩
          clear hcl HD9 hv
          go_wp2_with fail
          go_meet
          exact HS.out
      case rest =>
        obtain ⟨L6, hD⟩ := hcut
        clear HD6
        have HD7 := hide hD
        clear hD
        have hd := once_any p a len cap _ HD7.out.cur 30 (by omega) (by omega)
        go_wp2_with fail
        refine hd.mono ?_
        rintro e w8 ⟨q8, rfl, hc, hk⟩
        have HD8 := hide (HD7.out.step hp1 hc hk)
        clear hd hc hk HD7
        cases q8
        · have HF := hide (HFIN.out _ n L6 w8 (by have := HN.out; omega) HD8.out)
          go_wp2_with fail
          go_ret
          exact HF.out
        · have HO : Hid (w8.ownsRow w1.heap.size 2 1 (.slice av n cv) n (ints L6) ∧ Below w1.heap.size w8 w8 ∧ w1.heap.size ≤ w8.heap.size) := ⟨HD8.out.own, Below.refl _ _, HD8.out.kept.size⟩
          have HjM : Hid (n ≤ 1048576) := by have := HN.out; show _ ≤ _; omega
          generalize Value.slice av n cv = v6 at *
          go_wp2_with (refine growL _ rfl _ _ rfl w1.heap.size v6 n L6 rfl w8 HO.out.1 HO.out.2.1 HO.out.2.2 0 rfl HjM.out ?_)
          intro v' w9 ho9 hb9 _
          have HF := hide (HFIN.out _ (n + 1) _ w9 (by have := HN.out; omega) (HD8.out.grown hp1 HAB1.out ho9 hb9))
          clear HO HD8 ho9 hb9
          go_wp2_with fail
          go_ret
          exact HF.out

end Go.Proofs.Ytionmmmmmjjciaa
