/- The specification's Compress: rice. -/
import Derived.Test.YtebcclmilplfcaaCmr
import Derived.Test.YtebcclmilplfcaaKpu
import Derived.Deep.RegionHeld3
namespace Go.Proofs.Ytebcclmilplfcaa
open Go.RowKit

set_option maxRecDepth 100000 in
set_option maxHeartbeats 2000000 in
theorem specCompressC_any (s : ByteArray) (hs : s = sRice) (a : Option Addr) (n cap : Nat) (f : Nat → Int) (hton : tonB f n = true) (w : World) (h : Px a n f w) :
    Calls Try.prog 6 #[.string s, .slice a n cap] w (CmR 2 f n w) := by
  obtain ⟨hn, htn⟩ := tonB_is hton
  have hT : cmOk 2 f n = true := by unfold cmOk; rw [hton]; rfl
  have HT := hide hT
  have HTN := hide htn
  have HP := hide h
  have cT := l13Tones_any a n cap f (by omega) w h
  have hq : (decide (n ≤ 65536) && allG (fun k => inB (f k) 0 65535) n) = true := hton
  rw [hq] at cT
  have cC := specCodecs_any w
  have cF := fun w' h' => l12Find_any w.heap.size 4 4 g4 s (by omega) w' h'
  have hcd : cdN s = 2 := by rw [hs]; decide
  have hsl := smL_len n (by omega)
  have HCL : Hid (cmL 2 f n = smL n ++ cdL 2 f n) := by show _ = _; unfold cmL; rw [if_pos hT]
  have HCLe := hide (cmL_le 2 f n)
  have k1 : (s.toList == [112, 108, 97, 105, 110]) = false := by rw [hs, ByteArray.toList_eq]; decide
  have k3 : (s.toList == [114, 117, 110, 115]) = false := by rw [hs, ByteArray.toList_eq]; decide
  have k4 : (s.toList == [115, 116, 101, 112, 115]) = false := by rw [hs, ByteArray.toList_eq]; decide
  have k2 : (s.toList == [114, 105, 99, 101]) = true := by rw [hs, ByteArray.toList_eq]; decide
  clear h hT htn hq hton hs
  go_enter Try.func6, Try.ntmps6
  go_wp2_with fail
  refine cT.mono ?_
  rintro e w1 ⟨rfl, rfl⟩
  clear cT
  go_wp2_with fail
  refine cC.mono ?_
  rintro e w2 ⟨rfl, hx2, hb2⟩
  have cF2 := cF w2 hx2
  have HB2 := hide hb2
  clear cC cF hx2 hb2
  go_wp2_with fail
  refine cF2.mono ?_
  rintro e w3 ⟨⟨r, rfl, hr⟩, rfl⟩
  have hr' := isAt_cd hr
  rw [hcd] at hr'
  have hr0 : r = 1 := by omega
  subst hr0
  clear hr hr' cF2 hcd
  have HB3 : Hid (Below w1.heap.size w1 (w3.alloc (.cells #[] 5))) := HB2.out.alloc HB2.out.size _
  have HO3 : Hid ((w3.alloc (.cells #[] 5)).ownsRow w3.heap.size 5 1 (.slice (some ⟨w3.heap.size, 0, none⟩) 0 0) ([] : List Int).length (bys [])) := nil_own w3
  have HZ3 := hide HB2.out.size
  clear HB2
  generalize hwa : w3.alloc (.cells #[] 5) = wa at *
  have HSA : Hid (w3.heap.size ≤ wa.heap.size) := by show _ ≤ _; rw [← hwa]; simp
  have cS := l13Small_any w3.heap.size _ 0 [] n (by omega) (by omega) wa HO3.out rfl HSA.out
  go_wp2_with fail
  clear hwa
  refine cS.mono ?_
  rintro e w4 ⟨v4, rfl, ho4, hb4⟩
  rw [List.nil_append] at ho4
  have HO4 := hide (owns_mono ho4 HZ3.out)
  have HB4 : Hid (Below w1.heap.size w1 w4) := HB3.out.trans (hb4.mono HZ3.out)
  clear cS ho4 hb4 HO3 HB3 HSA HZ3
  have hb15 := bst_le f n
  have HBB := hide (bst_bits HTN.out hn)
  have HCR := hide (fun k hk wz hz => l13Rice_any a n cap f hn HTN.out k hk wz hz)
  go_wp2_with fail
  go_loopw [12, 13] (fun x i wr => ∃ j : Nat, 1 ≤ j ∧ j ≤ 16 ∧ i = .int .i64 j ∧ x = .int .i64 (bstK f n (j - 1)) ∧ wr.ownsRow w1.heap.size 5 1 v4 (smL n).length (bys (smL n)) ∧ Below w1.heap.size w1 wr) (fun _ i _ => 16 - (intOf i).toNat)
  case atStart => exact ⟨1, by omega, by omega, rfl, rfl, HO4.out, HB4.out⟩
  case round =>
    obtain ⟨j, hj1, hj, rfl, rfl, ho, hb⟩ := hrel
    clear HO4 HB4
    by_cases hlt : j < 16
    · have hbk := bstK_le f n (j - 1)
      have HX : Hid (bstK f n (j + 1 - 1) = if rcN f j n < rcN f (bstK f n (j - 1)) n then j else bstK f n (j - 1)) := by
        show _ = _
        obtain ⟨i, rfl⟩ : ∃ i, j = i + 1 := ⟨j - 1, by omega⟩
        rfl
      have HOd := hide (fun d => ownsRow_below' ho (below_drewN (Below.refl _ _) d))
      have HBd := hide (fun d => below_drewN hb d)
      have c1 := HCR.out j (by omega) wr (HP.out.below hb)
      have c2 := HCR.out (bstK f n (j - 1)) (by omega)
      have HPd := hide (fun d => HP.out.below (below_drewN hb d))
      clear HCR ho hb HP HTN HBB
      generalize bstK f n (j - 1) = K at *
      generalize rcN f j n = X at *
      generalize rcN f K n = Y at *
      go_wp2_with fail
      refine c1.mono ?_
      rintro e w5 ⟨rfl, d, rfl⟩
      have c3 := c2 _ (HPd.out d)
      have HOe := hide (HOd.out d)
      have HBe := hide (HBd.out d)
      clear c1 c2 HPd HOd HBd
      generalize wr.drewN d = wd at *
      have HOd := hide (fun d => ownsRow_below' HOe.out (below_drewN (Below.refl _ _) d))
      have HBd := hide (fun d => below_drewN HBe.out d)
      clear HOe HBe
      by_cases hXY : X < Y
      · rw [if_pos hXY] at HX
        go_wp2_with fail
        refine c3.mono ?_
        rintro e w6 ⟨rfl, d, rfl⟩
        have HOe := hide (HOd.out d)
        have HBe := hide (HBd.out d)
        clear c3 HOd HBd
        generalize wd.drewN d = we at *
        go_wp2_with fail
        go_roundw
        case rel => exact ⟨j + 1, by omega, by omega, by go_num, by rw [HX.out], HOe.out, HBe.out⟩
        case measure => simp [intOf]; omega
      · rw [if_neg hXY] at HX
        go_wp2_with fail
        refine c3.mono ?_
        rintro e w6 ⟨rfl, d, rfl⟩
        have HOe := hide (HOd.out d)
        have HBe := hide (HBd.out d)
        clear c3 HOd HBd
        generalize wd.drewN d = we at *
        go_wp2_with fail
        go_roundw
        case rel => exact ⟨j + 1, by omega, by omega, by go_num, by rw [HX.out], HOe.out, HBe.out⟩
        case measure => simp [intOf]; omega
    · obtain rfl : j = 16 := by omega
      have hK : bstK f n (16 - 1) = bst f n := rfl
      rw [hK, show ((16 : Nat) : Int) = 16 from rfl]
      clear hK hj1 hlt hj HCR
      have HO5 := hide ho
      have HB5 := hide hb
      have HON := hide (nil_own wr)
      have HBN : Hid (Below wr.heap.size wr (wr.alloc (.cells #[] 5))) := bnew _ _
      clear ho hb
      have HMX := hide (fun m (hm : m ≤ n) => rcN_mono f (bst f n) hm)
      have HCD : Hid (cdL 2 f n = [(bst f n : Int)] ++ fl (byA (rcB f (bst f n) n)) (nB (rcN f (bst f n) n))) := rfl
      generalize bst f n = K at *
      generalize hwb : wr = w5 at *
      clear hwb
      generalize hwc : w5.alloc (.cells #[] 5) = wc at *
      go_wp2_with fail
      clear hwc
      go_loopw [14, 15, 16, 17] (fun u i _ _ wr => ∃ j : Nat, j ≤ n ∧ i = .int .i64 j ∧ wr.ownsRow w5.heap.size 5 1 u (rcB f K j).length (bys (rcB f K j)) ∧ Below w5.heap.size w5 wr) (fun _ i _ _ _ => n - (intOf i).toNat)
      case atStart => exact ⟨0, by omega, rfl, HON.out, HBN.out⟩
      case round =>
        obtain ⟨j, hj, rfl, ho, hb⟩ := hrel
        clear HON HBN
        have HO := hide ho
        have HB := hide hb
        clear ho hb
        by_cases hlt : j < n
        · have HPw := hide (HP.out.below HB5.out)
          obtain ⟨b, off, rfl, hz⟩ := (HPw.out.below HB.out).at hlt
          have hfk := HTN.out j hlt
          have c2 := l13Two_any K (by omega)
          have hd0 : 0 ≤ f j / 2 ^ K := Int.ediv_nonneg hfk.1 (Int.le_of_lt (pow_pos2 K))
          have hd1 : f j / 2 ^ K ≤ 65535 := Int.le_trans (Int.ediv_le_self _ hfk.1) hfk.2
          have hdv : (f j).tdiv (2 ^ K) = f j / 2 ^ K := Int.tdiv_eq_ediv_of_nonneg hfk.1
          have hrc : (rcB f K j).length + (f j / 2 ^ K).toNat + 1 + K ≤ 1200000 := by
            have h1 := HMX.out (j + 1) hlt
            have h2 := HBB.out
            simp only [rcN] at h1
            rw [rcB_len]
            omega
          have HZ : Hid (rcB f K (j + 1) = rcB f K j ++ ones (f j / 2 ^ K).toNat ++ [0] ++ bitK (f j) K) := by show _ = _; simp only [rcB, List.append_assoc]
          have hp0 := pow_pos2 K
          obtain ⟨D, hD⟩ : ∃ D : Nat, f j / 2 ^ K = D := ⟨(f j / 2 ^ K).toNat, by omega⟩
          rw [hD, Int.toNat_natCast] at hrc HZ
          rw [hD] at hdv hd1
          clear hd0 hD
          have HOd := hide (fun d => ownsRow_below' HO.out (below_drewN (Below.refl _ _) d))
          have HBd := hide (fun d => below_drewN HB.out d)
          have HZK : Hid (∀ wz, Below w5.heap.size w5 wz → wz.cell? ⟨b, off + j, none⟩ = some (.int .i64 (f j))) := fun wz h => by
            obtain ⟨b', off', e, hz'⟩ := (HPw.out.below h).at hlt
            cases e
            exact hz'
          clear HO HB HPw
          generalize rcB f K j = X at *
          generalize hF : f j = F at *
          have hP2 : Hid (∀ q : Nat, q ≤ 15 → F / 2 ^ q ≤ 65535 ∧ 0 ≤ F / 2 ^ q) := fun q _ => ⟨Int.le_trans (Int.ediv_le_self _ hfk.1) hfk.2, Int.ediv_nonneg hfk.1 (Int.le_of_lt (pow_pos2 q))⟩
          generalize hPK : (2 : Int) ^ K = P at *
          have hPn : ¬ P = 0 := by omega
          have hDw : IntKind.i64.wrap (D : Int) = (D : Int) := by rw [IntKind.wrap_i64]; omega
          clear hF hPK
          go_wp2_with fail
          go_quiet ((go_at_call 27; exact Calls.quiet_of_same (c2 _)))
          have HO := hide (HOd.out nq)
          have HB := hide (HBd.out nq)
          clear HOd HBd hz c2
          generalize wr.drewN nq = wd at *
          go_wp2_with fail
          go_loopw [14, 16] (fun u x wr => ∃ (q t : Nat), Hid (q + t = D) ∧ x = .int .i64 t ∧ wr.ownsRow w5.heap.size 5 1 u (X ++ ones q).length (bys (X ++ ones q)) ∧ Below w5.heap.size w5 wr) (fun _ x _ => (intOf x).toNat)
          case atStart => exact ⟨0, D, hide (by omega), rfl, by rw [show ones 0 = [] from rfl, List.append_nil]; exact HO.out, HB.out⟩
          case round =>
            obtain ⟨q, t, HQT, rfl, ho, hb⟩ := hrel
            clear HO HB
            have HO := hide ho
            have HB := hide hb
            have HS : Hid (w5.heap.size ≤ wr.heap.size) := hb.size
            have hXl : (X ++ ones q).length = X.length + q := by rw [List.length_append, ones_len]
            have HN : Hid ((X ++ ones q).length + 1 ≤ 2000000000) := by show _ ≤ _; have := HQT.out; omega
            have HXl := hide hXl
            have ht6 : t ≤ 65535 := by have := HQT.out; omega
            clear ho hb hXl
            by_cases ht : 0 < t
            · obtain ⟨t', rfl⟩ : ∃ t', t = t' + 1 := ⟨t - 1, by omega⟩
              have hc1 : (0 : Int) < ((t' + 1 : Nat) : Int) := by omega
              have hc2 : IntKind.i64.wrap (((t' + 1 : Nat) : Int) - 1) = (t' : Int) := by rw [IntKind.wrap_i64]; omega
              have HOne : Hid (X ++ ones (q + 1) = X ++ ones q ++ [1]) := by show _ = _; rw [ones_step, List.append_assoc]
              generalize X ++ ones q = Y at *
              go_wp2_with (refine growUG _ rfl _ _ rfl w5.heap.size _ Y.length Y rfl w5 HO.out HB.out HS.out [1] 1 rfl rfl HN.out ?_)
              intro v' w' ho' hb' hs'
              have HO' : Hid (w'.ownsRow w5.heap.size 5 1 v' (X ++ ones (q + 1)).length (bys (X ++ ones (q + 1)))) := by
                show World.ownsRow _ _ _ _ _ _ _
                rw [HOne.out, List.length_append]; exact ho'
              have HB' := hide hb'
              clear ho' hb' hs' HO HB HOne
              go_wp2_with fail
              go_roundw
              case rel => exact ⟨q + 1, t', hide (by have := HQT.out; omega), by go_num, HO'.out, HB'.out⟩
              case measure => simp [intOf]
            · obtain rfl : t = 0 := by omega
              obtain rfl : q = D := by have := HQT.out; omega
              generalize X ++ ones q = Y at *
              clear HQT ht
              go_wp2_with (refine growUG _ rfl _ _ rfl w5.heap.size _ Y.length Y rfl w5 HO.out HB.out HS.out [0] 1 rfl rfl HN.out ?_)
              intro v' w' ho' hb' hs'
              have HO' : Hid (w'.ownsRow w5.heap.size 5 1 v' (Y ++ [0]).length (bys (Y ++ [0]))) := by
                show World.ownsRow _ _ _ _ _ _ _
                rw [List.length_append]; exact ho'
              have HB' := hide hb'
              have hYl : (Y ++ [0]).length + K ≤ 1200000 := by rw [List.length_append, HXl.out]; simp; omega
              clear ho' hb' hs' HO HB HN HS HXl
              generalize Y ++ [0] = Z at *
              go_wp2_with fail
              go_loopw [14, 17] (fun u x wr => ∃ t : Nat, t ≤ K ∧ x = .int .i64 t ∧ wr.ownsRow w5.heap.size 5 1 u (Z ++ bitK F t).length (bys (Z ++ bitK F t)) ∧ Below w5.heap.size w5 wr) (fun _ x _ => K - (intOf x).toNat)
              case atStart => exact ⟨0, by omega, rfl, by rw [show bitK F 0 = [] from rfl, List.append_nil]; exact HO'.out, HB'.out⟩
              case round =>
                obtain ⟨t, ht, rfl, ho, hb⟩ := hrel
                clear HO' HB'
                have HO := hide ho
                have HB := hide hb
                have hs5 : w5.heap.size ≤ wr.heap.size := hb.size
                clear ho hb
                by_cases htK : t < K
                · have c2 := l13Two_any t (by omega)
                  have hV := hP2.out t (by omega)
                  have hdv2 : F.tdiv (2 ^ t) = F / 2 ^ t := Int.tdiv_eq_ediv_of_nonneg hfk.1
                  have hpt := pow_pos2 t
                  have hZb : (Z ++ bitK F t).length = Z.length + t := by rw [List.length_append, bitK_len]
                  have HZ2 : Hid (Z ++ bitK F (t + 1) = Z ++ bitK F t ++ [F / 2 ^ t % 2]) := by show _ = _; rw [bitK_step, List.append_assoc]
                  have hN : (Z ++ bitK F t).length + 1 ≤ 1300000 := by omega
                  have hz := HZK.out wr HB.out
                  have hbF : b < w5.heap.size := by
                    have := HZK.out w5 (Below.refl _ _)
                    exact World.block_lt_of_cell? w5 _ this
                  have hne : some b ≠ u14.ownBlock := fun e => by have := (HO.out.lt b e.symm).1; omega
                  have hlt14 : Hid (∀ q, u14.ownBlock = some q → w5.heap.size ≤ q) := fun q hq => (HO.out.lt q hq).1
                  generalize Z ++ bitK F t = Y2 at *
                  generalize hV2 : F / 2 ^ t = V at *
                  generalize hP2t : (2 : Int) ^ t = P2 at *
                  have hP2n : ¬ P2 = 0 := by omega
                  have v1 : IntKind.i64.wrap V = V := by rw [IntKind.wrap_i64]; omega
                  have v2 : V.tmod 2 = V % 2 := Int.tmod_eq_emod_of_nonneg (by omega)
                  have v3 : IntKind.i64.wrap (V % 2) = V % 2 := by rw [IntKind.wrap_i64]; omega
                  have v4' : IntKind.u8.wrap (V % 2) = V % 2 := by rw [IntKind.wrap_u8]; omega
                  have hbit : 0 ≤ V % 2 ∧ V % 2 ≤ 1 := by omega
                  obtain ⟨ti, hi1, hi2, hi3, hi4⟩ := info5
                  have HI1 := hide hi1
                  have SK0 := hide hz
                  clear hi1 hV2 hP2t hZb
                  have HBE : Hid (Below w5.heap.size w5 ((wr.alloc (.cells #[.int .u8 (V % 2)] 5)).drew)) := (HB.out.alloc hs5 _).drew
                  have hcz : ((wr.alloc (.cells #[.int .u8 (V % 2)] 5)).drew).cell? ⟨b, off + j, none⟩ = some (.int .i64 F) := HZK.out _ HBE.out
                  generalize hVV : V % 2 = VV at *
                  go_upto_region 44 with fail
                  go_region_held3 (fun (w' : World) => w'.cell? ⟨b, off + j, none⟩ = some (.int .i64 F))
                    (first
                      | with_reducible exact SK.out
                      | with_reducible exact SK0.out
                      | with_reducible exact hcz
                      | (simp [go_sem]; done)
                      | go_keep)
                    (first
                      | (go_at_call 27; (with_reducible refine (c2 _).mono ?_); rintro e w9 ⟨rfl, rfl⟩)
                      | (refine step_append_lies _ (by rfl) _ _ _ (by rfl) w5.heap.size 5 ti _ 1 1 Try.underlying23 HI1.out hi2 hi3 hi4 rfl (by omega) u14 Y2.length (bys Y2) (by rfl) ((HO.out.alloc _).drew) ⟨wr.heap.size, 0, none⟩ 1 1 [.int .u8 VV] (by rfl) (by rfl) (World.news_of_block (cs := #[.int .u8 VV]) (t := 5) (fr := (0, 0)) (heap_alloc_new wr _)) (by simp [Value.oneCell']) (by omega) (by unfold maxLen; omega) (by omega) (by simp; omega) (wr.heap.size + 1) (by simp) ?_; intro gg cap1 w1' hown1 hgrow hat hlt1; have SK : Hid (w1'.cell? ⟨b, off + j, none⟩ = some (.int .i64 F)) := (hgrow.cell_far ⟨b, off + j, none⟩ (by simp; omega) hne).trans hcz))
                  all_goals
                    have HO1 : Hid (w1'.ownsRow w5.heap.size 5 1 (.slice (some ⟨gg, 0, none⟩) (Y2.length + 1) cap1) (Z ++ bitK F (t + 1)).length (bys (Z ++ bitK F (t + 1)))) := by
                      show World.ownsRow _ _ _ _ _ _ _
                      rw [HZ2.out, List.length_append, bys_append]; exact hown1
                    have HB1 : Hid (Below w5.heap.size w5 w1') := HBE.out.trans ((Below.refl _ _).grown hgrow (by simp; omega) hlt14.out)
                    clear hown1 hgrow hat hlt1 SK SK0 HO HBE hcz HB
                    go_wp2_with fail
                    go_roundw
                    case rel => exact ⟨t + 1, by omega, by go_num, HO1.out, HB1.out⟩
                    case measure => simp [intOf]; omega
                · obtain rfl : t = K := by omega
                  have HO2 : Hid (wr.ownsRow w5.heap.size 5 1 u14 (rcB f t (j + 1)).length (bys (rcB f t (j + 1)))) := by show World.ownsRow _ _ _ _ _ _ _; rw [HZ.out]; exact HO.out
                  clear HO HZ HZK
                  go_wp2_with fail
                  go_roundw
                  case rel => exact ⟨j + 1, by omega, by go_num, HO2.out, HB.out⟩
                  case measure => simp [intOf]; omega
        · obtain rfl : j = n := by omega
          obtain ⟨a2, cap2, b2, rfl, hu, hB2⟩ := own_u8 HO.out
          have hlen : (rcB f K j).length ≤ 1114112 := by rw [rcB_len]; exact HBB.out
          have hOutK : Hid (wr.ownsRow w1.heap.size 5 1 v4 (smL j).length (bys (smL j))) := owns_keptB HO5.out HB.out
          have hOutB : Hid (Below w1.heap.size w1 wr) := bnext HB5.out (Nat.le_refl _) HB.out
          have hoB : ∀ q, v4.ownBlock = some q → q < w5.heap.size := fun q hq => (HO5.out.lt q hq).2
          have HS : Hid (w1.heap.size ≤ wr.heap.size) := hOutB.out.size
          have hU : PxU a2 (rcB f K j).length (fun k => (rcB f K j).getD k 0) wr := hu.pxU
          have hKw : IntKind.u8.wrap (K : Int) = (K : Int) := by rw [IntKind.wrap_u8]; omega
          have HKPU : Hid (∀ wz, KpV v4 wr wz → PxU a2 (rcB f K j).length (fun k => (rcB f K j).getD k 0) wz) := fun wz hk => by
            rcases hu with h0 | ⟨ha, hr⟩
            · exact .inl h0
            · refine .inr ⟨b2, 0, ha, fun k hk' => ?_⟩
              rw [Nat.zero_add]
              refine hk.cell (hr k hk').1 (fun e => ?_)
              have h1 := hoB _ e
              have h2 : b2 < w5.heap.size := h1
              omega
          have hbits := rcB_bits f K j
          have cB := fun wz hz => l13BytesA_any a2 (rcB f K j).length cap2 (rcB f K j) rfl (by omega) hbits wz hz
          rw [rcB_len] at cB hlen
          have HFN : Hid (smL j ++ [(K : Int)] ++ fl (byA (rcB f K j)) (nB (rcN f K j)) = cmL 2 f j) := by
            show _ = _
            rw [HCL.out, HCD.out, List.append_assoc]
          have hrl := rcB_len f K j
          rw [hrl] at HKPU
          have HNB : Hid ((smL j).length + 1 + nB (rcN f K j) ≤ 1000000) := by show _ ≤ _; unfold nB; omega
          rw [hrl]
          clear hu hU HO HB HO5 HB5 HMX HBB HCL HCD hbits hlen hB2 hrl
          generalize hBY : byA (rcB f K j) = BY at *
          generalize hNBJ : nB (rcN f K j) = NBJ at *
          generalize rcN f K j = RN at *
          generalize rcB f K j = RB at *
          clear hBY hNBJ
          go_wp2_with (refine growUM _ rfl _ _ rfl w1.heap.size _ (smL j).length (smL j) rfl w1 hOutK.out hOutB.out HS.out [(K : Int)] 1 rfl rfl (by decide) (by omega) ?_)
          intro v7 w7 ho7 hb7 hs7 hk7 hm7
          have cB7 := cB w7 (HKPU.out w7 hk7)
          have HO7 := hide ho7
          have HB7 := hide hb7
          clear ho7 hb7 hs7 hk7 hm7 cB HKPU hOutK hOutB
          go_wp2_with fail
          refine cB7.mono ?_
          rintro e w8 ⟨rfl, hr, hb8⟩
          have HO8 := hide (owns_keptB HO7.out hb8)
          have HB8 : Hid (Below w1.heap.size w1 w8) := bnext HB7.out (Nat.le_refl _) hb8
          have HS8 : Hid (w1.heap.size ≤ w8.heap.size) := HB8.out.size
          have HSR : Hid (SrcU 0 (.slice (some ⟨w7.heap.size, 0, none⟩) (fl BY NBJ).length NBJ) (fl BY NBJ) w8) := by
            refine .inr ⟨w7.heap.size, 0, NBJ, Nat.zero_le _, rfl, fun k hk => ?_⟩
            rw [fl_len] at hk
            rw [Nat.zero_add, fl_at _ _ _ hk]
            exact (hr k hk).1
          rw [fl_len] at HSR
          clear cB7 hr hb8 HO7 HB7
          have HLF : Hid ((smL j ++ [(K : Int)]).length + (fl BY NBJ).length ≤ 2000000000) := by show _ ≤ _; have := HNB.out; rw [fl_len, List.length_append]; simp; omega
          have HO9 : Hid (w8.ownsRow w1.heap.size 5 1 v7 (smL j ++ [(K : Int)]).length (bys (smL j ++ [(K : Int)]))) := by show World.ownsRow _ _ _ _ _ _ _; rw [List.length_append]; exact HO8.out
          clear HO8
          generalize smL j ++ [(K : Int)] = MM at *
          go_wp2_with (refine growCatUM _ rfl _ _ rfl w1.heap.size _ MM.length MM rfl w1 HO9.out HB8.out HS8.out _ (fl BY NBJ) rfl HSR.out HLF.out ?_)
          intro v9 w9 ho9 hb9 hk9
          have HF : Hid (CmR 2 f j w1 (.returned (.tuple #[v9, .bool true])) w9) := CmR.ofOwn HT.out HFN.out (by rw [List.length_append]; exact ho9) hb9
          clear ho9 hb9 hk9 HO9 HB8 HSR
          go_wp2_with fail
          go_ret2
          exact HF.out

end Go.Proofs.Ytebcclmilplfcaa
