/- The specification's Agree. -/
import Derived.Test.YtgemdhhofflhgaaOfc
import Derived.Test.YtgemdhhofflhgaaGrl
namespace Go.Proofs.Ytgemdhhofflhgaa
open Go.RowKit

/-- the first known form, from the end on -/
theorem fstF_cut (f g : Nat → Int) (n : Nat) : ∀ r k, fstF f g n k r = if ∃ j, j < r ∧ hasN g (f (k + j)) n = true then fstF f g n k r else -1
  | 0, k => by rw [if_neg (by rintro ⟨j, h, _⟩; omega)]; rfl
  | r + 1, k => by
    by_cases h : ∃ j, j < r + 1 ∧ hasN g (f (k + j)) n = true
    · rw [if_pos h]
    · rw [if_neg h]
      have h0 : ¬ hasN g (f k) n = true := fun e => h ⟨0, by omega, e⟩
      simp only [fstF]
      rw [if_neg h0, fstF_cut f g n r (k + 1), if_neg]
      rintro ⟨j, hj, e⟩
      exact h ⟨j + 1, by omega, by rw [show k + (j + 1) = k + 1 + j by omega]; exact e⟩

set_option maxRecDepth 100000 in
set_option maxHeartbeats 4000000 in
theorem specAgree_any (a : Option Addr) (m cap : Nat) (ad : Nat → Option Addr) (ln cp : Nat → Nat) (F : Nat → Nat → Int) (Bv : Nat → Int) (hm : m ≤ 1048576) (hl : ∀ i, i < m → ln i ≤ 1048576) (a' : Option Addr) (n cap' : Nat) (g : Nat → Int) (hn : n ≤ 1048576) (w : World) (h : PxB a m ad ln cp F Bv w) (h' : Px a' n g w) :
    Calls Try.prog 6 #[.slice a m cap, .slice a' n cap'] w (LsR (agN m n) (agF Bv ln F g n) w) := by
  have HP := hide h
  have HK := hide h'
  have HL := hide hl
  clear h h' hl
  have HNO : Hid (agN m n = 0 → LsR (agN m n) (agF Bv ln F g n) w (.returned (.slice (some ⟨w.heap.size, 0, none⟩) 0 0)) (w.alloc (.cells #[] 2))) := fun e => by
    rw [e]; exact ⟨_, 0, 0, rfl, .inl rfl, .inl rfl, bnew _ _⟩
  by_cases h1 : (64 : Int) < m
  · have HR := hide (HNO.out (by unfold agN; rw [if_neg (by omega)]))
    clear HP HK HL HNO
    go_enter Try.func6, Try.ntmps6
    go_wp2_with fail
    go_ret
    exact HR.out
  by_cases h2 : (64 : Int) < n
  · have HR := hide (HNO.out (by unfold agN; rw [if_neg (by omega)]))
    clear HP HK HL HNO
    go_enter Try.func6, Try.ntmps6
    go_wp2_with fail
    go_ret
    exact HR.out
  have HAN : Hid (agN m n = m) := by show _ = _; unfold agN; rw [if_pos ⟨by omega, by omega⟩]
  clear HNO
  have HB0 : Hid (Below w.heap.size w ((w.alloc (.cells #[] 2)).alloc (.cells #[] 2))) := (bnew _ _).alloc (by simp) _
  have HO1 : Hid (((w.alloc (.cells #[] 2)).alloc (.cells #[] 2)).ownsRow w.heap.size 2 1 (.slice (some ⟨w.heap.size, 0, none⟩) 0 0) 0 (ints [])) := (World.ownsRow_lit w #[] 0 (Nat.le_refl _) (by unfold maxLen; omega) rfl).alloc _
  have HO2 : Hid (((w.alloc (.cells #[] 2)).alloc (.cells #[] 2)).ownsRow w.heap.size 2 1 (.slice (some ⟨w.heap.size + 1, 0, none⟩) 0 0) 0 (ints [])) := by
    have := World.ownsRow_lit (w.alloc (.cells #[] 2)) (base := w.heap.size) (e := 2) (size := 1) #[] 0 (by simp) (by unfold maxLen; omega) rfl
    simp at this
    exact this
  have HAP : Hid (Apart (.slice (some ⟨w.heap.size, 0, none⟩) 0 0) (.slice (some ⟨w.heap.size + 1, 0, none⟩) 0 0)) := fun b hb hb' => by
    simp [Value.ownBlock] at hb hb'; omega
  go_enter Try.func6, Try.ntmps6
  go_wp2_with fail
  go_loopw [5, 6, 7] (fun v u i wr => ∃ k : Nat, k ≤ m ∧ i = .int .i64 k ∧ wr.ownsRow w.heap.size 2 1 v k (ints (fl (agF Bv ln F g n) k)) ∧ wr.ownsRow w.heap.size 2 1 u k (ints (fl Bv k)) ∧ Apart v u ∧ Below w.heap.size w wr) (fun _ _ i _ => m - (intOf i).toNat)
  case atStart => exact ⟨0, by omega, rfl, HO1.out, HO2.out, HAP.out, HB0.out⟩
  case round =>
    obtain ⟨k, hk, rfl, ho, ho', hap, hb⟩ := hrel
    clear HO1 HO2 HB0 HAP
    by_cases hlt : k < m
    · have hlt' : (k : Int) < m := by omega
      obtain ⟨b, off, rfl, z0, z1⟩ := (HP.out.below hb).at hlt
      obtain ⟨au, cu, bu, hu, hou, hbu⟩ := ow_fl ho'
      have HBA : Hid (Below w.heap.size w (wr.alloc (.cells #[.int .i64 (Bv k), .slice (ad k) (ln k) (cp k)] 30))) := hb.alloc hb.size _
      have HY0 : Hid ((wr.alloc (.cells #[.int .i64 (Bv k), .slice (ad k) (ln k) (cp k)] 30)).cell? ⟨wr.heap.size, 0, none⟩ = some (.int .i64 (Bv k))) := by show _ = _; simp [go_sem]
      have HY1 : Hid ((wr.alloc (.cells #[.int .i64 (Bv k), .slice (ad k) (ln k) (cp k)] 30)).cell? ⟨wr.heap.size, 1, none⟩ = some (.slice (ad k) (ln k) (cp k))) := by show _ = _; simp [go_sem]
      have y0 := HY0.out
      have y1 := HY1.out
      have hlk := HL.out k hlt
      have cO := l15Offer_any (ad k) (ln k) (cp k) (F k) (Bv k) hlk _ ((HP.out.2 k hlt).below HBA.out)
      have HVA : Hid ((wr.alloc (.cells #[.int .i64 (Bv k), .slice (ad k) (ln k) (cp k)] 30)).ownsRow w.heap.size 2 1 u5 k (ints (fl (agF Bv ln F g n) k))) := ho.alloc _
      have HUA : Hid ((wr.alloc (.cells #[.int .i64 (Bv k), .slice (ad k) (ln k) (cp k)] 30)).ownsRow w.heap.size 2 1 u6 k (ints (fl Bv k))) := ho'.alloc _
      have HPU : Hid (Px au k Bv (wr.alloc (.cells #[.int .i64 (Bv k), .slice (ad k) (ln k) (cp k)] 30))) := hou.px.below (bnew _ _)
      have HAPP := hide hap
      have HAG : Hid (agF Bv ln F g n k = if ofB (Bv k) (ln k) (F k) = true ∧ hasN Bv (Bv k) k = false then fstF (F k) g n 0 (ln k) else -1) := rfl
      have HFL0 : Hid (fl (agF Bv ln F g n) (k + 1) = fl (agF Bv ln F g n) k ++ [agF Bv ln F g n k]) := rfl
      have HFX := hide (HP.out.2 k hlt)
      clear ho ho' hou hap hb
      generalize hwb : wr.alloc (.cells #[.int .i64 (Bv k), .slice (ad k) (ln k) (cp k)] 30) = wb at *
      generalize hpb : wr.heap.size = pb at *
      have HU6 := hide hu
      generalize ad k = A at *
      clear hu
      cases hO : ofB (Bv k) (ln k) (F k) with
      | false =>
        rw [hO] at cO HAG
        rw [if_neg (by simp)] at HAG
        have HFL : Hid (fl (agF Bv ln F g n) (k + 1) = fl (agF Bv ln F g n) k ++ [-1]) := by show _ = _; rw [HFL0.out, HAG.out]
        clear hO HAG HFL0
        go_wp2_with fail
        clear hwb
        refine cO.mono ?_
        rintro e w1 ⟨rfl, hb1⟩
        have HV1 := hide (owns_keep HVA.out (fun q hq => hb1.block q (owns_lt HVA.out q hq)))
        have HU := hide (owns_keep HUA.out (fun q hq => hb1.block q (owns_lt HUA.out q hq)))
        have HB1 := hide (bnext HBA.out (Nat.le_refl _) hb1)
        have HS1 : Hid (w.heap.size ≤ w1.heap.size) := HB1.out.size
        have y2 := cell_kept hb1 HY0.out
        clear cO hb1 HVA HUA HBA y1 HY0 HY1 HPU HFX y0
        have y0 := y2
        clear y2
        go_wp2_with (refine growN _ rfl _ _ rfl w.heap.size u6 k (fl Bv k) rfl w HU.out HB1.out HS1.out (Bv k) rfl (by omega) ?_)
        intro v2 w2 ho2 hb2 hs2 hkp hmv
        have HU2 : Hid (w2.ownsRow w.heap.size 2 1 v2 (k + 1) (ints (fl Bv (k + 1)))) := ho2
        have HV2 := hide (owns_side HV1.out hkp HAPP.out)
        have HA2 := hide (HAPP.out.moved hmv HV1.out)
        have HB2 := hide hb2
        have HS2 : Hid (w.heap.size ≤ w2.heap.size) := hb2.size
        clear ho2 hb2 hs2 hkp hmv HU HV1 HB1 HS1 y0
        go_wp2_with (refine growN _ rfl _ _ rfl w.heap.size u5 k (fl (agF Bv ln F g n) k) rfl w HV2.out HB2.out HS2.out (-1) rfl (by omega) ?_)
        intro v3 w3 ho3 hb3 hs3 hkp hmv
        have HV3 : Hid (w3.ownsRow w.heap.size 2 1 v3 (k + 1) (ints (fl (agF Bv ln F g n) (k + 1)))) := by
          show World.ownsRow _ _ _ _ _ _ _
          rw [show fl (agF Bv ln F g n) (k + 1) = fl (agF Bv ln F g n) k ++ [-1] from HFL.out]
          exact ho3
        have HU3 := hide (owns_side HU2.out hkp HA2.out.symm)
        have HA3 := hide (HA2.out.symm.moved hmv HU2.out)
        have HB3 := hide hb3
        clear ho3 hb3 hs3 hkp hmv HU2 HV2 HA2 HB2 HS2 HFL HAPP
        go_wp2_with fail
        go_roundw
        case rel => exact ⟨k + 1, by omega, by go_num, HV3.out, HU3.out, HA3.out.symm, HB3.out⟩
        case measure => simp [intOf]; omega
      | true =>
        rw [hO] at cO HAG
        cases hH : hasN Bv (Bv k) k with
        | true =>
          rw [hH, if_neg (by simp)] at HAG
          have HFL : Hid (fl (agF Bv ln F g n) (k + 1) = fl (agF Bv ln F g n) k ++ [-1]) := by show _ = _; rw [HFL0.out, HAG.out]
          clear hO HAG HFL0
          go_wp2_with fail
          clear hwb
          refine cO.mono ?_
          rintro e w1 ⟨rfl, hb1⟩
          have HV1 := hide (owns_keep HVA.out (fun q hq => hb1.block q (owns_lt HVA.out q hq)))
          have HU := hide (owns_keep HUA.out (fun q hq => hb1.block q (owns_lt HUA.out q hq)))
          have HB1 := hide (bnext HBA.out (Nat.le_refl _) hb1)
          have HS1 : Hid (w.heap.size ≤ w1.heap.size) := HB1.out.size
          have y2 := cell_kept hb1 HY0.out
          have cH := l15Has_any au k cu Bv (Bv k) (by omega) w1 (HPU.out.below hb1)
          rw [hH] at cH
          clear cO hb1 HVA HUA HBA y1 HY0 HY1 HPU HFX y0 hH
          have y0 := y2
          clear y2
          have hu := HU6.out
          subst hu
          go_wp2_with fail
          refine cH.mono ?_
          rintro e w1' ⟨rfl, rfl⟩
          clear cH
          generalize hu6 : Value.slice au k cu = u6 at *
          go_wp2_with (refine growN _ rfl _ _ rfl w.heap.size u6 k (fl Bv k) rfl w HU.out HB1.out HS1.out (Bv k) rfl (by omega) ?_)
          intro v2 w2 ho2 hb2 hs2 hkp hmv
          have HU2 : Hid (w2.ownsRow w.heap.size 2 1 v2 (k + 1) (ints (fl Bv (k + 1)))) := ho2
          have HV2 := hide (owns_side HV1.out hkp HAPP.out)
          have HA2 := hide (HAPP.out.moved hmv HV1.out)
          have HB2 := hide hb2
          have HS2 : Hid (w.heap.size ≤ w2.heap.size) := hb2.size
          clear ho2 hb2 hs2 hkp hmv HU HV1 HB1 HS1 y0
          go_wp2_with (refine growN _ rfl _ _ rfl w.heap.size u5 k (fl (agF Bv ln F g n) k) rfl w HV2.out HB2.out HS2.out (-1) rfl (by omega) ?_)
          intro v3 w3 ho3 hb3 hs3 hkp hmv
          have HV3 : Hid (w3.ownsRow w.heap.size 2 1 v3 (k + 1) (ints (fl (agF Bv ln F g n) (k + 1)))) := by
            show World.ownsRow _ _ _ _ _ _ _
            rw [show fl (agF Bv ln F g n) (k + 1) = fl (agF Bv ln F g n) k ++ [-1] from HFL.out]
            exact ho3
          have HU3 := hide (owns_side HU2.out hkp HA2.out.symm)
          have HA3 := hide (HA2.out.symm.moved hmv HU2.out)
          have HB3 := hide hb3
          clear ho3 hb3 hs3 hkp hmv HU2 HV2 HA2 HB2 HS2 HFL HAPP
          go_wp2_with fail
          go_roundw
          case rel => exact ⟨k + 1, by omega, by go_num, HV3.out, HU3.out, HA3.out.symm, HB3.out⟩
          case measure => simp [intOf]; omega
        | false =>
          rw [hH, if_pos ⟨rfl, rfl⟩] at HAG
          have HFL : Hid (fl (agF Bv ln F g n) (k + 1) = fl (agF Bv ln F g n) k ++ [fstF (F k) g n 0 (ln k)]) := by show _ = _; rw [HFL0.out, HAG.out]
          clear hO HAG HFL0
          go_wp2_with fail
          clear hwb
          refine cO.mono ?_
          rintro e w1 ⟨rfl, hb1⟩
          have HV1 := hide (owns_keep HVA.out (fun q hq => hb1.block q (owns_lt HVA.out q hq)))
          have HU := hide (owns_keep HUA.out (fun q hq => hb1.block q (owns_lt HUA.out q hq)))
          have HB1 := hide (bnext HBA.out (Nat.le_refl _) hb1)
          have HS1 : Hid (w.heap.size ≤ w1.heap.size) := HB1.out.size
          have y2 := cell_kept hb1 HY0.out
          have y3 := cell_kept hb1 HY1.out
          have cH := l15Has_any au k cu Bv (Bv k) (by omega) w1 (HPU.out.below hb1)
          rw [hH] at cH
          have HFY := hide (HFX.out.below HB1.out)
          have HKY : Hid (∀ v, Calls Try.prog 13 #[.slice a' n cap', .int .i64 v] w1 fun e w' => e = .returned (.bool (hasN g v n)) ∧ w' = w1) := fun v => l15Has_any a' n cap' g v hn w1 (HK.out.below HB1.out)
          clear cO hb1 HVA HUA HBA y1 HY0 HY1 HPU HFX y0 hH
          have y0 := y2
          clear y2
          have hu := HU6.out
          subst hu
          go_wp2_with fail
          refine cH.mono ?_
          rintro e w1' ⟨rfl, rfl⟩
          clear cH
          generalize hu6 : Value.slice au k cu = u6 at *
          clear hu6
          go_wp2_with fail
          go_loopw [9, 10] (fun fo i wq => ∃ r q : Nat, r + q = ln k ∧ i = .int .i64 ((r : Int) - 1) ∧ fo = .int .i64 (fstF (F k) g n r q) ∧ wq = w1') (fun _ i _ => ((intOf i) + 1).toNat)
          case atStart => exact ⟨ln k, 0, by omega, rfl, rfl, rfl⟩
          case round =>
            obtain ⟨r, q, hrq, rfl, rfl, rfl⟩ := hrel
            cases r with
            | zero =>
              have hneg : ¬ (0 : Int) ≤ ((0 : Nat) : Int) - 1 := by omega
              obtain rfl : q = ln k := by omega
              have hneg2 : ¬ (0 : Int) ≤ -1 := by omega
              generalize fstF (F k) g n 0 (ln k) = V at *
              clear HFY HKY y3
              go_wp2_with (refine growN _ rfl _ _ rfl w.heap.size u6 k (fl Bv k) rfl w HU.out HB1.out HS1.out (Bv k) rfl (by omega) ?_)
              intro v2 w2 ho2 hb2 hs2 hkp hmv
              have HU2 : Hid (w2.ownsRow w.heap.size 2 1 v2 (k + 1) (ints (fl Bv (k + 1)))) := ho2
              have HV2 := hide (owns_side HV1.out hkp HAPP.out)
              have HA2 := hide (HAPP.out.moved hmv HV1.out)
              have HB2 := hide hb2
              have HS2 : Hid (w.heap.size ≤ w2.heap.size) := hb2.size
              clear ho2 hb2 hs2 hkp hmv HU HV1 HB1 HS1 y0
              go_wp2_with (refine growN _ rfl _ _ rfl w.heap.size u5 k (fl (agF Bv ln F g n) k) rfl w HV2.out HB2.out HS2.out (V) rfl (by omega) ?_)
              intro v3 w3 ho3 hb3 hs3 hkp hmv
              have HV3 : Hid (w3.ownsRow w.heap.size 2 1 v3 (k + 1) (ints (fl (agF Bv ln F g n) (k + 1)))) := by
                show World.ownsRow _ _ _ _ _ _ _
                rw [show fl (agF Bv ln F g n) (k + 1) = fl (agF Bv ln F g n) k ++ [V] from HFL.out]
                exact ho3
              have HU3 := hide (owns_side HU2.out hkp HA2.out.symm)
              have HA3 := hide (HA2.out.symm.moved hmv HU2.out)
              have HB3 := hide hb3
              clear ho3 hb3 hs3 hkp hmv HU2 HV2 HA2 HB2 HS2 HFL HAPP
              go_wp2_with fail
              go_roundw
              case rel => exact ⟨k + 1, by omega, by go_num, HV3.out, HU3.out, HA3.out.symm, HB3.out⟩
              case measure => simp [intOf]; omega
            | succ r =>
              have hpos : (0 : Int) ≤ ((r + 1 : Nat) : Int) - 1 := by omega
              have hr1 : ((r + 1 : Nat) : Int) - 1 = (r : Int) := by omega
              have hrl : (r : Int) < ln k := by omega
              obtain ⟨bf, of, hbf, hzf⟩ := HFY.out.at (show r < ln k by omega)
              subst hbf
              have cK := HKY.out (F k r)
              have HST : Hid (fstF (F k) g n r (q + 1) = if hasN g (F k r) n = true then F k r else fstF (F k) g n (r + 1) q) := rfl
              rw [hr1]
              cases hG : hasN g (F k r) n with
              | true =>
                rw [hG] at cK
                rw [hG, if_pos rfl] at HST
                clear hG hpos hr1
                generalize hyf : F k r = yf at *
                go_wp2_with fail
                refine cK.mono ?_
                rintro e w5 ⟨rfl, rfl⟩
                clear cK
                go_wp2_with fail
                go_roundw
                case rel => exact ⟨r, q + 1, by omega, by go_num, by rw [HST.out], trivial⟩
                case measure => simp [intOf]
              | false =>
                rw [hG] at cK
                rw [hG, if_neg (by simp)] at HST
                clear hG hpos hr1
                generalize hyf : F k r = yf at *
                go_wp2_with fail
                refine cK.mono ?_
                rintro e w5 ⟨rfl, rfl⟩
                clear cK
                go_wp2_with fail
                go_roundw
                case rel => exact ⟨r, q + 1, by omega, by go_num, by rw [HST.out], trivial⟩
                case measure => simp [intOf]
    · obtain rfl : k = m := by omega
      obtain ⟨a1, cap1, b1, rfl, ow, hB⟩ := ow_fl ho
      have HR : Hid (LsR (agN k n) (agF Bv ln F g n) w (.returned (.slice a1 k cap1)) wr) := by rw [HAN.out]; exact ⟨a1, cap1, b1, rfl, ow, hB, hb⟩
      clear HP HK HL ho ho' hap hb ow hB HAN
      go_wp2_with fail
      go_ret
      exact HR.out

end Go.Proofs.Ytgemdhhofflhgaa
