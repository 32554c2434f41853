/- FromLines: the specification. -/
import Derived.Test.YtakoiionehfipaaFrm
namespace Go.Proofs.Ytakoiionehfipaa
open Go.RowKit

theorem l6sV_pos {m : Nat} {g : Nat → Int} (h : l6sV m g ≠ 0) : alW g (-200000) 200000 m = true ∧ sdv (m : Int) ≠ 0 ∧ l6sV m g = sdv (m : Int) := by
  unfold l6sV at h ⊢
  cases ha : alW g (-200000) 200000 m
  · rw [ha] at h; exact absurd rfl h
  · rw [ha] at h
    exact ⟨rfl, h, rfl⟩
theorem sm_lt {g : Nat → Int} {m : Nat} (hg : ∀ k, k < m → -200000 ≤ g k ∧ g k ≤ 200000) {k : Nat} (hk : k ≤ m) (hm : m ≤ 992) : -200000000 ≤ Lnm.sm g k ∧ Lnm.sm g k ≤ 200000000 := by
  have := Lnm.sm_bound (f := g) (M := 200000) (n := k) (fun i hi => hg i (by omega))
  omega

set_option maxRecDepth 100000 in
set_option maxHeartbeats 8000000 in
theorem specFromLines_any (a : Option Addr) (m cap : Nat) (g : Nat → Int) (hl : m ≤ 1048576) (w : World) (h : Px a m g w) :
    Calls Try.prog 43 #[.slice a m cap] w (ImRB (frW m g) (frW m g) (frN m g) (frX (frP m) g) (frB m g) w) := by
  have HSt := hide ((St.start w).box [.int .i64 0, .int .i64 0, .slice none 0 0] 26)
  have HP := hide h
  generalize hA : w.alloc (.cells [.int .i64 0, .int .i64 0, .slice none 0 0].toArray 26) = wA at HSt
  have hA' : w.alloc (.cells #[.int .i64 0, .int .i64 0, .slice none 0 0] 26) = wA := hA
  clear hA h
  obtain ⟨z0, z1, z2⟩ := HSt.out.im3 0 rfl
  obtain ⟨e0, e1, e2⟩ := HSt.out.fr3 0 rfl
  have cS := l6Sums_any a m cap g hl wA (HP.out.below HSt.out.below)
  obtain ⟨Q, hQ⟩ : ∃ Q, Q = ImRB (frW m g) (frW m g) (frN m g) (frX (frP m) g) (frB m g) w := ⟨_, rfl⟩
  rw [← hQ]
  have HQn : Hid (frB m g = false → Q = ImRB 0 0 0 (frX (frP m) g) false w) := fun e => by
    rw [hQ]; unfold frW frN; rw [e]; rfl
  have HQy : Hid (frB m g = true → Q = ImRB (frP m) (frP m) (frP m * frP m) (frX (frP m) g) true w) := fun e => by
    rw [hQ]; unfold frW frN; rw [e]; rfl
  clear hQ
  by_cases h0 : l6sV m g = 0
  · have hB : frB m g = false := by unfold frB; rw [h0]; simp
    have HE : Hid (Q (.returned (.tuple #[im 0 0 none 0 0, .bool false])) (((wA.setCell ⟨w.heap.size, 0, none⟩ (.int .i64 0)).setCell ⟨w.heap.size, 1, none⟩ (.int .i64 0)).setCell ⟨w.heap.size, 2, none⟩ (.slice none 0 0))) := by
      rw [HQn.out hB]; exact (HSt.out.fill3 (.int .i64 0) (.int .i64 0) (.slice none 0 0)).imRN _
    rw [h0] at cS
    clear hB h0 HSt HQn HQy
    go_enter Try.func43, Try.ntmps43
    go_wp2_with fail
    refine cS.mono ?_
    rintro e w1 ⟨rfl, rfl⟩
    clear cS
    go_wp2_with fail
    exact bodyPost_ret (v := .tuple #[im 0 0 none 0 0, .bool false]) (by simp [results, Try.results43, go_sem, z0, z1, z2]) rfl HE.out
  · obtain ⟨hal, hs0, hsv⟩ := l6sV_pos h0
    obtain ⟨p, hp1, hp2, hm, hpP, p2, p31, hisP⟩ := sdv_pos hs0
    have hlsT : lsB p m g = true := by unfold lsB; rw [decide_eq_true hm, hal]; rfl
    have hg := (lsB_parts hlsT).2
    have hp0 : ((p : Int) == 0) = false := by simp; omega
    have hBt : frB m g = frT p m g := by unfold frB; rw [hpP]; simp [h0]
    have HTD := hide (fun h => frT_frD p2 (by omega) hisP hm (m := m) (g := g) h)
    have HSb := hide (fun k => frS_bound p2 p31 hm hg k)
    have hN : m ≤ 992 := by rw [hm]; exact Nat.mul_le_mul (show p + 1 ≤ 32 by omega) p31
    have hpm : p ≤ m := by rw [hm, Nat.succ_mul]; omega
    have hpp : p * p ≤ 31 * 31 := Nat.mul_le_mul p31 p31
    have hpos : 0 < p * p := Nat.mul_pos (by omega) (by omega)
    have HThr : Hid (∀ k i, i ≤ p → Lnm.thr p (k % p) (k / p) i < m) := fun k i hi => by rw [hm]; exact Lnm.thr_lt (Nat.mod_lt k (by omega)) hi
    have HG := hide hg
    have HSm := hide (fun k hk => sm_lt hg (k := k) hk hN)
    have HSt2 : Hid (∀ k i, i ≤ p + 1 → -300000000 ≤ Lnm.sm (fun i => g (Lnm.thr p (k % p) (k / p) i)) i ∧ Lnm.sm (fun i => g (Lnm.thr p (k % p) (k / p) i)) i ≤ 300000000) := fun k i hi => by
      have := Lnm.sm_bound (f := fun i => g (Lnm.thr p (k % p) (k / p) i)) (M := 200000) (n := i) (fun j hj => hg _ (HThr.out k j (by omega)))
      omega
    have HU : Hid (∀ k, frS p g k = Lnm.sm (fun i => g (Lnm.thr p (k % p) (k / p) i)) (p + 1) - Lnm.sm g p) := fun _ => rfl
    have HSpl : Hid (∀ k, k < p * p → k / p < p) := fun k hk => Nat.div_lt_of_lt_mul hk
    have cMs := fun a1 c1 w' h h' => specMisfit_any (p : Int) (p : Int) a1 (p * p) c1 (frX p g) (by omega) a m cap g hl w' h h'
    have cTn := fun a1 c1 w' h => l6Tones_any (p : Int) (p : Int) a1 (p * p) c1 (frX p g) (by omega) w' h
    have hnew := l2New_any (p : Int) (p : Int) (p * p) (by rw [Int.natCast_mul]) (by omega)
    have wP : IntKind.i64.wrap ((p : Int) * (p : Int)) = ((p * p : Nat) : Int) := by rw [IntKind.wrap_i64, ← Int.natCast_mul]; omega
    have HMs : Hid (toneB (p : Int) (p : Int) (p * p) (frX p g) = true → msV (p : Int) (p : Int) (p * p) (frX p g) m g = Lnm.sm (dsq g (Lnm.lin p (frX p g))) m) := fun e => by
      unfold msV msB lnF; rw [e, Int.toNat_natCast, hlsT]; rfl
    have HTd : Hid (frT p m g = (toneB (p : Int) (p : Int) (p * p) (frX p g) && eqL (Lnm.lin p (frX p g)) g m)) := rfl
    rw [hsv, hp1] at cS
    rw [hpP] at HQn HQy
    rw [hBt] at HQn HQy
    obtain ⟨ba, off, rfl, hba⟩ := HP.out.lt (by omega)
    clear hp1 hp2 hm hpP hisP hlsT hg hBt h0 hal hs0 hsv
    generalize hPP : p * p = PP at *
    have HPP := hide hPP
    clear hPP
    go_enter Try.func43, Try.ntmps43
    go_wp2_with fail
    refine cS.mono ?_
    rintro e w1 ⟨rfl, rfl⟩
    clear cS hA' z0 z1 z2 e0 e1 e2
    go_wp2_with fail
    go_loop [5, 6] (fun s i => ∃ t : Nat, t ≤ p ∧ i = .int .i64 t ∧ s = .int .i64 (Lnm.sm g t)) (fun _ i => p - (intOf i).toNat)
    case atStart => exact ⟨0, by omega, rfl, rfl⟩
    case round =>
      obtain ⟨t, ht, rfl, rfl⟩ := hrel
      by_cases htp : t < p
      · obtain ⟨_, _, hpe, hz⟩ := (HP.out.below HSt.out.below).at (show t < m by omega)
        cases hpe
        have b1 := HSm.out t (by omega)
        have b2 := HSm.out (t + 1) (by omega)
        obtain ⟨Y, hY⟩ : ∃ Y, Y = Lnm.sm g (t + 1) := ⟨_, rfl⟩
        have hY2 : Y = Lnm.sm g t + g t := hY
        have HY := hide hY
        rw [← hY] at b2
        have wY : IntKind.i64.wrap (Lnm.sm g t + g t) = Y := by rw [IntKind.wrap_i64]; omega
        clear hY hY2 b1 b2 HQn HQy HTD HSb HThr HG HSm HSt2 HU HSpl cMs cTn hnew HMs HTd HSt HP
        generalize Lnm.sm g t = X at *
        generalize g t = gt at *
        go_wp2_with fail
        exact ⟨⟨t + 1, by omega, rfl, (by rw [HY.out])⟩, by simp [intOf]; omega⟩
      · obtain rfl : t = p := by omega
        obtain ⟨TT, hTT⟩ : ∃ TT, TT = Lnm.sm g t := ⟨_, rfl⟩
        have hTb := HSm.out t hpm
        rw [← hTT] at hTb HU
        have HTb := hide hTb
        have wT : IntKind.i64.wrap (-TT) = -TT := by rw [IntKind.wrap_i64]; omega
        rw [← hTT]
        clear hTb hTT
        go_wp2_with fail
        refine (hnew _).mono ?_
        rintro e w2 ⟨rfl, hr, hb, hs⟩
        have HS2 := hide ((HSt.out.own hb hr.v (.inr (by omega))).box [.int .i64 t, .int .i64 t, .slice (some ⟨w1.heap.size + 1, 0, none⟩) PP PP] 26)
        have HR2 := hide (hr.below (bnew w2 (.cells #[.int .i64 t, .int .i64 t, .slice (some ⟨w1.heap.size + 1, 0, none⟩) PP PP] 26)) hs)
        generalize hB : w1.heap.size + 1 = B at *
        clear hnew hr hb hs HSt hB
        go_wp2_with fail
        generalize hX : w2.alloc (.cells #[.int .i64 t, .int .i64 t, .slice (some ⟨B, 0, none⟩) PP PP] 26) = wX at *
        clear hX
        go_loopw [8, 9, 10, 11] (fun i _ _ _ wr => ∃ k : Nat, k ≤ PP ∧ i = .int .i64 k ∧ Kept B wX wr ∧ Part B PP k (frX t g) wr ∧ frD t g k = true) (fun i _ _ _ _ => PP - (intOf i).toNat)
        case atStart => exact ⟨0, by omega, rfl, Kept.refl _ _, HR2.out.part, rfl⟩
        case round =>
          obtain ⟨k, hk, rfl, hkept, hpart, hfd⟩ := hrel
          clear HR2
          by_cases hlt : k < PP
          · have hx := Nat.mod_lt k (show 0 < t by omega)
            have hy := HSpl.out k hlt
            have cT := l6Through_any (k % t) (k / t) t (by omega) (by omega) hx hy
            have em : (k : Int).tmod (t : Int) = ((k % t : Nat) : Int) := by rw [Int.tmod_eq_emod_of_nonneg (by omega)]; rfl
            have eq : (k : Int).tdiv (t : Int) = ((k / t : Nat) : Int) := by rw [Int.tdiv_eq_ediv_of_nonneg (by omega)]; rfl
            have hth := HThr.out k
            have hsm := HSt2.out k
            have hU := HU.out k
            have hsb := HSb.out k
            have HNo : Hid (¬ (frS t g k).tmod (t : Int) = 0 → frT t m g = false) := fun hne => by
              cases hT : frT t m g
              · rfl
              · exact absurd (frD_at (HTD.out hT) hlt) hne
            have HDs := hide (fun h => frD_step hfd h)
            obtain ⟨X, hX⟩ : ∃ X, X = frX t g k := ⟨_, rfl⟩
            have hX2 : X = (frS t g k).tdiv t := hX
            have HXX := hide hX
            have hbd : -20000000 ≤ X ∧ X ≤ 20000000 := by
              rw [hX2]
              have := Int.natAbs_tdiv_le_natAbs (frS t g k) t
              omega
            have hmb : -31 < (frS t g k).tmod (t : Int) ∧ (frS t g k).tmod (t : Int) < 31 := by
              have h5 := Int.tmod_lt_of_pos (frS t g k) (show (0 : Int) < (t : Int) by omega)
              have h6 := Int.lt_tmod_of_pos (frS t g k) (show (0 : Int) < (t : Int) by omega)
              omega
            have HSr := hide (HS2.out.out (by omega) hkept)
            have hBr : B < wr.heap.size := World.block_lt_of_cell? wr ⟨B, 0, none⟩ (hpart 0 (by omega)).1.choose_spec.1
            have HK := hide hkept
            have HPt := hide hpart
            have HTh := hide hth
            have HSm2 := hide hsm
            have hTb := HTb.out
            have HUU := hide hU
            clear hth hsm hU hkept hpart hfd HS2 HTD HSb HThr HSt2 HU HSpl cMs cTn HMs HTd HQy HSm hX
            generalize k % t = x at *
            generalize k / t = y at *
            generalize frS t g k = FF at *
            have wx : IntKind.i64.wrap (x : Int) = (x : Int) := by rw [IntKind.wrap_i64]; omega
            have wy : IntKind.i64.wrap (y : Int) = (y : Int) := by rw [IntKind.wrap_i64]; omega
            have HDr : Hid (Below wr.heap.size wr wr.drew) := (Below.refl _ _).drew
            go_upto_region 13 with fail
            go_region_with (go_at_call 56; refine (cT _).mono ?_; rintro e w3 ⟨a6, c6, b6, rfl, ow6, hb6, hbel6⟩)
            all_goals
              have HS3 := hide (HSr.out.drew.own hbel6 ow6.v hb6)
              have HK3 := hide (HK.out.trans (Kept.of_below (p := B) (HDr.out.trans hbel6)))
              have HP3 := hide (HPt.out.below (HDr.out.trans hbel6) hBr)
              clear cT em eq hbel6 ow6 hb6 HSr HK HPt wx wy HDr
              go_wp2_with fail
              go_loop [10, 11] (fun v i => ∃ j : Nat, j ≤ t + 1 ∧ i = .int .i64 j ∧ v = .int .i64 (-TT + Lnm.sm (fun i => g (Lnm.thr t x y i)) j)) (fun _ i => t + 1 - (intOf i).toNat)
              case atStart => exact ⟨0, by omega, rfl, by simp [Lnm.sm]⟩
              case round =>
                obtain ⟨j, hj, rfl, rfl⟩ := hrel
                by_cases hjt : j < t + 1
                · obtain ⟨_, _, hz6e, hz6⟩ := (HS3.out.nthO 0 rfl).px.at hjt
                  subst hz6e
                  have hql := HTh.out j (by omega)
                  obtain ⟨_, _, hpe, hz⟩ := (HP.out.below HS3.out.below).at hql
                  cases hpe
                  have b1 := HSm2.out j (by omega)
                  have b2 := HSm2.out (j + 1) (by omega)
                  obtain ⟨Y, hY⟩ : ∃ Y, Y = -TT + Lnm.sm (fun i => g (Lnm.thr t x y i)) (j + 1) := ⟨_, rfl⟩
                  have hY2 : Y = -TT + (Lnm.sm (fun i => g (Lnm.thr t x y i)) j + g (Lnm.thr t x y j)) := hY
                  have HY := hide hY
                  have wY : IntKind.i64.wrap (-TT + Lnm.sm (fun i => g (Lnm.thr t x y i)) j + g (Lnm.thr t x y j)) = Y := by rw [IntKind.wrap_i64]; omega
                  unfold thF at hz6
                  clear hY hY2 b1 b2 hsb hmb hbd HS3 HK3 HP3 HP HQn HNo HDs HTh HSm2 HUU
                  generalize g (Lnm.thr t x y j) = gq at *
                  generalize Lnm.thr t x y j = q at *
                  generalize -TT + Lnm.sm (fun i => g (Lnm.thr t x y i)) j = Z at *
                  go_wp2_with fail
                  exact ⟨⟨j + 1, by omega, rfl, (by rw [HY.out])⟩, by simp [intOf]; omega⟩
                · obtain rfl : j = t + 1 := by omega
                  have hFF : -TT + Lnm.sm (fun i => g (Lnm.thr t x y i)) (t + 1) = FF := by rw [HUU.out]; omega
                  rw [hFF]
                  clear hFF
                  by_cases hd0 : FF.tmod (t : Int) = 0
                  · have HDn := hide (HDs.out hd0)
                    obtain ⟨⟨y', hy', _⟩, fr⟩ := HP3.out k hlt
                    obtain ⟨i0, i1, i2⟩ := HS3.out.im3 0 rfl
                    have HPn := hide (HP3.out.step hlt X HXX.out).drew
                    have HKn := hide (HK3.out.setCell (a := ⟨B, k, none⟩) rfl (.int .i64 X)).drew
                    have wD : IntKind.i64.wrap (FF.tdiv (t : Int)) = X := by rw [IntKind.wrap_i64, ← hX2]; omega
                    have wD2 : FF.tdiv (t : Int) = X := hX2.symm
                    have HW : Hid (wrap64 X = X) := by show _ = _; unfold wrap64; omega
                    clear hsb hmb hbd HS3 HK3 HP3 HP HQn HNo HDs HTh HSm2 HUU hX2 HXX
                    go_upto_region 21 with fail
                    go_region_with (fail)
                    all_goals
                      clear hy' fr i0 i1 i2 wD wD2 hd0
                      go_wp2_with fail
                      refine ⟨⟨k + 1, by omega, rfl, ?_, ?_, HDn.out⟩, by simp [intOf]; omega⟩
                      · first | exact HKn.out | (rw [HW.out]; exact HKn.out)
                      · first | exact HPn.out | (rw [HW.out]; exact HPn.out)
                  · have hfalse := HNo.out hd0
                    obtain ⟨z0, z1, z2⟩ := HS3.out.im3 1 rfl
                    obtain ⟨e0, e1, e2⟩ := HS3.out.fr3 1 rfl
                    have HE := hide ((St.fill3' (L1 := [_]) HS3.out (.int .i64 0) (.int .i64 0) (.slice none 0 0)).imRN (frX t g))
                    rw [← HQn.out hfalse] at HE
                    obtain ⟨MM, hMM⟩ : ∃ MM, FF.tmod (t : Int) = MM := ⟨_, rfl⟩
                    rw [hMM] at hd0 hmb
                    have hne : (MM != 0) = true := by simp [hd0]
                    have wM : IntKind.i64.wrap MM = MM := by rw [IntKind.wrap_i64]; omega
                    clear hsb hmb hbd HS3 HK3 HP3 HP HQn HNo HDs HTh HSm2 HUU hX2 HXX hfalse hd0
                    go_wp2_with fail
                    exact bodyPost_ret (v := .tuple #[im 0 0 none 0 0, .bool false]) (by simp [results, Try.results43, go_sem, z0, z1, z2]) rfl HE.out
          · obtain rfl : k = PP := by omega
            have HSe := hide (HS2.out.mark0 (by omega) hkept hpart.row.v)
            have pX := (HSe.out.nthO 0 rfl).px
            have cTn' := cTn _ k _ pX
            have hTd := HTd.out
            have hMs := HMs.out
            clear hkept hpart hfd HS2 HTD HSb HThr HSt2 HU HSpl cTn HMs HTd HSm HTb wT
            obtain ⟨i0, i1, i2⟩ := HSe.out.im3 0 rfl
            cases hton : toneB (t : Int) (t : Int) k (frX t g)
            · rw [hton] at cTn' hTd
              have hF : frT t m g = false := hTd
              have HQ := hide (HQn.out hF)
              clear hTd hMs hF HQn HQy cMs hton pX
              go_wp2_with fail
              refine cTn'.mono ?_
              rintro e w4 ⟨rfl, hb⟩
              have HS4 := hide (HSe.out.next hb)
              obtain ⟨z0, z1, z2⟩ := HS4.out.im3 1 rfl
              obtain ⟨e0, e1, e2⟩ := HS4.out.fr3 1 rfl
              have HE := hide ((St.fill3' (L1 := [_]) HS4.out (.int .i64 0) (.int .i64 0) (.slice none 0 0)).imRN (frX t g))
              rw [← HQ.out] at HE
              clear hb HSe HS4 cTn' i0 i1 i2 HP HQ
              go_wp2_with fail
              exact bodyPost_ret (v := .tuple #[im 0 0 none 0 0, .bool false]) (by simp [results, Try.results43, go_sem, z0, z1, z2]) rfl HE.out
            · rw [hton] at cTn' hTd
              have hMv := hMs hton
              have hdz := (dsq_zero (g := g) (l := Lnm.lin t (frX t g)) (m := m)).2
              rw [hMv] at cMs
              have hF : frT t m g = eqL (Lnm.lin t (frX t g)) g m := by rw [hTd]; rfl
              rw [← hF] at hdz
              clear hMs hMv hF hTd hton
              generalize Lnm.sm (dsq g (Lnm.lin t (frX t g))) m = SQ at *
              by_cases hS : SQ = 0
              · have HQ := hide (HQy.out (hdz.1 hS))
                subst hS
                clear hdz HQn HQy pX
                go_wp2_with fail
                refine cTn'.mono ?_
                rintro e w4 ⟨rfl, hb⟩
                have HS4 := hide (HSe.out.next hb)
                obtain ⟨i0, i1, i2⟩ := HS4.out.im3 0 rfl
                have pX := (HS4.out.nthO 0 rfl).px
                clear hb HSe cTn'
                go_wp2_with fail
                refine (cMs _ _ _ pX (HP.out.below HS4.out.below)).mono ?_
                rintro e w5 ⟨rfl, hb⟩
                have HS5 := hide (HS4.out.next hb)
                clear i0 i1 i2
                obtain ⟨i0, i1, i2⟩ := HS5.out.im3 0 rfl
                obtain ⟨z0, z1, z2⟩ := HS5.out.im3 1 rfl
                obtain ⟨e0, e1, e2⟩ := HS5.out.fr3 1 rfl
                have HE := hide ((St.fill3' (L1 := [_]) HS5.out (.int .i64 t) (.int .i64 t) (.slice (some ⟨B, 0, none⟩) k k)).imRB t t k true)
                rw [← HQ.out] at HE
                clear hb HS4 HS5 cMs pX HP HQ
                go_wp2_with fail
                exact bodyPost_ret (v := .tuple #[im t t (some ⟨B, 0, none⟩) k k, .bool true]) (by simp [results, Try.results43, go_sem, z0, z1, z2]) rfl HE.out
              · have hfalse : frT t m g = false := by
                  cases hT : frT t m g
                  · rfl
                  · exact absurd (hdz.2 hT) hS
                have HQ := hide (HQn.out hfalse)
                have hne : (SQ != 0) = true := by simp [hS]
                clear hdz HQn HQy pX hfalse hS
                go_wp2_with fail
                refine cTn'.mono ?_
                rintro e w4 ⟨rfl, hb⟩
                have HS4 := hide (HSe.out.next hb)
                clear i0 i1 i2
                obtain ⟨i0, i1, i2⟩ := HS4.out.im3 0 rfl
                have pX := (HS4.out.nthO 0 rfl).px
                clear hb HSe cTn'
                go_wp2_with fail
                refine (cMs _ _ _ pX (HP.out.below HS4.out.below)).mono ?_
                rintro e w5 ⟨rfl, hb⟩
                have HS5 := hide (HS4.out.next hb)
                clear i0 i1 i2
                obtain ⟨z0, z1, z2⟩ := HS5.out.im3 1 rfl
                obtain ⟨e0, e1, e2⟩ := HS5.out.fr3 1 rfl
                have HE := hide ((St.fill3' (L1 := [_]) HS5.out (.int .i64 0) (.int .i64 0) (.slice none 0 0)).imRN (frX t g))
                rw [← HQ.out] at HE
                clear hb HS4 HS5 cMs pX HP HQ
                go_wp2_with fail
                exact bodyPost_ret (v := .tuple #[im 0 0 none 0 0, .bool false]) (by simp [results, Try.results43, go_sem, z0, z1, z2]) rfl HE.out

end Go.Proofs.Ytakoiionehfipaa
