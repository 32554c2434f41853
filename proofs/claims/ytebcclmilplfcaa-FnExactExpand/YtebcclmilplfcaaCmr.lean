/- The specification's Compress: runs. -/
import Derived.Test.YtebcclmilplfcaaCmq
namespace Go.Proofs.Ytebcclmilplfcaa
open Go.RowKit

set_option maxRecDepth 100000 in
set_option maxHeartbeats 2000000 in
theorem specCompressR_any (s : ByteArray) (hs : s = sRuns) (a : Option Addr) (n cap : Nat) (f : Nat → Int) (hton : tonB f n = true) (w : World) (h : Px a n f w) :
    Calls Try.prog 6 #[.string s, .slice a n cap] w (CmR 3 f n w) := by
  obtain ⟨hn, htn⟩ := tonB_is hton
  have hT : cmOk 3 f n = true := by unfold cmOk; rw [hton]; rfl
  have HT := hide hT
  have HTN := hide htn
  have HP := hide h
  have cT := l13Tones_any a n cap f (by omega) w h
  have hq : (decide (n ≤ 65536) && allG (fun k => inB (f k) 0 65535) n) = true := hton
  rw [hq] at cT
  have cC := specCodecs_any w
  have cF := fun w' h' => l12Find_any w.heap.size 4 4 g4 s (by omega) w' h'
  have hcd : cdN s = 3 := by rw [hs]; decide
  have hsl := smL_len n (by omega)
  have HCL : Hid (cmL 3 f n = smL n ++ cdL 3 f n) := by show _ = _; unfold cmL; rw [if_pos hT]
  have HCLe := hide (cmL_le 3 f n)
  have k1 : (s.toList == [112, 108, 97, 105, 110]) = false := by rw [hs, ByteArray.toList_eq]; decide
  have k3 : (s.toList == [114, 117, 110, 115]) = true := by rw [hs, ByteArray.toList_eq]; decide
  have k4 : (s.toList == [115, 116, 101, 112, 115]) = false := by rw [hs, ByteArray.toList_eq]; decide
  have k2 : (s.toList == [114, 105, 99, 101]) = false := by rw [hs, ByteArray.toList_eq]; decide
  clear h hT htn hq hton hs
  go_enter Try.func6, Try.ntmps6
  go_wp2_with fail
  refine cT.mono ?_
  rintro e w1 ⟨rfl, rfl⟩
  clear cT
  go_wp2_with fail
  refine cC.mono ?_
  rintro e w2 ⟨rfl, hx2, hb2⟩
  have cF2 := cF w2 hx2
  have HB2 := hide hb2
  clear cC cF hx2 hb2
  go_wp2_with fail
  refine cF2.mono ?_
  rintro e w3 ⟨⟨r, rfl, hr⟩, rfl⟩
  have hr' := isAt_cd hr
  rw [hcd] at hr'
  have hr0 : r = 2 := by omega
  subst hr0
  clear hr hr' cF2 hcd
  have HB3 : Hid (Below w1.heap.size w1 (w3.alloc (.cells #[] 5))) := HB2.out.alloc HB2.out.size _
  have HO3 : Hid ((w3.alloc (.cells #[] 5)).ownsRow w3.heap.size 5 1 (.slice (some ⟨w3.heap.size, 0, none⟩) 0 0) ([] : List Int).length (bys [])) := nil_own w3
  have HZ3 := hide HB2.out.size
  clear HB2
  generalize hwa : w3.alloc (.cells #[] 5) = wa at *
  have HSA : Hid (w3.heap.size ≤ wa.heap.size) := by show _ ≤ _; rw [← hwa]; simp
  have cS := l13Small_any w3.heap.size _ 0 [] n (by omega) (by omega) wa HO3.out rfl HSA.out
  go_wp2_with fail
  clear hwa
  refine cS.mono ?_
  rintro e w4 ⟨v4, rfl, ho4, hb4⟩
  rw [List.nil_append] at ho4
  have HO4 := hide (owns_mono ho4 HZ3.out)
  have HB4 : Hid (Below w1.heap.size w1 w4) := HB3.out.trans (hb4.mono HZ3.out)
  clear cS ho4 hb4 HO3 HB3 HSA HZ3
  go_wp2_with fail
  go_loopw [6, 8, 9] (fun u i _ wr => ∃ (k : Nat) (M : List Int), k ≤ n ∧ i = .int .i64 k ∧ M ++ rnL f n (n - k) = smL n ++ rnL f n n ∧ wr.ownsRow w1.heap.size 5 1 u M.length (bys M) ∧ Below w1.heap.size w1 wr) (fun _ i _ _ => n - (intOf i).toNat)
  case atStart => exact ⟨0, _, by omega, rfl, rfl, HO4.out, HB4.out⟩
  case round =>
    obtain ⟨k, M, hk, rfl, hM, ho, hb⟩ := hrel
    have HM := hide hM
    have HO := hide ho
    have HB := hide hb
    clear hM ho hb HO4 HB4
    by_cases hlt : k < n
    · go_wp2_with fail
      go_loopw [9] (fun j wr => ∃ q : Nat, k ≤ q ∧ q ≤ n ∧ j = .int .i64 q ∧ Hid (∀ t, k ≤ t → t < q → f t = f k) ∧ wr.ownsRow w1.heap.size 5 1 u6 M.length (bys M) ∧ Below w1.heap.size w1 wr) (fun j _ => n - (intOf j).toNat)
      case atStart => exact ⟨k, Nat.le_refl _, hk, rfl, hide fun t h1 h2 => by omega, HO.out, HB.out⟩
      case round =>
        obtain ⟨q, hkq0, hqn, rfl, HA, ho, hb⟩ := hrel
        clear HO HB
        have HO := hide ho
        have HB := hide hb
        have HOd := hide (fun d => ownsRow_below' HO.out (below_drewN (Below.refl _ _) d))
        have HBd := hide (fun d => below_drewN HB.out d)
        clear ho hb
        obtain ⟨b, off, rfl, hzk⟩ := (HP.out.below HB.out).at hlt
        by_cases hq : q < n
        · obtain ⟨b', off', ebb, hzq⟩ := (HP.out.below HB.out).at hq
          cases ebb
          by_cases he : f q = f k
          · have HA2 : Hid (∀ t, k ≤ t → t < q + 1 → f t = f k) := fun t h1 h2 => by
              by_cases e : t = q
              · rw [e]; exact he
              · exact HA.out t h1 (by omega)
            have hbe : (f q == f k) = true := by simp [he]
            clear HA HP HM HTN HO HB
            obtain ⟨X, hX⟩ : ∃ X, X = f q := ⟨_, rfl⟩
            obtain ⟨Y, hY⟩ : ∃ Y, Y = f k := ⟨_, rfl⟩
            rw [← hX, ← hY] at hbe
            rw [← hX] at hzq
            rw [← hY] at hzk
            clear hX hY he
            go_wp2_with fail
            go_quiet (fail)
            have HO1 := hide (HOd.out nq)
            have HB1 := hide (HBd.out nq)
            clear HOd HBd hzq hzk
            generalize wr.drewN nq = wd at *
            go_wp2_with fail
            go_roundw
            case rel => exact ⟨q + 1, by omega, hq, by go_num, HA2, HO1.out, HB1.out⟩
            case measure => simp [intOf]; omega
          · have HE : Hid (q = n ∨ f q ≠ f k) := .inr he
            have hbe : (f q == f k) = false := by simp [he]
            have hkq : k < q := by
              rcases Nat.lt_or_ge k q with h9 | h9
              · exact h9
              · exfalso
                have e9 : q = k := by omega
                subst e9
                rcases HE.out with h8 | h8
                · omega
                · exact h8 rfl
            have hst := rnL_step f n k q hkq hqn HA.out HE.out
            have hML : M.length ≤ 400000 := by
              have h1 := congrArg List.length HM.out
              have h2 := rnL_len HTN.out n hn (Nat.le_refl _)
              simp only [List.length_append] at h1
              omega
            have hfk := HTN.out k hlt
            have l1 := smL_len (q - k) (by omega)
            have c1 := fun wz hz hB => l13Small_any w1.heap.size u6 M.length M (q - k) (by omega) (by omega) wz hz rfl hB
            have c2 := fun wz vz hz hB => l13Small_any w1.heap.size vz (M ++ smL (q - k)).length (M ++ smL (q - k)) (f k).toNat (by omega) (by rw [List.length_append]; omega) wz hz rfl hB
            have ei : (((f k).toNat : Nat) : Int) = f k := by omega
            rw [ei] at c2
            have hsub : ((q - k : Nat) : Int) = (q : Int) - k := by omega
            rw [hsub] at c1
            have hsw : IntKind.i64.wrap ((q : Int) - k) = (q : Int) - k := by rw [IntKind.wrap_i64]; omega
            have HM2 : Hid (M ++ smL (q - k) ++ smL (f k).toNat ++ rnL f n (n - q) = smL n ++ rnL f n n) := by
              show _ = _
              rw [← HM.out, hst]
              simp only [List.append_assoc]
            have HZK : Hid (∀ wz, Below w1.heap.size wr wz → wz.cell? ⟨b, off + k, none⟩ = some (.int .i64 (f k))) := fun wz h => by
              obtain ⟨b', off', e, hz'⟩ := (HP.out.below (HB.out.trans h)).at hlt
              cases e
              exact hz'
            clear hst l1 ei hsub HM HA HE hML
            go_wp2_with fail
            go_quiet (fail)
            have HO1 := hide (HOd.out nq)
            have HB1 := hide (HBd.out nq)
            have HBR : Hid (Below w1.heap.size wr (wr.drewN nq)) := below_drewN (Below.refl _ _) nq
            clear HOd HBd HO HB
            generalize wr.drewN nq = wd at *
            have hz1 : wd.cell? ⟨b, off + k, none⟩ = some (.int .i64 (f k)) := HZK.out _ HBR.out
            have HO2 := hide HO1.out.drew
            have HS2 : Hid (w1.heap.size ≤ wd.drew.heap.size) := HB1.out.drew.size
            generalize hF : (f k) = F at *
            generalize hML : smL F.toNat = MF at *
            generalize hMK : M ++ smL (q - k) = MK at *
            clear hF hML hMK
            go_upto_region 16 with fail
            go_region_with (go_at_call 23; first | ((with_reducible refine (c1 _ HO2.out HS2.out).mono ?_); rintro e w5 ⟨v5, rfl, ho5, hb5⟩; have HO5 := hide ho5; have HB5 := hide hb5; have HS5 := hide (Nat.le_trans HS2.out hb5.size); have hz5 : w5.cell? ⟨b, off + k, none⟩ = some (.int .i64 F) := HZK.out _ (HBR.out.drew.trans hb5); clear ho5 hb5) | ((with_reducible refine (c2 _ _ HO5.out HS5.out).mono ?_); rintro e w6 ⟨v6, rfl, ho6, hb6⟩; have HO6 := hide ho6; have HB6 := hide (HB1.out.drew.trans (HB5.out.trans hb6)); clear ho6 hb6))
            all_goals
              clear c1 c2 HO5 HB5 HS5 HO2 HS2 HZK HBR hz1
              go_wp2_with fail
              go_roundw
              case rel => exact ⟨q, _, hqn, rfl, HM2.out, HO6.out, HB6.out⟩
              case measure => simp [intOf]; omega
        · have HE : Hid (q = n ∨ f q ≠ f k) := .inl (by omega)
          have hkq : k < q := by
            rcases Nat.lt_or_ge k q with h9 | h9
            · exact h9
            · exfalso
              have e9 : q = k := by omega
              subst e9
              rcases HE.out with h8 | h8
              · omega
              · exact h8 rfl
          have hst := rnL_step f n k q hkq hqn HA.out HE.out
          have hML : M.length ≤ 400000 := by
            have h1 := congrArg List.length HM.out
            have h2 := rnL_len HTN.out n hn (Nat.le_refl _)
            simp only [List.length_append] at h1
            omega
          have hfk := HTN.out k hlt
          have l1 := smL_len (q - k) (by omega)
          have c1 := fun wz hz hB => l13Small_any w1.heap.size u6 M.length M (q - k) (by omega) (by omega) wz hz rfl hB
          have c2 := fun wz vz hz hB => l13Small_any w1.heap.size vz (M ++ smL (q - k)).length (M ++ smL (q - k)) (f k).toNat (by omega) (by rw [List.length_append]; omega) wz hz rfl hB
          have ei : (((f k).toNat : Nat) : Int) = f k := by omega
          rw [ei] at c2
          have hsub : ((q - k : Nat) : Int) = (q : Int) - k := by omega
          rw [hsub] at c1
          have hsw : IntKind.i64.wrap ((q : Int) - k) = (q : Int) - k := by rw [IntKind.wrap_i64]; omega
          have HM2 : Hid (M ++ smL (q - k) ++ smL (f k).toNat ++ rnL f n (n - q) = smL n ++ rnL f n n) := by
            show _ = _
            rw [← HM.out, hst]
            simp only [List.append_assoc]
          have HZK : Hid (∀ wz, Below w1.heap.size wr wz → wz.cell? ⟨b, off + k, none⟩ = some (.int .i64 (f k))) := fun wz h => by
            obtain ⟨b', off', e, hz'⟩ := (HP.out.below (HB.out.trans h)).at hlt
            cases e
            exact hz'
          clear hst l1 ei hsub HM HA HE hML
          go_wp2_with fail
          go_quiet (fail)
          have HO1 := hide (HOd.out nq)
          have HB1 := hide (HBd.out nq)
          have HBR : Hid (Below w1.heap.size wr (wr.drewN nq)) := below_drewN (Below.refl _ _) nq
          clear HOd HBd HO HB
          generalize wr.drewN nq = wd at *
          have hz1 : wd.cell? ⟨b, off + k, none⟩ = some (.int .i64 (f k)) := HZK.out _ HBR.out
          have HO2 := hide HO1.out.drew
          have HS2 : Hid (w1.heap.size ≤ wd.drew.heap.size) := HB1.out.drew.size
          generalize hF : (f k) = F at *
          generalize hML : smL F.toNat = MF at *
          generalize hMK : M ++ smL (q - k) = MK at *
          clear hF hML hMK
          go_upto_region 16 with fail
          go_region_with (go_at_call 23; first | ((with_reducible refine (c1 _ HO2.out HS2.out).mono ?_); rintro e w5 ⟨v5, rfl, ho5, hb5⟩; have HO5 := hide ho5; have HB5 := hide hb5; have HS5 := hide (Nat.le_trans HS2.out hb5.size); have hz5 : w5.cell? ⟨b, off + k, none⟩ = some (.int .i64 F) := HZK.out _ (HBR.out.drew.trans hb5); clear ho5 hb5) | ((with_reducible refine (c2 _ _ HO5.out HS5.out).mono ?_); rintro e w6 ⟨v6, rfl, ho6, hb6⟩; have HO6 := hide ho6; have HB6 := hide (HB1.out.drew.trans (HB5.out.trans hb6)); clear ho6 hb6))
          all_goals
            clear c1 c2 HO5 HB5 HS5 HO2 HS2 HZK HBR hz1
            go_wp2_with fail
            go_roundw
            case rel => exact ⟨q, _, hqn, rfl, HM2.out, HO6.out, HB6.out⟩
            case measure => simp [intOf]; omega
    · obtain rfl : k = n := by omega
      have HF : Hid (CmR 3 f k w1 (.returned (.tuple #[u6, .bool true])) wr) := CmR.ofOwn HT.out (by have := HM.out; rw [Nat.sub_self, rnL_0, List.append_nil] at this; rw [this, HCL.out]; rfl) HO.out HB.out
      clear HP HO HM HTN HB HT HCL HCLe
      go_wp2_with fail
      go_ret2
      exact HF.out

end Go.Proofs.Ytebcclmilplfcaa
