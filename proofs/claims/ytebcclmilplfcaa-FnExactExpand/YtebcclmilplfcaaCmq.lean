/- The specification's Compress: plain and steps. -/
import Derived.Test.YtebcclmilplfcaaCmo
import Derived.Test.YtebcclmilplfcaaGrk
namespace Go.Proofs.Ytebcclmilplfcaa
open Go.RowKit

theorem CmR.ofOwn {c : Nat} {f : Nat → Int} {n : Nat} {w w' : World} {v : Value} {M : List Int} (h : cmOk c f n = true) (hM : M = cmL c f n) (ho : w'.ownsRow w.heap.size 5 1 v M.length (bys M)) (hb : Below w.heap.size w w') : CmR c f n w (.returned (.tuple #[v, .bool true])) w' := by
  subst hM
  obtain ⟨a, cap, b, rfl, h1, h2⟩ := own_u8 ho
  unfold CmR
  rw [h]
  exact ⟨a, cap, b, rfl, h1, h2, hb⟩
theorem cd_lit {s : ByteArray} {c : Nat} (h : cdN s = c) (hc : c ≠ 0) : s = if c = 1 then sPlain else if c = 2 then sRice else if c = 3 then sRuns else sSteps := by
  unfold cdN at h
  split at h
  · subst h; assumption
  · split at h
    · subst h; assumption
    · split at h
      · subst h; assumption
      · split at h
        · subst h; assumption
        · omega
theorem lowL_2 (x : Int) (h0 : 0 ≤ x) (h1 : x ≤ 65535) : lowL (IntKind.u64.wrap x) 2 = [x % 256, x / 256 % 256] := by
  have : IntKind.u64.wrap x = x := by simp [IntKind.wrap, IntKind.signed, IntKind.bits]; omega
  rw [this]
  rfl
theorem nil_own (w : World) : (w.alloc (.cells #[] 5)).ownsRow w.heap.size 5 1 (.slice (some ⟨w.heap.size, 0, none⟩) 0 0) ([] : List Int).length (bys []) := World.ownsRow_lit w #[] 0 (Nat.le_refl _) (by unfold maxLen; omega) rfl

set_option maxRecDepth 100000 in
set_option maxHeartbeats 2000000 in
theorem specCompressP_any (s : ByteArray) (hs : s = sPlain) (a : Option Addr) (n cap : Nat) (f : Nat → Int) (hton : tonB f n = true) (w : World) (h : Px a n f w) :
    Calls Try.prog 6 #[.string s, .slice a n cap] w (CmR 1 f n w) := by
  obtain ⟨hn, htn⟩ := tonB_is hton
  have hT : cmOk 1 f n = true := by unfold cmOk; rw [hton]; rfl
  have HT := hide hT
  have HTN := hide htn
  have HP := hide h
  have cT := l13Tones_any a n cap f (by omega) w h
  have hq : (decide (n ≤ 65536) && allG (fun k => inB (f k) 0 65535) n) = true := hton
  rw [hq] at cT
  have cC := specCodecs_any w
  have cF := fun w' h' => l12Find_any w.heap.size 4 4 g4 s (by omega) w' h'
  have hcd : cdN s = 1 := by rw [hs]; decide
  have hsl := smL_len n (by omega)
  have HCL : Hid (cmL 1 f n = smL n ++ cdL 1 f n) := by show _ = _; unfold cmL; rw [if_pos hT]
  have HCLe := hide (cmL_le 1 f n)
  have k1 : (s.toList == [112, 108, 97, 105, 110]) = true := by rw [hs, ByteArray.toList_eq]; decide
  have k3 : (s.toList == [114, 117, 110, 115]) = false := by rw [hs, ByteArray.toList_eq]; decide
  have k4 : (s.toList == [115, 116, 101, 112, 115]) = false := by rw [hs, ByteArray.toList_eq]; decide
  have k2 : (s.toList == [114, 105, 99, 101]) = false := by rw [hs, ByteArray.toList_eq]; decide
  clear h hT htn hq hton hs
  go_enter Try.func6, Try.ntmps6
  go_wp2_with fail
  refine cT.mono ?_
  rintro e w1 ⟨rfl, rfl⟩
  clear cT
  go_wp2_with fail
  refine cC.mono ?_
  rintro e w2 ⟨rfl, hx2, hb2⟩
  have cF2 := cF w2 hx2
  have HB2 := hide hb2
  clear cC cF hx2 hb2
  go_wp2_with fail
  refine cF2.mono ?_
  rintro e w3 ⟨⟨r, rfl, hr⟩, rfl⟩
  have hr' := isAt_cd hr
  rw [hcd] at hr'
  have hr0 : r = 0 := by omega
  subst hr0
  clear hr hr' cF2 hcd
  have HB3 : Hid (Below w1.heap.size w1 (w3.alloc (.cells #[] 5))) := HB2.out.alloc HB2.out.size _
  have HO3 : Hid ((w3.alloc (.cells #[] 5)).ownsRow w3.heap.size 5 1 (.slice (some ⟨w3.heap.size, 0, none⟩) 0 0) ([] : List Int).length (bys [])) := nil_own w3
  have HZ3 := hide HB2.out.size
  clear HB2
  generalize hwa : w3.alloc (.cells #[] 5) = wa at *
  have HSA : Hid (w3.heap.size ≤ wa.heap.size) := by show _ ≤ _; rw [← hwa]; simp
  have cS := l13Small_any w3.heap.size _ 0 [] n (by omega) (by omega) wa HO3.out rfl HSA.out
  go_wp2_with fail
  clear hwa
  refine cS.mono ?_
  rintro e w4 ⟨v4, rfl, ho4, hb4⟩
  rw [List.nil_append] at ho4
  have HO4 := hide (owns_mono ho4 HZ3.out)
  have HB4 : Hid (Below w1.heap.size w1 w4) := HB3.out.trans (hb4.mono HZ3.out)
  clear cS ho4 hb4 HO3 HB3 HSA HZ3
  go_wp2_with fail
  go_loopw [6, 7] (fun u i wr => ∃ (k : Nat) (M : List Int), k ≤ n ∧ i = .int .i64 k ∧ M = smL n ++ plL f k ∧ wr.ownsRow w1.heap.size 5 1 u M.length (bys M) ∧ Below w1.heap.size w1 wr) (fun _ i _ => n - (intOf i).toNat)
  case atStart => exact ⟨0, _, by omega, rfl, by rw [plL, List.append_nil], HO4.out, HB4.out⟩
  case round =>
    obtain ⟨k, M, hk, rfl, hM, ho, hb⟩ := hrel
    have HM := hide hM
    have HO := hide ho
    have HB := hide hb
    clear hM ho hb HO4 HB4
    by_cases hlt : k < n
    · obtain ⟨b, off, rfl, hz⟩ := (HP.out.below HB.out).at hlt
      have hfk := HTN.out k hlt
      have hML : M.length ≤ 1900000000 := by rw [HM.out, List.length_append, plL_len]; omega
      have c := l12Low_any w1.heap.size u6 M.length M (f k) 2 hML (by omega) wr HO.out HB.out.size
      rw [lowL_2 _ hfk.1 hfk.2] at c
      have HM2 : Hid (M ++ [f k % 256, f k / 256 % 256] = smL n ++ plL f (k + 1)) := by show _ = _; rw [HM.out, List.append_assoc]; rfl
      have e2 : ((2 : Nat) : Int) = 2 := rfl
      rw [e2] at c
      clear HP HO HM HTN
      go_wp2_with fail
      refine c.mono ?_
      rintro e w' ⟨v', rfl, ho', hb'⟩
      have HO' : Hid (w'.ownsRow w1.heap.size 5 1 v' (M ++ [f k % 256, f k / 256 % 256]).length (bys (M ++ [f k % 256, f k / 256 % 256]))) := by
        show World.ownsRow _ _ _ _ _ _ _
        rw [List.length_append]; exact ho'
      have HB' := hide (HB.out.trans hb')
      clear c ho' hb' HB
      generalize M ++ [f k % 256, f k / 256 % 256] = M' at *
      go_wp2_with fail
      go_roundw
      case rel => exact ⟨k + 1, M', hlt, by go_num, HM2.out, HO'.out, HB'.out⟩
      case measure => simp [intOf]; omega
    · obtain rfl : k = n := by omega
      have HF : Hid (CmR 1 f k w1 (.returned (.tuple #[u6, .bool true])) wr) := CmR.ofOwn HT.out (by rw [HM.out, HCL.out]; rfl) HO.out HB.out
      clear HP HO HM HTN HB HT HCL HCLe
      go_wp2_with fail
      go_ret2
      exact HF.out

set_option maxRecDepth 100000 in
set_option maxHeartbeats 2000000 in
theorem specCompressS_any (s : ByteArray) (hs : s = sSteps) (a : Option Addr) (n cap : Nat) (f : Nat → Int) (hton : tonB f n = true) (w : World) (h : Px a n f w) :
    Calls Try.prog 6 #[.string s, .slice a n cap] w (CmR 4 f n w) := by
  obtain ⟨hn, htn⟩ := tonB_is hton
  have hT : cmOk 4 f n = true := by unfold cmOk; rw [hton]; rfl
  have HT := hide hT
  have HTN := hide htn
  have HP := hide h
  have cT := l13Tones_any a n cap f (by omega) w h
  have hq : (decide (n ≤ 65536) && allG (fun k => inB (f k) 0 65535) n) = true := hton
  rw [hq] at cT
  have cC := specCodecs_any w
  have cF := fun w' h' => l12Find_any w.heap.size 4 4 g4 s (by omega) w' h'
  have hcd : cdN s = 4 := by rw [hs]; decide
  have hsl := smL_len n (by omega)
  have HCL : Hid (cmL 4 f n = smL n ++ cdL 4 f n) := by show _ = _; unfold cmL; rw [if_pos hT]
  have HCLe := hide (cmL_le 4 f n)
  have k1 : (s.toList == [112, 108, 97, 105, 110]) = false := by rw [hs, ByteArray.toList_eq]; decide
  have k3 : (s.toList == [114, 117, 110, 115]) = false := by rw [hs, ByteArray.toList_eq]; decide
  have k4 : (s.toList == [115, 116, 101, 112, 115]) = true := by rw [hs, ByteArray.toList_eq]; decide
  have k2 : (s.toList == [114, 105, 99, 101]) = false := by rw [hs, ByteArray.toList_eq]; decide
  clear h hT htn hq hton hs
  go_enter Try.func6, Try.ntmps6
  go_wp2_with fail
  refine cT.mono ?_
  rintro e w1 ⟨rfl, rfl⟩
  clear cT
  go_wp2_with fail
  refine cC.mono ?_
  rintro e w2 ⟨rfl, hx2, hb2⟩
  have cF2 := cF w2 hx2
  have HB2 := hide hb2
  clear cC cF hx2 hb2
  go_wp2_with fail
  refine cF2.mono ?_
  rintro e w3 ⟨⟨r, rfl, hr⟩, rfl⟩
  have hr' := isAt_cd hr
  rw [hcd] at hr'
  have hr0 : r = 3 := by omega
  subst hr0
  clear hr hr' cF2 hcd
  have HB3 : Hid (Below w1.heap.size w1 (w3.alloc (.cells #[] 5))) := HB2.out.alloc HB2.out.size _
  have HO3 : Hid ((w3.alloc (.cells #[] 5)).ownsRow w3.heap.size 5 1 (.slice (some ⟨w3.heap.size, 0, none⟩) 0 0) ([] : List Int).length (bys [])) := nil_own w3
  have HZ3 := hide HB2.out.size
  clear HB2
  generalize hwa : w3.alloc (.cells #[] 5) = wa at *
  have HSA : Hid (w3.heap.size ≤ wa.heap.size) := by show _ ≤ _; rw [← hwa]; simp
  have cS := l13Small_any w3.heap.size _ 0 [] n (by omega) (by omega) wa HO3.out rfl HSA.out
  go_wp2_with fail
  clear hwa
  refine cS.mono ?_
  rintro e w4 ⟨v4, rfl, ho4, hb4⟩
  rw [List.nil_append] at ho4
  have HO4 := hide (owns_mono ho4 HZ3.out)
  have HB4 : Hid (Below w1.heap.size w1 w4) := HB3.out.trans (hb4.mono HZ3.out)
  clear cS ho4 hb4 HO3 HB3 HSA HZ3
  go_wp2_with fail
  go_loopw [6, 10, 11] (fun u y i wr => ∃ (k : Nat) (M : List Int), k ≤ n ∧ i = .int .i64 k ∧ y = .int .i64 (aheadV f k) ∧ M = smL n ++ stL f k ∧ wr.ownsRow w1.heap.size 5 1 u M.length (bys M) ∧ Below w1.heap.size w1 wr) (fun _ _ i _ => n - (intOf i).toNat)
  case atStart => exact ⟨0, _, by omega, rfl, rfl, by rw [stL, List.append_nil], HO4.out, HB4.out⟩
  case round =>
    obtain ⟨k, M, hk, rfl, rfl, hM, ho, hb⟩ := hrel
    have HM := hide hM
    have HO := hide ho
    have HB := hide hb
    clear hM ho hb HO4 HB4
    by_cases hlt : k < n
    · obtain ⟨b, off, rfl, hz⟩ := (HP.out.below HB.out).at hlt
      have hfk := HTN.out k hlt
      have ha := aheadV_bd HTN.out k hk
      have hst := stpV_le hfk.1 hfk.2 ha.1 ha.2
      have hML : M.length ≤ 1900000000 := by have := stL_len HTN.out k hk; rw [HM.out, List.length_append]; omega
      have c1 := l13Step_any (f k) (aheadV f k) hfk.1 hfk.2 ha.1 ha.2 wr
      have c := l13Small_any w1.heap.size u6 M.length M (stpV (f k) (aheadV f k)) (by omega) hML wr HO.out rfl HB.out.size
      have HM2 : Hid (M ++ smL (stpV (f k) (aheadV f k)) = smL n ++ stL f (k + 1)) := by show _ = _; rw [HM.out, List.append_assoc]; rfl
      have HA : Hid (aheadV f (k + 1) = f k) := rfl
      have HZ : Hid (∀ w', Below w1.heap.size wr w' → w'.cell? ⟨b, off + k, none⟩ = some (.int .i64 (f k))) := fun w' h => by
        obtain ⟨b', off', e, hz'⟩ := (HP.out.below (HB.out.trans h)).at hlt
        cases e
        exact hz'
      clear HP HO HM HTN
      generalize stpV (f k) (aheadV f k) = S at *
      generalize aheadV f k = A at *
      go_wp2_with fail
      refine c1.mono ?_
      rintro e w' ⟨rfl, rfl⟩
      clear c1
      go_wp2_with fail
      refine c.mono ?_
      rintro e w'' ⟨v', rfl, ho', hb'⟩
      have hz2 := HZ.out _ hb'
      have HO' := hide ho'
      have HB' := hide (HB.out.trans hb')
      clear c ho' hb' HB HZ hz
      generalize M ++ smL S = M' at *
      go_wp2_with fail
      go_roundw
      case rel => exact ⟨k + 1, M', hlt, by go_num, by rw [HA.out], HM2.out, HO'.out, HB'.out⟩
      case measure => simp [intOf]; omega
    · obtain rfl : k = n := by omega
      have HF : Hid (CmR 4 f k w1 (.returned (.tuple #[u6, .bool true])) wr) := CmR.ofOwn HT.out (by rw [HM.out, HCL.out]; rfl) HO.out HB.out
      clear HP HO HM HTN HB HT HCL HCLe
      go_wp2_with fail
      go_ret2
      exact HF.out

end Go.Proofs.Ytebcclmilplfcaa
