/- The specification's Expand: codec 4. -/
import Derived.Test.YtebcclmilplfcaaXsd
import Derived.Test.YtebcclmilplfcaaCmv
import Derived.BigRegion
namespace Go.Proofs.Ytebcclmilplfcaa
open Go.RowKit
set_option maxRecDepth 100000 in
set_option maxHeartbeats 8000000 in
theorem specExpandS_any (s : ByteArray) (hs : s = sSteps) (a : Option Addr) (N cap : Nat) (B : List Int) (hNN : B.length = N) (hN : N ≤ 1048576) (hg : ∀ k, k < N → 0 ≤ gB B k ∧ gB B k ≤ 255) (w : World) (h : PxU a N (gB B) w) :
    Calls Try.prog 14 #[.string s, .slice a N cap] w (LsF (exT 4 B).length (gL (exT 4 B)) (exO 4 B) w) := by
  have HP := hide h
  have HG := hide hg
  have HNN := hide hNN
  have cT := l13Take_any a N cap (gB B) hN hg 0 (by omega) w h
  rw [show ((0 : Nat) : Int) = 0 from rfl] at cT
  have hbd := tk_bd (gB B) N 0 hg
  have HCT : Hid (∀ f m, Vld 4 f m B → tkV (gB B) N 0 = m ∧ tkO (gB B) N 0 = ((smL m).length : Nat) ∧ m ≤ 65536 ∧ tnB f m) := fun f m hv => by
    obtain ⟨hm, ht, hB⟩ := hv.is
    have := tk_read m (by omega) [] (cdL 4 f m) B (by rw [hB]; rfl)
    simp only [List.length_nil, List.nil_append, hNN] at this
    exact ⟨this.1, this.2, hm, ht⟩
  have cC := specCodecs_any w
  have cF := fun w' h' => l12Find_any w.heap.size 4 4 g4 s (by omega) w' h'
  have hcd : cdN s = 4 := by rw [hs]; decide
  have HCD := hide hcd
  have k1 : (s.toList == [112, 108, 97, 105, 110]) = false := by rw [hs, ByteArray.toList_eq]; decide
  have k3 : (s.toList == [114, 117, 110, 115]) = false := by rw [hs, ByteArray.toList_eq]; decide
  have k4 : (s.toList == [115, 116, 101, 112, 115]) = true := by rw [hs, ByteArray.toList_eq]; decide
  have k2 : (s.toList == [114, 105, 99, 101]) = false := by rw [hs, ByteArray.toList_eq]; decide
  have HNO : Hid ((∀ T, ¬ Vld 4 (gL T) T.length B) → ∀ (w' : World) (ad : Option Addr) (cp : Nat), Below w.heap.size w w' → LsF (exT 4 B).length (gL (exT 4 B)) (exO 4 B) w (.returned (.tuple #[.slice ad 0 cp, .bool false])) w') := fun hno w' ad cp hb => ex_nil hno w w' ad cp hb
  have HBY : Hid (∀ x ∈ B, 0 ≤ x ∧ x ≤ 255) := fun x hx => by
    obtain ⟨i, hi, rfl⟩ := List.getElem_of_mem hx
    have := hg i (by omega)
    rwa [show gB B i = B[i] from by show B.getD i 0 = _; rw [List.getD_eq_getElem?_getD, List.getElem?_eq_getElem hi]; rfl] at this
  generalize hv0 : tkV (gB B) N 0 = v0 at *
  generalize ho0 : tkO (gB B) N 0 = o0 at *
  clear h hg hs hv0 ho0 hNN
  go_enter Try.func14, Try.ntmps14
  go_wp2_with fail
  refine cT.mono ?_
  rintro e w1 ⟨rfl, rfl⟩
  clear cT
  rcases hbd with ⟨rfl, rfl⟩ | ⟨hv0, hv1, ho0, ho1⟩
  · have HR := hide (HNO.out (fun T hv => by have := (HCT.out _ _ hv).2.1; omega) (w1.alloc (.cells #[] 2)) (some ⟨w1.heap.size, 0, none⟩) 0 (bnew _ _))
    clear HCT HNO cC cF HP HG HBY HNN HCD
    go_wp2_with fail
    go_ret2
    exact HR.out
  obtain ⟨n, rfl⟩ : ∃ n : Nat, v0 = n := ⟨v0.toNat, by omega⟩
  obtain ⟨p0, rfl⟩ : ∃ p : Nat, o0 = p := ⟨o0.toNat, by omega⟩
  have ho2 : ¬ (p0 : Int) < 0 := by omega
  by_cases hbig : (65536 : Int) < n
  · have HR := hide (HNO.out (fun T hv => by have := HCT.out _ _ hv; omega) (w1.alloc (.cells #[] 2)) (some ⟨w1.heap.size, 0, none⟩) 0 (bnew _ _))
    clear HCT HNO cC cF HP HG HBY HNN HCD
    go_wp2_with fail
    go_ret2
    exact HR.out
  go_wp2_with fail
  refine cC.mono ?_
  rintro e w2 ⟨rfl, hx2, hb2⟩
  have cF2 := cF w2 hx2
  have HB2 := hide hb2
  clear cC cF hx2 hb2
  go_wp2_with fail
  refine cF2.mono ?_
  rintro e w3 ⟨⟨r, rfl, hr⟩, rfl⟩
  have hr' := isAt_cd hr
  rw [hcd] at hr'
  have hr0 : r = 3 := by omega
  subst hr0
  clear hr hr' cF2 hcd hv0 hv1 ho0
  have HB3 : Hid (Below w1.heap.size w1 (w3.alloc (.cells #[] 2))) := HB2.out.alloc HB2.out.size _
  have HO3 : Hid ((w3.alloc (.cells #[] 2)).ownsRow w1.heap.size 2 1 (.slice (some ⟨w3.heap.size, 0, none⟩) 0 0) 0 (ints [])) := World.ownsRow_lit w3 #[] 0 HB2.out.size (by unfold maxLen; omega) rfl
  clear HB2
  go_wp2_with fail
  go_loopw [7, 8, 9, 11, 12] (fun o u y _ _ wr => ∃ (p i : Nat) (L : List Int) (ad : Option Addr) (cp : Nat), o = .int .i64 p ∧ u = .slice ad i cp ∧ (∃ ls : Int, y = .int .i64 ls ∧ 0 ≤ ls ∧ ls ≤ 65535 ∧ Hid (∀ f m, Vld 4 f m B → m = n ∧ JS n L p ls f)) ∧ p ≤ N ∧ i ≤ n ∧ Hid (L.length = i) ∧ wr.ownsRow w1.heap.size 2 1 (.slice ad i cp) i (ints L) ∧ Below w1.heap.size w1 wr ∧ Hid (∀ f m, Vld 4 f m B → m = n ∧ True)) (fun _ u _ _ _ _ => n - lnOf u)
  case atStart => exact ⟨p0, 0, [], _, _, rfl, rfl, ⟨0, rfl, by omega, by omega, fun f m hv => by
    obtain ⟨h1, h2, h3, h4⟩ := HCT.out f m hv
    have hm : m = n := by omega
    subst hm
    exact ⟨rfl, by simp, by simp [fl], by simp [stL]; omega, rfl⟩⟩, by omega, by omega, hide rfl, HO3.out, HB3.out, fun f m hv => by
    obtain ⟨h1, h2, h3, h4⟩ := HCT.out f m hv
    exact ⟨by omega, trivial⟩⟩
  case round =>
    obtain ⟨p, i, L, ad, cp, rfl, rfl, ⟨ls, rfl, hls0, hls1, HI⟩, hp, hi, HL, hw, hb, HI9⟩ := hrel
    clear HI9
    have HW := hide hw
    have HB := hide hb
    clear hw hb HO3 HB3
    by_cases hlt : i < n
    · have hlt' : (i : Int) < n := by omega
      have cT2 := l13Take_any a N cap (gB B) hN HG.out p hp wr (HP.out.below HB.out)
      have hbd2 := tk_bd (gB B) N p HG.out
      have HJ : Hid (∀ f m, Vld 4 f m B → m = n ∧ 0 ≤ tkO (gB B) N p ∧ 0 ≤ spA ls (tkV (gB B) N p) ∧ spA ls (tkV (gB B) N p) ≤ 65535 ∧ ∀ o2 : Nat, tkO (gB B) N p = o2 → JS n (L ++ [spA ls (tkV (gB B) N p)]) o2 (spA ls (tkV (gB B) N p)) f) := fun f m hv => by
        obtain ⟨e, hj⟩ := HI.out f m hv
        subst e
        have := JS.step (HCT.out f m hv).2.2.2 hv.steps hj (by rw [HL.out]; exact hlt)
        rw [HNN.out] at this
        exact ⟨rfl, this⟩
      generalize tkV (gB B) N p = V1 at *
      generalize tkO (gB B) N p = O1 at *
      clear HI
      rcases hbd2 with ⟨rfl, rfl⟩ | ⟨hV0, hV1, hO0, hO1⟩
      · have HR := hide (HNO.out (fun T hv => by have := (HJ.out _ _ hv).2.1; omega) (wr.alloc (.cells #[] 2)) (some ⟨wr.heap.size, 0, none⟩) 0 (HB.out.alloc HB.out.size _))
        clear HNO HP HG HBY HNN HCD HJ HW HB HCT
        go_wp2_with fail
        refine cT2.mono ?_
        rintro e w5 ⟨rfl, rfl⟩
        clear cT2
        go_wp2_with fail
        go_ret2
        exact HR.out
      obtain ⟨C, rfl⟩ : ∃ C : Nat, V1 = C := ⟨V1.toNat, by omega⟩
      obtain ⟨o2, rfl⟩ : ∃ o : Nat, O1 = o := ⟨O1.toNat, by omega⟩
      have ho9 : ¬ (o2 : Int) < 0 := by omega
      by_cases hpar : (C : Int) % 2 = 1
      · have et : ((C : Int).tmod 2) = 1 := by rw [Int.tmod_eq_emod_of_nonneg (by omega)]; exact hpar
        have HSV : Hid (spA ls (C : Int) = ls - ((C : Int) + 1) / 2) := by show spA _ _ = _; unfold spA; rw [if_pos hpar]
        have hx0 : -1048577 ≤ ls - ((C : Int) + 1) / 2 := by omega
        have hx1 : ls - ((C : Int) + 1) / 2 ≤ 65535 := by omega
        rw [HSV.out] at HJ
        clear HSV hV0 hV1 hO0
        have cI := fun x w' => l1In_any x 0 65535 w'
        have HP2 := HP
        have HG2 := HG
        clear HP HG
        go_wp2_with fail
        refine cT2.mono ?_
        rintro e w5 ⟨rfl, rfl⟩
        clear cT2
        go_wp2_with fail
        refine (cI _ _).mono ?_
        rintro e w5 ⟨rfl, rfl⟩
        clear cI et
        generalize hVV : ls - ((C : Int) + 1) / 2 = V at *
        clear hVV
        by_cases hin : 0 ≤ V ∧ V ≤ 65535
        · rw [inB_t hin.1 hin.2]
          obtain ⟨hin0, hin1⟩ := hin
          have HI2 : Hid (∀ f m, Vld 4 f m B → m = n ∧ JS n (L ++ [V]) o2 V f) := fun f m hv => ⟨(HJ.out f m hv).1, (HJ.out f m hv).2.2.2.2 o2 rfl⟩
          clear HJ
          go_wp2_with fail
          go_loopw [8, 12] (fun u t wq => ∃ (j : Nat) (M : List Int) (ad' : Option Addr) (cp' : Nat), j ≤ 1 ∧ t = .int .i64 ((1 : Int) - (j : Int)) ∧ u = .slice ad' (i + j) cp' ∧ Hid (M.length = i + j) ∧ Hid (M = L ++ List.replicate j V) ∧ wq.ownsRow w1.heap.size 2 1 (.slice ad' (i + j) cp') (i + j) (ints M) ∧ Below w1.heap.size w1 wq) (fun _ t _ => (intOf t).toNat)
          case atStart => exact ⟨0, L, ad, cp, by omega, by simp, rfl, HL, hide (by simp), HW.out, HB.out⟩
          case round =>
            obtain ⟨j, M, ad', cp', hj, rfl, rfl, HML, HM, ho, hb⟩ := hrel
            have HW2 := hide ho
            have HB2 := hide hb
            clear ho hb HW HB
            by_cases hjt : j < 1
            · have q9 : (0 : Int) < (1 : Int) - (j : Int) := by omega
              have HS : Hid (w1.heap.size ≤ wr.heap.size) := HB2.out.size
              have HM2 : Hid (M ++ [V] = L ++ List.replicate (j + 1) V) := by show _ = _; rw [HM.out, List.replicate_succ', List.append_assoc]
              have HML2 : Hid ((M ++ [V]).length = i + (j + 1)) := by show _ = _; rw [List.length_append, HML.out]; rfl
              clear HM HML HNN HCD HBY HNO HCT HP2 HG2
              generalize hik : i + j = ik at *
              have hik2 : i + (j + 1) = ik + 1 := by omega
              generalize hvv : Value.slice ad' ik cp' = vv at *
              go_wp2_with (refine growL _ rfl _ _ rfl w1.heap.size vv ik M rfl w1 HW2.out HB2.out HS.out V rfl (by omega) ?_)
              intro v' w' ho' hb' _
              obtain ⟨a2, c2, rfl⟩ := own_form1 ho'
              have HW3 := hide ho'
              have HB3 := hide hb'
              clear ho' hb' HW2 HB2 HS hvv
              generalize M ++ [V] = M' at *
              go_wp2_with fail
              go_roundw
              case rel => exact ⟨j + 1, M', a2, c2, by omega, by go_num, by rw [hik2], HML2, HM2, by rw [hik2]; exact HW3.out, HB3.out⟩
              case measure => simp [intOf]; omega
            · obtain rfl : j = 1 := by omega
              have q9 : ¬ (0 : Int) < (1 : Int) - ((1 : Nat) : Int) := by omega
              have HIJ : Hid (∀ f m, Vld 4 f m B → m = n ∧ JS n M o2 V f) := by rw [HM.out]; exact HI2
              clear HNN HCD HBY HNO HCT HP2 HG2
              go_wp2_with fail
              go_roundw
              case rel => exact ⟨o2, i + 1, M, ad', cp', rfl, rfl, ⟨V, rfl, hin0, hin1, HIJ⟩, by omega, by omega, HML, HW2.out, HB2.out, fun f m hv => ⟨(HI2.out f m hv).1, trivial⟩⟩
              case measure => simp [lnOf]; omega
        · rw [inB_f hin]
          have HR := hide (HNO.out (fun T hv => by have := HJ.out _ _ hv; exact hin ⟨this.2.2.1, this.2.2.2.1⟩) (w5.alloc (.cells #[] 2)) (some ⟨w5.heap.size, 0, none⟩) 0 (HB.out.alloc HB.out.size _))
          clear HNO HP2 HG2 HBY HNN HCD HJ HW HB HCT
          go_wp2_with fail
          go_ret2
          exact HR.out
      · have et : ((C : Int).tmod 2) = 0 := by rw [Int.tmod_eq_emod_of_nonneg (by omega)]; omega
        have hpar0 : (C : Int) % 2 = 0 := by omega
        have HSV : Hid (spA ls (C : Int) = ls + (C : Int) / 2) := by show spA _ _ = _; unfold spA; rw [if_neg hpar]
        have hx0 : 0 ≤ ls + (C : Int) / 2 := by omega
        have hx1 : ls + (C : Int) / 2 ≤ 1200000 := by omega
        rw [HSV.out] at HJ
        clear hpar
        clear HSV hV0 hV1 hO0
        have cI := fun x w' => l1In_any x 0 65535 w'
        have HP2 := HP
        have HG2 := HG
        clear HP HG
        go_wp2_with fail
        refine cT2.mono ?_
        rintro e w5 ⟨rfl, rfl⟩
        clear cT2
        go_wp2_with fail
        refine (cI _ _).mono ?_
        rintro e w5 ⟨rfl, rfl⟩
        clear cI et
        generalize hVV : ls + (C : Int) / 2 = V at *
        clear hVV
        by_cases hin : 0 ≤ V ∧ V ≤ 65535
        · rw [inB_t hin.1 hin.2]
          obtain ⟨hin0, hin1⟩ := hin
          have HI2 : Hid (∀ f m, Vld 4 f m B → m = n ∧ JS n (L ++ [V]) o2 V f) := fun f m hv => ⟨(HJ.out f m hv).1, (HJ.out f m hv).2.2.2.2 o2 rfl⟩
          clear HJ
          go_wp2_with fail
          go_loopw [8, 12] (fun u t wq => ∃ (j : Nat) (M : List Int) (ad' : Option Addr) (cp' : Nat), j ≤ 1 ∧ t = .int .i64 ((1 : Int) - (j : Int)) ∧ u = .slice ad' (i + j) cp' ∧ Hid (M.length = i + j) ∧ Hid (M = L ++ List.replicate j V) ∧ wq.ownsRow w1.heap.size 2 1 (.slice ad' (i + j) cp') (i + j) (ints M) ∧ Below w1.heap.size w1 wq) (fun _ t _ => (intOf t).toNat)
          case atStart => exact ⟨0, L, ad, cp, by omega, by simp, rfl, HL, hide (by simp), HW.out, HB.out⟩
          case round =>
            obtain ⟨j, M, ad', cp', hj, rfl, rfl, HML, HM, ho, hb⟩ := hrel
            have HW2 := hide ho
            have HB2 := hide hb
            clear ho hb HW HB
            by_cases hjt : j < 1
            · have q9 : (0 : Int) < (1 : Int) - (j : Int) := by omega
              have HS : Hid (w1.heap.size ≤ wr.heap.size) := HB2.out.size
              have HM2 : Hid (M ++ [V] = L ++ List.replicate (j + 1) V) := by show _ = _; rw [HM.out, List.replicate_succ', List.append_assoc]
              have HML2 : Hid ((M ++ [V]).length = i + (j + 1)) := by show _ = _; rw [List.length_append, HML.out]; rfl
              clear HM HML HNN HCD HBY HNO HCT HP2 HG2
              generalize hik : i + j = ik at *
              have hik2 : i + (j + 1) = ik + 1 := by omega
              generalize hvv : Value.slice ad' ik cp' = vv at *
              go_wp2_with (refine growL _ rfl _ _ rfl w1.heap.size vv ik M rfl w1 HW2.out HB2.out HS.out V rfl (by omega) ?_)
              intro v' w' ho' hb' _
              obtain ⟨a2, c2, rfl⟩ := own_form1 ho'
              have HW3 := hide ho'
              have HB3 := hide hb'
              clear ho' hb' HW2 HB2 HS hvv
              generalize M ++ [V] = M' at *
              go_wp2_with fail
              go_roundw
              case rel => exact ⟨j + 1, M', a2, c2, by omega, by go_num, by rw [hik2], HML2, HM2, by rw [hik2]; exact HW3.out, HB3.out⟩
              case measure => simp [intOf]; omega
            · obtain rfl : j = 1 := by omega
              have q9 : ¬ (0 : Int) < (1 : Int) - ((1 : Nat) : Int) := by omega
              have HIJ : Hid (∀ f m, Vld 4 f m B → m = n ∧ JS n M o2 V f) := by rw [HM.out]; exact HI2
              clear HNN HCD HBY HNO HCT HP2 HG2
              go_wp2_with fail
              go_roundw
              case rel => exact ⟨o2, i + 1, M, ad', cp', rfl, rfl, ⟨V, rfl, hin0, hin1, HIJ⟩, by omega, by omega, HML, HW2.out, HB2.out, fun f m hv => ⟨(HI2.out f m hv).1, trivial⟩⟩
              case measure => simp [lnOf]; omega
        · rw [inB_f hin]
          have HR := hide (HNO.out (fun T hv => by have := HJ.out _ _ hv; exact hin ⟨this.2.2.1, this.2.2.2.1⟩) (w5.alloc (.cells #[] 2)) (some ⟨w5.heap.size, 0, none⟩) 0 (HB.out.alloc HB.out.size _))
          clear HNO HP2 HG2 HBY HNN HCD HJ HW HB HCT
          go_wp2_with fail
          go_ret2
          exact HR.out
    · have hin : i = n := by omega
      have hlt' : ¬ (i : Int) < n := by omega
      have HV : Hid (∀ f m, Vld 4 f m B → L = fl f m) := fun f m hv => by
        obtain ⟨e, hj⟩ := HI.out f m hv
        rw [e]
        rw [hj.2.1, HL.out, hin]
      obtain ⟨a3, c3, b3, h3, ho3, hb3⟩ := ow_fl (f := gL L) (n := i) (by rw [← HL.out, fl_gL, HL.out]; exact HW.out)
      cases h3
      have HO3 := hide ho3
      have HB3 := hide hb3
      have cK := specCompress_any s ad i cp (gL L) (by omega) wr ho3.px
      rw [HCD.out] at cK
      have HNV : Hid (¬ Vld 4 (gL L) i B → ∀ T, ¬ Vld 4 (gL T) T.length B) := fun h T hT => by
        have := HV.out _ _ hT
        rw [fl_gL] at this
        rw [← HL.out, this] at h
        exact h hT
      have HVD : Hid (Vld 4 (gL L) i B ↔ cmOk 4 (gL L) i = true ∧ cmL 4 (gL L) i = B) := Iff.rfl
      have hby := cmL_by 4 (gL L) i
      have HBM := hide hby
      unfold CmR at cK
      clear hby HI HW ho3 hb3 hin
      generalize cmL 4 (gL L) i = M at *
      generalize hok : cmOk 4 (gL L) i = ok at *
      have HOK := hide hok
      clear hok
      go_wp2_with fail
      refine cK.mono ?_
      rintro e w4 ⟨a4, c4, b4, rfl, ho4, -, hb4⟩
      have HB4 := hide (bnext HB.out (Nat.le_refl _) hb4)
      have HO4 := hide (HO3.out.below' hb4)
      have q1 := conv_px a4 M.length c4 (fun k => M.getD k 0) w4 ho4.pxU
      have q2 := conv_px a N cap (gB B) w4 (HP.out.below HB4.out)
      rw [show fl (fun k => M.getD k 0) M.length = M from fl_gL M] at q1
      rw [show fl (gB B) N = B from by rw [← HNN.out]; exact fl_gL B] at q2
      have q3 := strOfNums_eq M B HBM.out HBY.out
      clear cK ho4 hb4 HO3 HB HG HP HBM HBY HNN HCD HCT
      cases ok with
      | false =>
        have HR := hide (HNO.out (HNV.out (fun h => by have := (HVD.out.1 h).1; cases this)) (w4.alloc (.cells #[] 2)) (some ⟨w4.heap.size, 0, none⟩) 0 (HB4.out.alloc HB4.out.size _))
        clear HNV HVD HOK HO4 HB4 HB3 HV HNO q1 q2 q3 HL
        go_wp2_with fail
        go_ret2
        exact HR.out
      | true =>
        by_cases hM : M = B
        · rw [decide_eq_true hM] at q3
          have q4 : ((strOfNums M).toList != (strOfNums B).toList) = false := by unfold bne; rw [q3]; rfl
          have hx := ex_is (T := L) (by rw [HL.out]; exact HVD.out.2 ⟨rfl, hM⟩) HV.out
          have HR : Hid (LsF (exT 4 B).length (gL (exT 4 B)) (exO 4 B) w1 (.returned (.tuple #[.slice ad i cp, .bool true])) w4) := by
            show LsF _ _ _ _ _ _
            rw [hx.1, hx.2, HL.out]
            exact ⟨ad, cp, b3, rfl, HO4.out, HB3.out, HB4.out⟩
          generalize strOfNums M = S1 at *
          generalize strOfNums B = S2 at *
          clear HNV HVD HOK HO4 HB4 HB3 HV hx hM HNO HL
          go_wp2_with fail
          go_ret2
          exact HR.out
        · rw [decide_eq_false hM] at q3
          have q4 : ((strOfNums M).toList != (strOfNums B).toList) = true := by unfold bne; rw [q3]; rfl
          have HR := hide (HNO.out (HNV.out (fun h => hM (HVD.out.1 h).2)) (w4.alloc (.cells #[] 2)) (some ⟨w4.heap.size, 0, none⟩) 0 (HB4.out.alloc HB4.out.size _))
          generalize strOfNums M = S1 at *
          generalize strOfNums B = S2 at *
          clear HNV HVD HOK HO4 HB4 HB3 HV hM HNO HL
          go_wp2_with fail
          go_ret2
          exact HR.out

end Go.Proofs.Ytebcclmilplfcaa
