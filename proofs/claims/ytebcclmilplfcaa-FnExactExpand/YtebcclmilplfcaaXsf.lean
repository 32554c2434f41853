/- The specification's Expand: codec 3. -/
import Derived.Test.YtebcclmilplfcaaXsd
import Derived.Test.YtebcclmilplfcaaCmv
import Derived.BigRegion
namespace Go.Proofs.Ytebcclmilplfcaa
open Go.RowKit
set_option maxRecDepth 100000 in
set_option maxHeartbeats 8000000 in
theorem specExpandR_any (s : ByteArray) (hs : s = sRuns) (a : Option Addr) (N cap : Nat) (B : List Int) (hNN : B.length = N) (hN : N ≤ 1048576) (hg : ∀ k, k < N → 0 ≤ gB B k ∧ gB B k ≤ 255) (w : World) (h : PxU a N (gB B) w) :
    Calls Try.prog 14 #[.string s, .slice a N cap] w (LsF (exT 3 B).length (gL (exT 3 B)) (exO 3 B) w) := by
  have HP := hide h
  have HG := hide hg
  have HNN := hide hNN
  have cT := l13Take_any a N cap (gB B) hN hg 0 (by omega) w h
  rw [show ((0 : Nat) : Int) = 0 from rfl] at cT
  have hbd := tk_bd (gB B) N 0 hg
  have HCT : Hid (∀ f m, Vld 3 f m B → tkV (gB B) N 0 = m ∧ tkO (gB B) N 0 = ((smL m).length : Nat) ∧ m ≤ 65536 ∧ tnB f m) := fun f m hv => by
    obtain ⟨hm, ht, hB⟩ := hv.is
    have := tk_read m (by omega) [] (cdL 3 f m) B (by rw [hB]; rfl)
    simp only [List.length_nil, List.nil_append, hNN] at this
    exact ⟨this.1, this.2, hm, ht⟩
  have cC := specCodecs_any w
  have cF := fun w' h' => l12Find_any w.heap.size 4 4 g4 s (by omega) w' h'
  have hcd : cdN s = 3 := by rw [hs]; decide
  have HCD := hide hcd
  have k1 : (s.toList == [112, 108, 97, 105, 110]) = false := by rw [hs, ByteArray.toList_eq]; decide
  have k3 : (s.toList == [114, 117, 110, 115]) = true := by rw [hs, ByteArray.toList_eq]; decide
  have k4 : (s.toList == [115, 116, 101, 112, 115]) = false := by rw [hs, ByteArray.toList_eq]; decide
  have k2 : (s.toList == [114, 105, 99, 101]) = false := by rw [hs, ByteArray.toList_eq]; decide
  have HNO : Hid ((∀ T, ¬ Vld 3 (gL T) T.length B) → ∀ (w' : World) (ad : Option Addr) (cp : Nat), Below w.heap.size w w' → LsF (exT 3 B).length (gL (exT 3 B)) (exO 3 B) w (.returned (.tuple #[.slice ad 0 cp, .bool false])) w') := fun hno w' ad cp hb => ex_nil hno w w' ad cp hb
  have HBY : Hid (∀ x ∈ B, 0 ≤ x ∧ x ≤ 255) := fun x hx => by
    obtain ⟨i, hi, rfl⟩ := List.getElem_of_mem hx
    have := hg i (by omega)
    rwa [show gB B i = B[i] from by show B.getD i 0 = _; rw [List.getD_eq_getElem?_getD, List.getElem?_eq_getElem hi]; rfl] at this
  generalize hv0 : tkV (gB B) N 0 = v0 at *
  generalize ho0 : tkO (gB B) N 0 = o0 at *
  clear h hg hs hv0 ho0 hNN
  go_enter Try.func14, Try.ntmps14
  go_wp2_with fail
  refine cT.mono ?_
  rintro e w1 ⟨rfl, rfl⟩
  clear cT
  rcases hbd with ⟨rfl, rfl⟩ | ⟨hv0, hv1, ho0, ho1⟩
  · have HR := hide (HNO.out (fun T hv => by have := (HCT.out _ _ hv).2.1; omega) (w1.alloc (.cells #[] 2)) (some ⟨w1.heap.size, 0, none⟩) 0 (bnew _ _))
    clear HCT HNO cC cF HP HG HBY HNN HCD
    go_wp2_with fail
    go_ret2
    exact HR.out
  obtain ⟨n, rfl⟩ : ∃ n : Nat, v0 = n := ⟨v0.toNat, by omega⟩
  obtain ⟨p0, rfl⟩ : ∃ p : Nat, o0 = p := ⟨o0.toNat, by omega⟩
  have ho2 : ¬ (p0 : Int) < 0 := by omega
  by_cases hbig : (65536 : Int) < n
  · have HR := hide (HNO.out (fun T hv => by have := HCT.out _ _ hv; omega) (w1.alloc (.cells #[] 2)) (some ⟨w1.heap.size, 0, none⟩) 0 (bnew _ _))
    clear HCT HNO cC cF HP HG HBY HNN HCD
    go_wp2_with fail
    go_ret2
    exact HR.out
  go_wp2_with fail
  refine cC.mono ?_
  rintro e w2 ⟨rfl, hx2, hb2⟩
  have cF2 := cF w2 hx2
  have HB2 := hide hb2
  clear cC cF hx2 hb2
  go_wp2_with fail
  refine cF2.mono ?_
  rintro e w3 ⟨⟨r, rfl, hr⟩, rfl⟩
  have hr' := isAt_cd hr
  rw [hcd] at hr'
  have hr0 : r = 2 := by omega
  subst hr0
  clear hr hr' cF2 hcd hv0 hv1 ho0
  have HB3 : Hid (Below w1.heap.size w1 (w3.alloc (.cells #[] 2))) := HB2.out.alloc HB2.out.size _
  have HO3 : Hid ((w3.alloc (.cells #[] 2)).ownsRow w1.heap.size 2 1 (.slice (some ⟨w3.heap.size, 0, none⟩) 0 0) 0 (ints [])) := World.ownsRow_lit w3 #[] 0 HB2.out.size (by unfold maxLen; omega) rfl
  clear HB2
  go_wp2_with fail
  go_loopw [7, 8, 9, 11, 12] (fun o u y _ _ wr => ∃ (p i : Nat) (L : List Int) (ad : Option Addr) (cp : Nat), o = .int .i64 p ∧ u = .slice ad i cp ∧ y = .int .i64 0 ∧ p ≤ N ∧ i ≤ n ∧ Hid (L.length = i) ∧ wr.ownsRow w1.heap.size 2 1 (.slice ad i cp) i (ints L) ∧ Below w1.heap.size w1 wr ∧ Hid (∀ f m, Vld 3 f m B → m = n ∧ RnI B n L (8 * p) f)) (fun _ u _ _ _ _ => n - lnOf u)
  case atStart => exact ⟨p0, 0, [], _, _, rfl, rfl, rfl, by omega, by omega, hide rfl, HO3.out, HB3.out, fun f m hv => by
    obtain ⟨h1, h2, h3, h4⟩ := HCT.out f m hv
    have hm : m = n := by omega
    subst hm
    have := hv.runs
    rw [show (smL m).length = p0 by omega] at this
    exact ⟨rfl, this⟩⟩
  case round =>
    obtain ⟨p, i, L, ad, cp, rfl, rfl, rfl, hp, hi, HL, hw, hb, HI⟩ := hrel
    have HW := hide hw
    have HB := hide hb
    clear hw hb HO3 HB3
    by_cases hlt : i < n
    · have hlt' : (i : Int) < n := by omega
      have cT2 := l13Take_any a N cap (gB B) hN HG.out p hp wr (HP.out.below HB.out)
      have hbd2 := tk_bd (gB B) N p HG.out
      have HJ : Hid (∀ f m, Vld 3 f m B → m = n ∧ ∃ o2 o3 r : Nat, tkO (gB B) N p = o2 ∧ tkV (gB B) N p = r ∧ 1 ≤ r ∧ r + i ≤ n ∧ tkO (gB B) N o2 = o3 ∧ 0 ≤ tkV (gB B) N o2 ∧ tkV (gB B) N o2 ≤ 65535 ∧ RnI B n (L ++ List.replicate r (tkV (gB B) N o2)) (8 * o3) f) := fun f m hv => by
        obtain ⟨e, hj⟩ := HI.out f m hv
        subst e
        have := RnI.tk (HCT.out f m hv).2.2.2 (HCT.out f m hv).2.2.1 hj (by rw [HL.out]; exact hlt)
        rw [HNN.out, HL.out] at this
        exact ⟨rfl, this⟩
      have HT3 : Hid (∀ o2 : Nat, o2 ≤ N → Calls Try.prog 36 #[.slice a N cap, .int .i64 o2] wr fun e w' => e = .returned (.tuple #[.int .i64 (tkV (gB B) N o2), .int .i64 (tkO (gB B) N o2)]) ∧ w' = wr) := fun o2 ho => l13Take_any a N cap (gB B) hN HG.out o2 ho wr (HP.out.below HB.out)
      have HBD3 : Hid (∀ o2 : Nat, (tkV (gB B) N o2 = 0 ∧ tkO (gB B) N o2 = -1) ∨ (0 ≤ tkV (gB B) N o2 ∧ tkV (gB B) N o2 < 2097152 ∧ (o2 : Int) < tkO (gB B) N o2 ∧ tkO (gB B) N o2 ≤ N)) := fun o2 => tk_bd (gB B) N o2 HG.out
      generalize hV1 : tkV (gB B) N p = V1 at *
      generalize hO1 : tkO (gB B) N p = O1 at *
      clear HI hV1 hO1
      rcases hbd2 with ⟨rfl, rfl⟩ | ⟨hV0, hV1, hO0, hO1⟩
      · have HR := hide (HNO.out (fun T hv => by obtain ⟨_, o2, o3, r, h9, _⟩ := HJ.out _ _ hv; omega) (wr.alloc (.cells #[] 2)) (some ⟨wr.heap.size, 0, none⟩) 0 (HB.out.alloc HB.out.size _))
        clear HNO HP HG HBY HNN HCD HJ HW HB HCT HT3 HBD3
        go_wp2_with fail
        refine cT2.mono ?_
        rintro e w5 ⟨rfl, rfl⟩
        clear cT2
        go_wp2_with fail
        go_ret2
        exact HR.out
      obtain ⟨C, rfl⟩ : ∃ C : Nat, V1 = C := ⟨V1.toNat, by omega⟩
      obtain ⟨o2, rfl⟩ : ∃ o : Nat, O1 = o := ⟨O1.toNat, by omega⟩
      have ho9 : ¬ (o2 : Int) < 0 := by omega
      clear hV0 hV1 hO0
      by_cases hC0 : (C : Int) = 0
      · have HR := hide (HNO.out (fun T hv => by obtain ⟨_, o2, o3, r, h8, h9, h7, _⟩ := HJ.out _ _ hv; omega) (wr.alloc (.cells #[] 2)) (some ⟨wr.heap.size, 0, none⟩) 0 (HB.out.alloc HB.out.size _))
        have hcb : ((C : Int) == 0) = true := by simp [hC0]
        clear HNO HP HG HBY HNN HCD HJ HW HB HCT HT3 HBD3 hC0
        go_wp2_with fail
        refine cT2.mono ?_
        rintro e w5 ⟨rfl, rfl⟩
        clear cT2
        go_wp2_with fail
        go_ret2
        exact HR.out
      have hcb : ((C : Int) == 0) = false := by simpa using hC0
      have hni : IntKind.i64.wrap ((n : Int) - (i : Int)) = (n : Int) - (i : Int) := by rw [IntKind.wrap_i64]; omega
      by_cases hCn : (n : Int) - (i : Int) < C
      · have HR := hide (HNO.out (fun T hv => by obtain ⟨_, o2, o3, r, h8, h9, h7, h6, _⟩ := HJ.out _ _ hv; omega) (wr.alloc (.cells #[] 2)) (some ⟨wr.heap.size, 0, none⟩) 0 (HB.out.alloc HB.out.size _))
        clear HNO HP HG HBY HNN HCD HJ HW HB HCT HT3 HBD3 hC0
        go_wp2_with fail
        refine cT2.mono ?_
        rintro e w5 ⟨rfl, rfl⟩
        clear cT2
        go_wp2_with fail
        go_ret2
        exact HR.out
      have hC1 : i + C ≤ n := by omega
      have hC2 : 1 ≤ C := by omega
      have cT3 := HT3.out o2 (by omega)
      have hbd3 := HBD3.out o2
      have HJ2 : Hid (∀ f m, Vld 3 f m B → m = n ∧ 0 ≤ tkO (gB B) N o2 ∧ 0 ≤ tkV (gB B) N o2 ∧ tkV (gB B) N o2 ≤ 65535 ∧ ∀ o3 : Nat, tkO (gB B) N o2 = o3 → RnI B n (L ++ List.replicate C (tkV (gB B) N o2)) (8 * o3) f) := fun f m hv => by
        obtain ⟨e, o2', o3, r, h1, h2, _, _, h5, h6, h7, h8⟩ := HJ.out f m hv
        obtain rfl : o2 = o2' := by omega
        obtain rfl : C = r := by omega
        refine ⟨e, by omega, h6, h7, fun o4 h9 => ?_⟩
        obtain rfl : o4 = o3 := by omega
        exact h8
      clear HJ HT3 HBD3 hC0
      generalize tkV (gB B) N o2 = V at *
      generalize tkO (gB B) N o2 = O3 at *
      have hop : (p : Int) ≤ N := by omega
      rcases hbd3 with ⟨rfl, rfl⟩ | ⟨hV0, hV1, hO0, hO3⟩
      · have HR := hide (HNO.out (fun T hv => by have := (HJ2.out _ _ hv).2.1; omega) (wr.alloc (.cells #[] 2)) (some ⟨wr.heap.size, 0, none⟩) 0 (HB.out.alloc HB.out.size _))
        clear HNO HP HG HBY HNN HCD HJ2 HW HB HCT
        go_wp2_with fail
        refine cT2.mono ?_
        rintro e w5 ⟨rfl, rfl⟩
        clear cT2
        go_wp2_with fail
        refine cT3.mono ?_
        rintro e w5 ⟨rfl, rfl⟩
        clear cT3
        go_wp2_with fail
        go_ret2
        exact HR.out
      obtain ⟨o3, rfl⟩ : ∃ o : Nat, O3 = o := ⟨O3.toNat, by omega⟩
      have ho8 : ¬ (o3 : Int) < 0 := by omega
      clear hO0
      have cI := fun w' => l1In_any V 0 65535 w'
      have HP2 := HP
      have HG2 := HG
      clear HP HG
      go_wp2_with fail
      refine cT2.mono ?_
      rintro e w5 ⟨rfl, rfl⟩
      clear cT2
      go_wp2_with fail
      refine cT3.mono ?_
      rintro e w5 ⟨rfl, rfl⟩
      clear cT3
      go_wp2_with fail
      refine (cI _).mono ?_
      rintro e w5 ⟨rfl, rfl⟩
      clear cI
      by_cases hin : 0 ≤ V ∧ V ≤ 65535
      · rw [inB_t hin.1 hin.2]
        have HI2 : Hid (∀ f m, Vld 3 f m B → m = n ∧ RnI B n (L ++ List.replicate C V) (8 * o3) f) := fun f m hv => ⟨(HJ2.out f m hv).1, (HJ2.out f m hv).2.2.2.2 o3 rfl⟩
        clear HJ2 hin
        go_wp2_with fail
        go_loopw [8, 12] (fun u t wq => ∃ (j : Nat) (M : List Int) (ad' : Option Addr) (cp' : Nat), j ≤ C ∧ t = .int .i64 ((C : Int) - (j : Int)) ∧ u = .slice ad' (i + j) cp' ∧ Hid (M.length = i + j) ∧ Hid (M = L ++ List.replicate j V) ∧ wq.ownsRow w1.heap.size 2 1 (.slice ad' (i + j) cp') (i + j) (ints M) ∧ Below w1.heap.size w1 wq) (fun _ t _ => (intOf t).toNat)
        case atStart => exact ⟨0, L, ad, cp, by omega, by simp, rfl, HL, hide (by simp), HW.out, HB.out⟩
        case round =>
          obtain ⟨j, M, ad', cp', hj, rfl, rfl, HML, HM, ho, hb⟩ := hrel
          have HW2 := hide ho
          have HB2 := hide hb
          clear ho hb HW HB
          by_cases hjt : j < C
          · have q9 : (0 : Int) < (C : Int) - (j : Int) := by omega
            have HS : Hid (w1.heap.size ≤ wr.heap.size) := HB2.out.size
            have HM2 : Hid (M ++ [V] = L ++ List.replicate (j + 1) V) := by show _ = _; rw [HM.out, List.replicate_succ', List.append_assoc]
            have HML2 : Hid ((M ++ [V]).length = i + (j + 1)) := by show _ = _; rw [List.length_append, HML.out]; rfl
            clear HM HML HNN HCD HBY HNO HCT HP2 HG2
            generalize hik : i + j = ik at *
            have hik2 : i + (j + 1) = ik + 1 := by omega
            generalize hvv : Value.slice ad' ik cp' = vv at *
            go_wp2_with (refine growL _ rfl _ _ rfl w1.heap.size vv ik M rfl w1 HW2.out HB2.out HS.out V rfl (by omega) ?_)
            intro v' w' ho' hb' _
            obtain ⟨a2, c2, rfl⟩ := own_form1 ho'
            have HW3 := hide ho'
            have HB3 := hide hb'
            clear ho' hb' HW2 HB2 HS hvv
            generalize M ++ [V] = M' at *
            go_wp2_with fail
            go_roundw
            case rel => exact ⟨j + 1, M', a2, c2, by omega, by go_num, by rw [hik2], HML2, HM2, by rw [hik2]; exact HW3.out, HB3.out⟩
            case measure => simp [intOf]; omega
          · obtain rfl : C = j := by omega
            have q9 : ¬ (0 : Int) < (C : Int) - ((C : Nat) : Int) := by omega
            have HIJ : Hid (∀ f m, Vld 3 f m B → m = n ∧ RnI B n M (8 * o3) f) := by rw [HM.out]; exact HI2
            clear HNN HCD HBY HNO HCT HP2 HG2
            go_wp2_with fail
            go_roundw
            case rel => exact ⟨o3, i + C, M, ad', cp', rfl, rfl, rfl, by omega, by omega, HML, HW2.out, HB2.out, HIJ⟩
            case measure => simp [lnOf]; omega
      · rw [inB_f hin]
        have HR := hide (HNO.out (fun T hv => by have := HJ2.out _ _ hv; exact hin ⟨this.2.2.1, this.2.2.2.1⟩) (w5.alloc (.cells #[] 2)) (some ⟨w5.heap.size, 0, none⟩) 0 (HB.out.alloc HB.out.size _))
        clear HNO HP2 HG2 HBY HNN HCD HJ2 HW HB HCT
        go_wp2_with fail
        go_ret2
        exact HR.out
    · have hin : i = n := by omega
      have hlt' : ¬ (i : Int) < n := by omega
      have HV : Hid (∀ f m, Vld 3 f m B → L = fl f m) := fun f m hv => by
        obtain ⟨e, hj⟩ := HI.out f m hv
        rw [e]
        rw [hj.2.1, HL.out, hin]
      obtain ⟨a3, c3, b3, h3, ho3, hb3⟩ := ow_fl (f := gL L) (n := i) (by rw [← HL.out, fl_gL, HL.out]; exact HW.out)
      cases h3
      have HO3 := hide ho3
      have HB3 := hide hb3
      have cK := specCompress_any s ad i cp (gL L) (by omega) wr ho3.px
      rw [HCD.out] at cK
      have HNV : Hid (¬ Vld 3 (gL L) i B → ∀ T, ¬ Vld 3 (gL T) T.length B) := fun h T hT => by
        have := HV.out _ _ hT
        rw [fl_gL] at this
        rw [← HL.out, this] at h
        exact h hT
      have HVD : Hid (Vld 3 (gL L) i B ↔ cmOk 3 (gL L) i = true ∧ cmL 3 (gL L) i = B) := Iff.rfl
      have hby := cmL_by 3 (gL L) i
      have HBM := hide hby
      unfold CmR at cK
      clear hby HI HW ho3 hb3 hin
      generalize cmL 3 (gL L) i = M at *
      generalize hok : cmOk 3 (gL L) i = ok at *
      have HOK := hide hok
      clear hok
      go_wp2_with fail
      refine cK.mono ?_
      rintro e w4 ⟨a4, c4, b4, rfl, ho4, -, hb4⟩
      have HB4 := hide (bnext HB.out (Nat.le_refl _) hb4)
      have HO4 := hide (HO3.out.below' hb4)
      have q1 := conv_px a4 M.length c4 (fun k => M.getD k 0) w4 ho4.pxU
      have q2 := conv_px a N cap (gB B) w4 (HP.out.below HB4.out)
      rw [show fl (fun k => M.getD k 0) M.length = M from fl_gL M] at q1
      rw [show fl (gB B) N = B from by rw [← HNN.out]; exact fl_gL B] at q2
      have q3 := strOfNums_eq M B HBM.out HBY.out
      clear cK ho4 hb4 HO3 HB HG HP HBM HBY HNN HCD HCT
      cases ok with
      | false =>
        have HR := hide (HNO.out (HNV.out (fun h => by have := (HVD.out.1 h).1; cases this)) (w4.alloc (.cells #[] 2)) (some ⟨w4.heap.size, 0, none⟩) 0 (HB4.out.alloc HB4.out.size _))
        clear HNV HVD HOK HO4 HB4 HB3 HV HNO q1 q2 q3 HL
        go_wp2_with fail
        go_ret2
        exact HR.out
      | true =>
        by_cases hM : M = B
        · rw [decide_eq_true hM] at q3
          have q4 : ((strOfNums M).toList != (strOfNums B).toList) = false := by unfold bne; rw [q3]; rfl
          have hx := ex_is (T := L) (by rw [HL.out]; exact HVD.out.2 ⟨rfl, hM⟩) HV.out
          have HR : Hid (LsF (exT 3 B).length (gL (exT 3 B)) (exO 3 B) w1 (.returned (.tuple #[.slice ad i cp, .bool true])) w4) := by
            show LsF _ _ _ _ _ _
            rw [hx.1, hx.2, HL.out]
            exact ⟨ad, cp, b3, rfl, HO4.out, HB3.out, HB4.out⟩
          generalize strOfNums M = S1 at *
          generalize strOfNums B = S2 at *
          clear HNV HVD HOK HO4 HB4 HB3 HV hx hM HNO HL
          go_wp2_with fail
          go_ret2
          exact HR.out
        · rw [decide_eq_false hM] at q3
          have q4 : ((strOfNums M).toList != (strOfNums B).toList) = true := by unfold bne; rw [q3]; rfl
          have HR := hide (HNO.out (HNV.out (fun h => hM (HVD.out.1 h).2)) (w4.alloc (.cells #[] 2)) (some ⟨w4.heap.size, 0, none⟩) 0 (HB4.out.alloc HB4.out.size _))
          generalize strOfNums M = S1 at *
          generalize strOfNums B = S2 at *
          clear HNV HVD HOK HO4 HB4 HB3 HV hM HNO HL
          go_wp2_with fail
          go_ret2
          exact HR.out

end Go.Proofs.Ytebcclmilplfcaa
