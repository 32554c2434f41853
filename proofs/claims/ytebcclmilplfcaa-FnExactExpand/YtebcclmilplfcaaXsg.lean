/- The specification's Expand: codec 2. -/
import Derived.Test.YtebcclmilplfcaaXsd
import Derived.Test.YtebcclmilplfcaaCmv
import Derived.BigRegion
namespace Go.Proofs.Ytebcclmilplfcaa
open Go.RowKit
theorem l13Bit_any (a : Option Addr) (n cap : Nat) (g : Nat → Int) (i : Nat) (hi : i < 8 * n) (hn : n ≤ 1048576) (hg : ∀ k, k < n → 0 ≤ g k ∧ g k ≤ 255) (w : World) (h : PxU a n g w) :
    Calls Try.prog 37 #[.slice a n cap, .int .i64 i] w fun e w' => e = .returned (.int .i64 (bitU g i)) ∧ ∃ d, w' = w.drewN d := by
  have hq : i / 8 < n := by omega
  obtain ⟨b, off, rfl, hz⟩ := h.at hq
  have hv := hg (i / 8) hq
  have c2 := l13Two_any (i % 8) (by omega)
  have hp0 := pow_pos2 (i % 8)
  have e1 : (i : Int).tmod 8 = ((i % 8 : Nat) : Int) := by rw [Int.tmod_eq_emod_of_nonneg (by omega)]; simp
  have e2 : (i : Int).tdiv 8 = ((i / 8 : Nat) : Int) := by rw [Int.tdiv_eq_ediv_of_nonneg (by omega)]; simp
  have e3 : IntKind.i64.wrap ((i / 8 : Nat) : Int) = ((i / 8 : Nat) : Int) := by rw [IntKind.wrap_i64]; omega
  have e4 : IntKind.i64.wrap ((i % 8 : Nat) : Int) = ((i % 8 : Nat) : Int) := by rw [IntKind.wrap_i64]; omega
  have HE : Hid (bitU g i = g (i / 8) / 2 ^ (i % 8) % 2) := rfl
  have hd0 : 0 ≤ g (i / 8) / 2 ^ (i % 8) := Int.ediv_nonneg hv.1 (by omega)
  have hd1 : g (i / 8) / 2 ^ (i % 8) ≤ 255 := Int.le_trans (Int.ediv_le_self _ hv.1) hv.2
  have e5 : (g (i / 8)).tdiv (2 ^ (i % 8)) = g (i / 8) / 2 ^ (i % 8) := Int.tdiv_eq_ediv_of_nonneg hv.1
  generalize bitU g i = BB at *
  generalize g (i / 8) = V at *
  generalize (2 : Int) ^ (i % 8) = P at *
  have e9 : IntKind.i64.wrap V = V := by rw [IntKind.wrap_i64]; omega
  generalize V / P = D at *
  have e6 : IntKind.i64.wrap D = D := by rw [IntKind.wrap_i64]; omega
  have e7 : D.tmod 2 = D % 2 := Int.tmod_eq_emod_of_nonneg hd0
  have e8 : IntKind.i64.wrap (D % 2) = D % 2 := by rw [IntKind.wrap_i64]; omega
  generalize i / 8 = q at *
  generalize i % 8 = t at *
  have hP0 : ¬ P = 0 := by omega
  clear h hg hi
  go_enter Try.func37, Try.ntmps37
  go_wp2_with fail
  go_quiet ((go_at_call 27; exact Calls.quiet_of_same (c2 _)))
  go_wp2_with fail
  go_ret
  exact ⟨by rw [HE.out]; rfl, _, rfl⟩

theorem Vld.riceK {f : Nat → Int} {n : Nat} {B : List Int} (h : Vld 2 f n B) : (smL n).length + 1 ≤ B.length ∧ gB B (smL n).length = bst f n := by
  have hB := h.is.2.2
  simp only [cdL, Nat.reduceEqDiff, if_false, if_true] at hB
  have hB2 : B = smL n ++ (bst f n : Int) :: fl (byA (rcB f (bst f n) n)) (nB (rcN f (bst f n) n)) := by rw [hB]; rfl
  refine ⟨by rw [hB2, List.length_append, List.length_cons]; omega, ?_⟩
  rw [hB2]
  exact gB_mid _ _ _
/-- one tone of rice's that was read -/
theorem RcI.tk {B : List Int} {n K : Nat} {L : List Int} {o : Nat} {f : Nat → Int} (hf : tnB f n) (hi : RcI B n K L o f) (hl : L.length < n) (hN : B.length ≤ 1048576) {h : Nat} (h1 : ∀ k, k < h → bitE (gB B) B.length (o + k) = 1) (h0 : bitE (gB B) B.length (o + h) = 0) :
    o + h + 1 + K ≤ 8 * B.length ∧ 0 ≤ (h : Int) * 2 ^ K + uvE (gB B) B.length (o + h + 1) K ∧ (h : Int) * 2 ^ K + uvE (gB B) B.length (o + h + 1) K ≤ 65535 ∧ RcI B n K (L ++ [(h : Int) * 2 ^ K + uvE (gB B) B.length (o + h + 1) K]) (o + h + 1 + K) f := by
  have hr := hi.room hf hl h1 h0
  have hK : K ≤ 15 := hi.1
  have hp : (2 : Int) ^ K ≤ 32768 := by
    have h9 : (2 : Nat) ^ K ≤ 32768 := Nat.le_trans (Nat.pow_le_pow_right (by omega) hK) (by decide)
    have e9 : (2 : Int) ^ K = ((2 ^ K : Nat) : Int) := by simp
    rw [e9]
    generalize 2 ^ K = y at *
    omega
  have hp0 := pow_pos2 K
  have hu := uvE_bd (gB B) B.length (o + h + 1) K
  have hh : (h : Int) * 2 ^ K ≤ 8388608 * 2 ^ K := Int.mul_le_mul_of_nonneg_right (by omega) (by omega)
  have hh0 : 0 ≤ (h : Int) * 2 ^ K := Int.mul_nonneg (by omega) (by omega)
  have hs : RcS (gB B) B.length K o ((h : Int) * 2 ^ K + uvE (gB B) B.length (o + h + 1) K) (o + h + 1 + K) := by
    refine ⟨h, uvE (gB B) B.length (o + h + 1) K, ?_, fun _ => by rw [show min (o + h + 1) (8 * B.length) = o + h + 1 by omega], h1, h0, by omega⟩
    rw [show min K 64 = K by omega]
    generalize (h : Int) * 2 ^ K = z at *
    generalize uvE (gB B) B.length (o + h + 1) K = t at *
    rw [IntKind.wrap_i64, IntKind.wrap_i64]; omega
  have hI := hi.step hf hl hs
  generalize (h : Int) * 2 ^ K + uvE (gB B) B.length (o + h + 1) K = x at *
  have := hI.2.2.1
  rw [show (L ++ [x]).length = L.length + 1 by simp] at this
  have hx := fl_in hf hl this
  exact ⟨hr, hx.2.1, hx.2.2, hI⟩
set_option maxRecDepth 100000 in
set_option maxHeartbeats 8000000 in
theorem specExpandC_any (s : ByteArray) (hs : s = sRice) (a : Option Addr) (N cap : Nat) (B : List Int) (hNN : B.length = N) (hN : N ≤ 1048576) (hg : ∀ k, k < N → 0 ≤ gB B k ∧ gB B k ≤ 255) (w : World) (h : PxU a N (gB B) w) :
    Calls Try.prog 14 #[.string s, .slice a N cap] w (LsF (exT 2 B).length (gL (exT 2 B)) (exO 2 B) w) := by
  have HP := hide h
  have HG := hide hg
  have HNN := hide hNN
  have cT := l13Take_any a N cap (gB B) hN hg 0 (by omega) w h
  rw [show ((0 : Nat) : Int) = 0 from rfl] at cT
  have hbd := tk_bd (gB B) N 0 hg
  have HCT : Hid (∀ f m, Vld 2 f m B → tkV (gB B) N 0 = m ∧ tkO (gB B) N 0 = ((smL m).length : Nat) ∧ m ≤ 65536 ∧ tnB f m) := fun f m hv => by
    obtain ⟨hm, ht, hB⟩ := hv.is
    have := tk_read m (by omega) [] (cdL 2 f m) B (by rw [hB]; rfl)
    simp only [List.length_nil, List.nil_append, hNN] at this
    exact ⟨this.1, this.2, hm, ht⟩
  have cC := specCodecs_any w
  have cF := fun w' h' => l12Find_any w.heap.size 4 4 g4 s (by omega) w' h'
  have hcd : cdN s = 2 := by rw [hs]; decide
  have HCD := hide hcd
  have k1 : (s.toList == [112, 108, 97, 105, 110]) = false := by rw [hs, ByteArray.toList_eq]; decide
  have k3 : (s.toList == [114, 117, 110, 115]) = false := by rw [hs, ByteArray.toList_eq]; decide
  have k4 : (s.toList == [115, 116, 101, 112, 115]) = false := by rw [hs, ByteArray.toList_eq]; decide
  have k2 : (s.toList == [114, 105, 99, 101]) = true := by rw [hs, ByteArray.toList_eq]; decide
  have HNO : Hid ((∀ T, ¬ Vld 2 (gL T) T.length B) → ∀ (w' : World) (ad : Option Addr) (cp : Nat), Below w.heap.size w w' → LsF (exT 2 B).length (gL (exT 2 B)) (exO 2 B) w (.returned (.tuple #[.slice ad 0 cp, .bool false])) w') := fun hno w' ad cp hb => ex_nil hno w w' ad cp hb
  have HBY : Hid (∀ x ∈ B, 0 ≤ x ∧ x ≤ 255) := fun x hx => by
    obtain ⟨i, hi, rfl⟩ := List.getElem_of_mem hx
    have := hg i (by omega)
    rwa [show gB B i = B[i] from by show B.getD i 0 = _; rw [List.getD_eq_getElem?_getD, List.getElem?_eq_getElem hi]; rfl] at this
  generalize hv0 : tkV (gB B) N 0 = v0 at *
  generalize ho0 : tkO (gB B) N 0 = o0 at *
  clear h hg hs hv0 ho0 hNN
  go_enter Try.func14, Try.ntmps14
  go_wp2_with fail
  refine cT.mono ?_
  rintro e w1 ⟨rfl, rfl⟩
  clear cT
  rcases hbd with ⟨rfl, rfl⟩ | ⟨hv0, hv1, ho0, ho1⟩
  · have HR := hide (HNO.out (fun T hv => by have := (HCT.out _ _ hv).2.1; omega) (w1.alloc (.cells #[] 2)) (some ⟨w1.heap.size, 0, none⟩) 0 (bnew _ _))
    clear HCT HNO cC cF HP HG HBY HNN HCD
    go_wp2_with fail
    go_ret2
    exact HR.out
  obtain ⟨n, rfl⟩ : ∃ n : Nat, v0 = n := ⟨v0.toNat, by omega⟩
  obtain ⟨p0, rfl⟩ : ∃ p : Nat, o0 = p := ⟨o0.toNat, by omega⟩
  have ho2 : ¬ (p0 : Int) < 0 := by omega
  by_cases hbig : (65536 : Int) < n
  · have HR := hide (HNO.out (fun T hv => by have := HCT.out _ _ hv; omega) (w1.alloc (.cells #[] 2)) (some ⟨w1.heap.size, 0, none⟩) 0 (bnew _ _))
    clear HCT HNO cC cF HP HG HBY HNN HCD
    go_wp2_with fail
    go_ret2
    exact HR.out
  go_wp2_with fail
  refine cC.mono ?_
  rintro e w2 ⟨rfl, hx2, hb2⟩
  have cF2 := cF w2 hx2
  have HB2 := hide hb2
  clear cC cF hx2 hb2
  go_wp2_with fail
  refine cF2.mono ?_
  rintro e w3 ⟨⟨r, rfl, hr⟩, rfl⟩
  have hr' := isAt_cd hr
  rw [hcd] at hr'
  have hr0 : r = 1 := by omega
  subst hr0
  clear hr hr' cF2 hcd hv0 hv1 ho0
  have HB3 : Hid (Below w1.heap.size w1 (w3.alloc (.cells #[] 2))) := HB2.out.alloc HB2.out.size _
  have HO3 : Hid ((w3.alloc (.cells #[] 2)).ownsRow w1.heap.size 2 1 (.slice (some ⟨w3.heap.size, 0, none⟩) 0 0) 0 (ints [])) := World.ownsRow_lit w3 #[] 0 HB2.out.size (by unfold maxLen; omega) rfl
  clear HB2
  by_cases hat : (N : Int) ≤ p0
  · have HB := HB3
    have HR := hide (HNO.out (fun T hv => by have h1 := HCT.out _ _ hv; have := (hv.riceK).1; rw [HNN.out] at this; omega) ((w3.alloc (.cells #[] 2)).alloc (.cells #[] 2)) (some ⟨w3.heap.size + 1, 0, none⟩) 0 (HB.out.alloc HB.out.size _))
    clear HNO HP HG HBY HNN HCD HCT HO3 HB3 HB
    go_wp2_with fail
    go_ret2
    exact HR.out
  have hK0 := HG.out p0 (by omega)
  obtain ⟨bb, off, ha, hz⟩ := (HP.out.below HB3.out).at (show p0 < N by omega)
  subst ha
  generalize hgk : gB B p0 = gk at *
  have HGK := hide hgk
  clear hgk
  by_cases hgk : (15 : Int) < gk
  · have HB := HB3
    have HN9 : Hid (∀ T, ¬ Vld 2 (gL T) T.length B) := fun T hv => by
      have h1 := HCT.out _ _ hv
      have h2 := (hv.riceK).2
      have e : (smL T.length).length = p0 := by have := h1.2.1; omega
      rw [e, HGK.out] at h2
      have := bst_le (gL T) T.length
      omega
    have HR := hide (HNO.out HN9.out ((w3.alloc (.cells #[] 2)).alloc (.cells #[] 2)) (some ⟨w3.heap.size + 1, 0, none⟩) 0 (HB.out.alloc HB.out.size _))
    clear HNO HP HG HBY HNN HCD HCT HO3 HB3 HB
    go_wp2_with fail
    go_ret2
    exact HR.out
  obtain ⟨K, rfl⟩ : ∃ K : Nat, gk = K := ⟨gk.toNat, by omega⟩
  have hat2 : ¬ N ≤ p0 := by omega
  have hat3 : decide (N ≤ p0) = false := decide_eq_false hat2
  have hgk3 : decide ((15 : Int) < (K : Int)) = false := decide_eq_false hgk
  go_wp2_with fail
  go_loopw [7, 8, 9, 11, 12] (fun o u y _ _ wr => ∃ (p i : Nat) (L : List Int) (ad : Option Addr) (cp : Nat), o = .int .i64 p ∧ u = .slice ad i cp ∧ y = .int .i64 0 ∧ p ≤ 8 * N ∧ i ≤ n ∧ Hid (L.length = i) ∧ wr.ownsRow w1.heap.size 2 1 (.slice ad i cp) i (ints L) ∧ Below w1.heap.size w1 wr ∧ Hid (∀ f m, Vld 2 f m B → m = n ∧ K = bst f n ∧ RcI B n K L p f)) (fun _ u _ _ _ _ => n - lnOf u)
  case atStart => exact ⟨8 * (p0 + 1), 0, [], _, _, by go_num, rfl, rfl, by omega, by omega, hide rfl, HO3.out, HB3.out, fun f m hv => by
    obtain ⟨h1, h2, h3, h4⟩ := HCT.out f m hv
    have hm : m = n := by omega
    subst hm
    have e : p0 = (smL m).length := by omega
    have h5 := (hv.riceK).2
    rw [← e, HGK.out] at h5
    have h6 := (hv.rice).2
    rw [← e, HNN.out, show min (8 * p0 + 8) (8 * N) = 8 * (p0 + 1) by omega] at h6
    have h7 : K = bst f m := by omega
    rw [← h7] at h6
    exact ⟨rfl, h7, h6⟩⟩
  case round =>
    obtain ⟨p, i, L, ad, cp, rfl, rfl, rfl, hp, hi, HL, hw, hb, HI⟩ := hrel
    have HW := hide hw
    have HB := hide hb
    clear hw hb HO3 HB3
    by_cases hlt : i < n
    · have hlt' : (i : Int) < n := by omega
      have hKK : K ≤ 15 := by omega
      have HRC : Hid (∀ h : Nat, (∀ k, k < h → bitE (gB B) N (p + k) = 1) → bitE (gB B) N (p + h) = 0 → ∀ f m, Vld 2 f m B → m = n ∧ K = bst f n ∧ p + h + 1 + K ≤ 8 * N ∧ 0 ≤ (h : Int) * 2 ^ K + uvE (gB B) N (p + h + 1) K ∧ (h : Int) * 2 ^ K + uvE (gB B) N (p + h + 1) K ≤ 65535 ∧ RcI B n K (L ++ [(h : Int) * 2 ^ K + uvE (gB B) N (p + h + 1) K]) (p + h + 1 + K) f) := fun h h1 h0 f m hv => by
        obtain ⟨e, hk, hj⟩ := HI.out f m hv
        subst e
        have := RcI.tk (HCT.out f m hv).2.2.2 hj (by rw [HL.out]; exact hlt) (by rw [HNN.out]; exact hN) (h := h) (by rw [HNN.out]; exact h1) (by rw [HNN.out]; exact h0)
        rw [HNN.out] at this
        exact ⟨rfl, hk, this⟩
      have HDW : Hid (∀ wq : World, ∀ d, Below w1.heap.size w1 wq → Below w1.heap.size w1 (wq.drewN d)) := fun wq d h => ⟨h.os, h.tape, h.output, h.size, h.block⟩
      have HDO : Hid (∀ wq : World, ∀ d, wq.ownsRow w1.heap.size 2 1 (.slice ad i cp) i (ints L) → (wq.drewN d).ownsRow w1.heap.size 2 1 (.slice ad i cp) i (ints L)) := fun wq d h => owns_same h fun _ _ => rfl
      have HBT : Hid (∀ (j : Nat) (wq : World), j < 8 * N → Below w1.heap.size w1 wq → Calls Try.prog 37 #[.slice (some ⟨bb, off, none⟩) N cap, .int .i64 j] wq fun e w' => e = .returned (.int .i64 (bitU (gB B) j)) ∧ ∃ d, w' = wq.drewN d) := fun j wq hj hb => l13Bit_any (some ⟨bb, off, none⟩) N cap (gB B) j hj hN HG.out wq (HP.out.below hb)
      have HB01 : Hid (∀ j, bitU (gB B) j = 0 ∨ bitU (gB B) j = 1) := fun j => bitU_01 (gB B) j
      have HBE : Hid (∀ j, bitE (gB B) N j = if j < 8 * N then bitU (gB B) j else 0) := fun j => rfl
      have h8N : IntKind.i64.wrap (8 * (N : Int)) = 8 * (N : Int) := by rw [IntKind.wrap_i64]; omega
      have cTW := fun w' => l13Two_any K (by omega) w'
      have hp2 := pow_pos2 K
      have hp3 : (2 : Int) ^ K ≤ 32768 := by
        have h9 : (2 : Nat) ^ K ≤ 32768 := Nat.le_trans (Nat.pow_le_pow_right (by omega) hKK) (by decide)
        have e9 : (2 : Int) ^ K = ((2 ^ K : Nat) : Int) := by simp
        rw [e9]
        generalize 2 ^ K = y at *
        omega
      have HUV := hide fun o => uvE_bd (gB B) N o K
      clear HI HP HG HBY HCD
      go_wp2_with fail
      go_loopw [7, 11] (fun o v wq => ∃ h : Nat, p + h ≤ 8 * N ∧ o = .int .i64 ((p + h : Nat) : Int) ∧ v = .int .i64 h ∧ Hid (∀ k, k < h → bitE (gB B) N (p + k) = 1) ∧ wq.ownsRow w1.heap.size 2 1 (.slice ad i cp) i (ints L) ∧ Below w1.heap.size w1 wq) (fun o _ _ => 8 * N - (intOf o).toNat)
      case atStart => exact ⟨0, by omega, rfl, rfl, hide (fun k hk => by omega), HW.out, HB.out⟩
      case round =>
        obtain ⟨h, hph, rfl, rfl, H1, ho, hb⟩ := hrel
        have HW2 := hide ho
        have HB2 := hide hb
        clear ho hb HW HB
        by_cases hend : p + h < 8 * N
        · have hend' : ((p + h : Nat) : Int) < 8 * (N : Int) := by omega
          have cB := HBT.out (p + h) wr hend HB2.out
          have hbe := HBE.out (p + h)
          rw [if_pos hend] at hbe
          rcases HB01.out (p + h) with hbit | hbit
          · rw [hbit] at cB hbe
            have H2 : Hid _ := HRC.out h H1.out hbe
            by_cases hroom : p + h + 1 + K ≤ 8 * N
            · have hr9 : ¬ 8 * (N : Int) < ((p + h : Nat) : Int) + 1 + (K : Int) := by omega
              clear HRC H1 hbe hbit HBE
              have HB6 : Hid (∀ d, Below w1.heap.size w1 (wr.drewN d)) := fun d => HDW.out wr d HB2.out
              have HO6 : Hid (∀ d, (wr.drewN d).ownsRow w1.heap.size 2 1 (.slice ad i cp) i (ints L)) := fun d => HDO.out wr d HW2.out
              have hh9 : (h : Int) * 2 ^ K ≤ 8388608 * 2 ^ K := Int.mul_le_mul_of_nonneg_right (by omega) (by omega)
              have hh0 : 0 ≤ (h : Int) * 2 ^ K := Int.mul_nonneg (by omega) (by omega)
              have hu := HUV.out (p + h + 1)
              have HUS : Hid (∀ j, uvE (gB B) N (p + h + 1) (j + 1) = uvE (gB B) N (p + h + 1) j + bitE (gB B) N (p + h + 1 + j) * 2 ^ j) := fun j => rfl
              have HUB : Hid (∀ j, 0 ≤ uvE (gB B) N (p + h + 1) j ∧ uvE (gB B) N (p + h + 1) j < 2 ^ j) := fun j => uvE_bd (gB B) N (p + h + 1) j
              have HPW : Hid (∀ j, j < K → (1 : Int) ≤ 2 ^ j ∧ (2 : Int) ^ j ≤ 32768) := fun j hj => by
                have h9 : (2 : Nat) ^ j ≤ 32768 := Nat.le_trans (Nat.pow_le_pow_right (by omega) (show j ≤ 15 by omega)) (by decide)
                have e9 : (2 : Int) ^ j = ((2 ^ j : Nat) : Int) := by simp
                have e8 : 1 ≤ 2 ^ j := Nat.one_le_two_pow
                rw [e9]
                generalize 2 ^ j = y at *
                omega
              have cTJ := fun (j : Nat) (hj : j < K) (w' : World) => l13Two_any j (by omega) w'
              have HTJ := hide cTJ
              have HBI : Hid (∀ j, j < K → bitE (gB B) N (p + h + 1 + j) = bitU (gB B) (p + h + 1 + j)) := fun j hj => by
                show (if _ then _ else _) = _
                rw [if_pos (by omega)]
              clear cTJ HW2 HB2
              generalize hPK : (2 : Int) ^ K = PK at *
              generalize hZ : (h : Int) * PK = Z at *
              have hwz : IntKind.i64.wrap Z = Z := by rw [IntKind.wrap_i64]; omega
              have HCB := hide cB
              clear cB HUV
              have cB := HCB.out
              clear HCB
              go_wp2_with fail
              refine cB.mono ?_
              rintro e w5 ⟨rfl, d, rfl⟩
              have HB5 := hide (HB6.out d)
              have HO5 := hide (HO6.out d)
              clear cB HB6 HO6
              generalize World.drewN wr d = w5 at *
              go_wp2_with fail
              refine (cTW _).mono ?_
              rintro e w6 ⟨rfl, rfl⟩
              clear cTW
              go_wp2_with fail
              go_loopw [11, 13] (fun v ii wq => ∃ (j : Nat) (S : Int), j ≤ K ∧ ii = .int .i64 j ∧ v = .int .i64 (Z + S) ∧ Hid (S = uvE (gB B) N (p + h + 1) j) ∧ wq.ownsRow w1.heap.size 2 1 (.slice ad i cp) i (ints L) ∧ Below w1.heap.size w1 wq) (fun _ ii _ => K - (intOf ii).toNat)
              case atStart => exact ⟨0, 0, by omega, rfl, by simp, hide rfl, HO5.out, HB5.out⟩
              case round =>
                obtain ⟨j, S, hj, rfl, rfl, HS, ho, hb⟩ := hrel
                have HW2 := hide ho
                have HB2 := hide hb
                clear ho hb HO5 HB5
                by_cases hjk : j < K
                · have hjk' : (j : Int) < K := by omega
                  have c1 := HTJ.out j hjk
                  have c2 := HBT.out (p + h + 1 + j) wr (by omega) HB2.out
                  have HB6 : Hid (∀ d, Below w1.heap.size w1 (wr.drewN d)) := fun d => HDW.out wr d HB2.out
                  have HO6 : Hid (∀ d, (wr.drewN d).ownsRow w1.heap.size 2 1 (.slice ad i cp) i (ints L)) := fun d => HDO.out wr d HW2.out
                  have hb01 := HB01.out (p + h + 1 + j)
                  have hub := HUB.out j
                  rw [← HS.out] at hub
                  have hpw := HPW.out j hjk
                  have HS2 : Hid (S + 2 ^ j * bitU (gB B) (p + h + 1 + j) = uvE (gB B) N (p + h + 1) (j + 1)) := by
                    show _ = _
                    rw [HUS.out, ← HS.out, HBI.out j hjk, Int.mul_comm]
                  rw [show ((p + h + 1 + j : Nat) : Int) = (p : Int) + h + 1 + j by omega] at c2
                  generalize bitU (gB B) (p + h + 1 + j) = BT at *
                  generalize (2 : Int) ^ j = PJ at *
                  have hm0 : 0 ≤ PJ * BT := by rcases hb01 with e | e <;> rw [e] <;> omega
                  have hm1 : PJ * BT ≤ 32768 := by rcases hb01 with e | e <;> rw [e] <;> omega
                  have hmw : IntKind.i64.wrap (PJ * BT) = PJ * BT := by rw [IntKind.wrap_i64]; omega
                  generalize hX : PJ * BT = X at *
                  have haw : IntKind.i64.wrap (Z + S + X) = Z + (S + X) := by rw [IntKind.wrap_i64]; omega
                  have hae : Z + S + X = Z + (S + X) := by omega
                  clear HS HUS HUB HPW HBI HTJ HBT HB01 hb01 HW2 HB2 H2
                  go_wp2_with fail
                  refine (c1 _).mono ?_
                  rintro e w7 ⟨rfl, rfl⟩
                  clear c1
                  go_wp2_with fail
                  refine c2.mono ?_
                  rintro e w8 ⟨rfl, d, rfl⟩
                  have HB7 := hide (HB6.out d)
                  have HO7 := hide (HO6.out d)
                  clear c2 HB6 HO6
                  generalize World.drewN w7 d = w8 at *
                  go_wp2_with fail
                  go_roundw
                  case rel => exact ⟨j + 1, S + X, hjk, by go_num, by first | rfl | (congr 1; omega) | (congr 1; show IntKind.i64.wrap (Z + S + IntKind.i64.wrap (PJ * BT)) = _; rw [hX, hmw, haw]) | (congr 1; show IntKind.i64.wrap (Z + S + IntKind.i64.wrap X) = _; rw [hmw, haw]), HS2, HO7.out, HB7.out⟩
                  case measure => simp [intOf]; omega
                · obtain rfl : K = j := by omega
                  have hjk' : ¬ (K : Int) < K := by omega
                  have hub := HUB.out K
                  rw [← HS.out] at hub
                  rw [hPK] at hub
                  have HJ : Hid (∀ f m, Vld 2 f m B → m = n ∧ K = bst f n ∧ 0 ≤ Z + S ∧ Z + S ≤ 65535 ∧ RcI B n K (L ++ [Z + S]) (p + h + 1 + K) f) := fun f m hv => by
                    obtain ⟨h1, h2, _, h4, h5, h6⟩ := H2.out f m hv
                    rw [← HS.out] at h4 h5 h6
                    exact ⟨h1, h2, h4, h5, h6⟩
                  have hx0 : 0 ≤ Z + S := by omega
                  have hx1 : Z + S ≤ 1000000000000 := by omega
                  have cI := fun w' => l1In_any (Z + S) 0 65535 w'
                  clear HS HUS HUB HPW HBI HTJ HBT HB01 H2 hub hu
                  generalize hVV : Z + S = V at *
                  clear hVV
                  have HB := HB2
                  have HW := HW2
                  clear HB2 HW2
                  go_wp2_with fail
                  refine (cI _).mono ?_
                  rintro e w7 ⟨rfl, rfl⟩
                  clear cI
                  by_cases hin : 0 ≤ V ∧ V ≤ 65535
                  · rw [inB_t hin.1 hin.2]
                    have HI2 : Hid (∀ f m, Vld 2 f m B → m = n ∧ K = bst f n ∧ RcI B n K (L ++ [V]) (p + h + 1 + K) f) := fun f m hv => ⟨(HJ.out f m hv).1, (HJ.out f m hv).2.1, (HJ.out f m hv).2.2.2.2⟩
                    clear HJ hin
                    go_wp2_with fail
                    go_loopw [8, 12] (fun u t wq => ∃ (j : Nat) (M : List Int) (ad' : Option Addr) (cp' : Nat), j ≤ 1 ∧ t = .int .i64 ((1 : Int) - (j : Int)) ∧ u = .slice ad' (i + j) cp' ∧ Hid (M.length = i + j) ∧ Hid (M = L ++ List.replicate j V) ∧ wq.ownsRow w1.heap.size 2 1 (.slice ad' (i + j) cp') (i + j) (ints M) ∧ Below w1.heap.size w1 wq) (fun _ t _ => (intOf t).toNat)
                    case atStart => exact ⟨0, L, ad, cp, by omega, by simp, rfl, HL, hide (by simp), HW.out, HB.out⟩
                    case round =>
                      obtain ⟨j, M, ad', cp', hj, rfl, rfl, HML, HM, ho, hb⟩ := hrel
                      have HW2 := hide ho
                      have HB2 := hide hb
                      clear ho hb HW HB
                      by_cases hjt : j < 1
                      · have q9 : (0 : Int) < (1 : Int) - (j : Int) := by omega
                        have HS : Hid (w1.heap.size ≤ wr.heap.size) := HB2.out.size
                        have HM2 : Hid (M ++ [V] = L ++ List.replicate (j + 1) V) := by show _ = _; rw [HM.out, List.replicate_succ', List.append_assoc]
                        have HML2 : Hid ((M ++ [V]).length = i + (j + 1)) := by show _ = _; rw [List.length_append, HML.out]; rfl
                        clear HM HML HNN HNO HCT HDW HDO
                        generalize hik : i + j = ik at *
                        have hik2 : i + (j + 1) = ik + 1 := by omega
                        generalize hvv : Value.slice ad' ik cp' = vv at *
                        go_wp2_with (refine growL _ rfl _ _ rfl w1.heap.size vv ik M rfl w1 HW2.out HB2.out HS.out V rfl (by omega) ?_)
                        intro v' w' ho' hb' _
                        obtain ⟨a2, c2, rfl⟩ := own_form1 ho'
                        have HW3 := hide ho'
                        have HB3 := hide hb'
                        clear ho' hb' HW2 HB2 HS hvv
                        generalize M ++ [V] = M' at *
                        go_wp2_with fail
                        go_roundw
                        case rel => exact ⟨j + 1, M', a2, c2, by omega, by go_num, by rw [hik2], HML2, HM2, by rw [hik2]; exact HW3.out, HB3.out⟩
                        case measure => simp [intOf]; omega
                      · obtain rfl : j = 1 := by omega
                        have q9 : ¬ (0 : Int) < (1 : Int) - ((1 : Nat) : Int) := by omega
                        have HIJ : Hid (∀ f m, Vld 2 f m B → m = n ∧ K = bst f n ∧ RcI B n K M (p + h + 1 + K) f) := by rw [HM.out]; exact HI2
                        clear HNN HNO HCT HDW HDO
                        go_wp2_with fail
                        go_roundw
                        case rel => exact ⟨p + h + 1 + K, i + 1, M, ad', cp', by go_num, rfl, rfl, by omega, by omega, HML, HW2.out, HB2.out, HIJ⟩
                        case measure => simp [lnOf]; omega
                  · rw [inB_f hin]
                    have HR := hide (HNO.out (fun T hv => by have := HJ.out _ _ hv; exact hin ⟨this.2.2.1, this.2.2.2.1⟩) (w7.alloc (.cells #[] 2)) (some ⟨w7.heap.size, 0, none⟩) 0 (HB.out.alloc HB.out.size _))
                    clear HNO HNN HJ HW HB HCT HDW HDO
                    go_wp2_with fail
                    go_ret2
                    exact HR.out
            · have hr9 : 8 * (N : Int) < ((p + h : Nat) : Int) + 1 + (K : Int) := by omega
              have HBX : Hid (∀ d, Below w1.heap.size w1 (wr.drewN d)) := fun d => HDW.out wr d HB2.out
              clear HRC H1 hbe hbit HBE HBT HDO HW2
              go_wp2_with fail
              refine cB.mono ?_
              rintro e w5 ⟨rfl, d, rfl⟩
              have HB5 := hide (HBX.out d)
              generalize World.drewN wr d = w5 at *
              have HR := hide (HNO.out (fun T hv => by have := (H2.out _ _ hv).2.2.1; omega) (w5.alloc (.cells #[] 2)) (some ⟨w5.heap.size, 0, none⟩) 0 (HB5.out.alloc HB5.out.size _))
              clear cB HNO HNN H2 HB2 HCT HB5 HBX
              go_wp2_with fail
              go_ret2
              exact HR.out
          · rw [hbit] at cB hbe
            have H2 : Hid (∀ k, k < h + 1 → bitE (gB B) N (p + k) = 1) := fun k hk => by
              by_cases e : k < h
              · exact H1.out k e
              · obtain rfl : k = h := by omega
                exact hbe
            have HBX : Hid (∀ d, Below w1.heap.size w1 (wr.drewN d)) := fun d => HDW.out wr d HB2.out
            have HOX : Hid (∀ d, (wr.drewN d).ownsRow w1.heap.size 2 1 (.slice ad i cp) i (ints L)) := fun d => HDO.out wr d HW2.out
            clear H1 hbe hbit HBE HBT HDO HDW HW2 HB2
            go_wp2_with fail
            refine cB.mono ?_
            rintro e w5 ⟨rfl, d, rfl⟩
            have HB5 := hide (HBX.out d)
            have HO5 := hide (HOX.out d)
            clear cB HBX HOX
            generalize World.drewN wr d = w5 at *
            go_wp2_with fail
            go_roundw
            case rel => exact ⟨h + 1, by omega, by go_num, by go_num, H2, HO5.out, HB5.out⟩
            case measure => simp [intOf]; omega
        · have hend' : ¬ ((p + h : Nat) : Int) < 8 * (N : Int) := by omega
          have hbe := HBE.out (p + h)
          rw [if_neg hend] at hbe
          have H2 : Hid _ := HRC.out h H1.out hbe
          have hr9 : 8 * (N : Int) < ((p + h : Nat) : Int) + 1 + (K : Int) := by omega
          have HR := hide (HNO.out (fun T hv => by have := (H2.out _ _ hv).2.2.1; omega) (wr.alloc (.cells #[] 2)) (some ⟨wr.heap.size, 0, none⟩) 0 (HB2.out.alloc HB2.out.size _))
          clear HRC H1 hbe HBE HBT HDO HDW HW2 HB2 H2 HNO HNN HCT
          go_wp2_with fail
          go_ret2
          exact HR.out
    · have hin : i = n := by omega
      have hlt' : ¬ (i : Int) < n := by omega
      have HV : Hid (∀ f m, Vld 2 f m B → L = fl f m) := fun f m hv => by
        obtain ⟨e, hj⟩ := HI.out f m hv
        rw [e]
        rw [hj.2.2.2.1, HL.out, hin]
      obtain ⟨a3, c3, b3, h3, ho3, hb3⟩ := ow_fl (f := gL L) (n := i) (by rw [← HL.out, fl_gL, HL.out]; exact HW.out)
      cases h3
      have HO3 := hide ho3
      have HB3 := hide hb3
      have cK := specCompress_any s ad i cp (gL L) (by omega) wr ho3.px
      rw [HCD.out] at cK
      have HNV : Hid (¬ Vld 2 (gL L) i B → ∀ T, ¬ Vld 2 (gL T) T.length B) := fun h T hT => by
        have := HV.out _ _ hT
        rw [fl_gL] at this
        rw [← HL.out, this] at h
        exact h hT
      have HVD : Hid (Vld 2 (gL L) i B ↔ cmOk 2 (gL L) i = true ∧ cmL 2 (gL L) i = B) := Iff.rfl
      have hby := cmL_by 2 (gL L) i
      have HBM := hide hby
      unfold CmR at cK
      clear hby HI HW ho3 hb3 hin
      generalize cmL 2 (gL L) i = M at *
      generalize hok : cmOk 2 (gL L) i = ok at *
      have HOK := hide hok
      clear hok
      go_wp2_with fail
      refine cK.mono ?_
      rintro e w4 ⟨a4, c4, b4, rfl, ho4, -, hb4⟩
      have HB4 := hide (bnext HB.out (Nat.le_refl _) hb4)
      have HO4 := hide (HO3.out.below' hb4)
      have q1 := conv_px a4 M.length c4 (fun k => M.getD k 0) w4 ho4.pxU
      have q2 := conv_px (some ⟨bb, off, none⟩) N cap (gB B) w4 (HP.out.below HB4.out)
      rw [show fl (fun k => M.getD k 0) M.length = M from fl_gL M] at q1
      rw [show fl (gB B) N = B from by rw [← HNN.out]; exact fl_gL B] at q2
      have q3 := strOfNums_eq M B HBM.out HBY.out
      clear cK ho4 hb4 HO3 HB HG HP HBM HBY HNN HCD HCT
      cases ok with
      | false =>
        have HR := hide (HNO.out (HNV.out (fun h => by have := (HVD.out.1 h).1; cases this)) (w4.alloc (.cells #[] 2)) (some ⟨w4.heap.size, 0, none⟩) 0 (HB4.out.alloc HB4.out.size _))
        clear HNV HVD HOK HO4 HB4 HB3 HV HNO q1 q2 q3 HL
        go_wp2_with fail
        go_ret2
        exact HR.out
      | true =>
        by_cases hM : M = B
        · rw [decide_eq_true hM] at q3
          have q4 : ((strOfNums M).toList != (strOfNums B).toList) = false := by unfold bne; rw [q3]; rfl
          have hx := ex_is (T := L) (by rw [HL.out]; exact HVD.out.2 ⟨rfl, hM⟩) HV.out
          have HR : Hid (LsF (exT 2 B).length (gL (exT 2 B)) (exO 2 B) w1 (.returned (.tuple #[.slice ad i cp, .bool true])) w4) := by
            show LsF _ _ _ _ _ _
            rw [hx.1, hx.2, HL.out]
            exact ⟨ad, cp, b3, rfl, HO4.out, HB3.out, HB4.out⟩
          generalize strOfNums M = S1 at *
          generalize strOfNums B = S2 at *
          clear HNV HVD HOK HO4 HB4 HB3 HV hx hM HNO HL
          go_wp2_with fail
          go_ret2
          exact HR.out
        · rw [decide_eq_false hM] at q3
          have q4 : ((strOfNums M).toList != (strOfNums B).toList) = true := by unfold bne; rw [q3]; rfl
          have HR := hide (HNO.out (HNV.out (fun h => hM (HVD.out.1 h).2)) (w4.alloc (.cells #[] 2)) (some ⟨w4.heap.size, 0, none⟩) 0 (HB4.out.alloc HB4.out.size _))
          generalize strOfNums M = S1 at *
          generalize strOfNums B = S2 at *
          clear HNV HVD HOK HO4 HB4 HB3 HV hM HNO HL
          go_wp2_with fail
          go_ret2
          exact HR.out

end Go.Proofs.Ytebcclmilplfcaa
