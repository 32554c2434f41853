/- Leaves give their row: the law, walked. -/
import Derived.Test.YtfpeobkncileiaaLgc
import Derived.Test.YtfpeobkncileiaaLgu
import Derived.Test.YtfpeobkncileiaaLvx
import Derived.Test.YtfpeobkncileiaaLvs
import Derived.Test.YtfpeobkncileiaaRwb
namespace Go.Proofs.Ytfpeobkncileiaa
open Go.RowKit

theorem own_nextR {w w' : World} {B n m : Nat} {e : TypeId} {v : Value} {xs : List Value} (h : w.ownsRow B e m v n xs) (hb : Below w.heap.size w w') : w'.ownsRow B e m v n xs := by
  have hl := h.lt
  obtain ⟨h1, h2⟩ := h
  refine ⟨h1, ?_⟩
  rcases h2 with h2 | ⟨g, cap, cur, hv, hB, hg, hr⟩
  · exact .inl h2
  · exact .inr ⟨g, cap, cur, hv, hB, (hb.block g (hl g (by rw [hv]; rfl)).2).trans hg, hr⟩

set_option maxRecDepth 100000 in
set_option maxHeartbeats 8000000 in
theorem fnLeavesGive_walk (c0 : Option Addr) (n0 k0 : Nat) (w : World) (hy0 : Bytes c0 n0 w) :
    Calls Try.prog 3 #[.slice c0 n0 k0] w fun e w' => e = .returned (.bool true) ∧ Below w.heap.size w w' := by
  have b0 := big_any c0 n0 k0
  have HY0 := hide hy0
  clear hy0
  go_enter Try.func3, Try.ntmps3
  go_wp2_with fail
  refine (b0 _).mono ?_
  rintro e w0 ⟨rfl, h1⟩
  obtain rfl := h1.symm
  by_cases g0 : 1048576 < n0
  · have d0 : decide (1048576 < n0) = true := by simp [g0]
    clear b0
    go_wp2_with fail
    go_ret
    exact ⟨rfl, Below.refl _ _⟩
  have d0 : decide (1048576 < n0) = false := by simp [g0]
  clear b0
  have cA := drawLeaves_any c0 n0 k0 w HY0.out
  go_wp2_with fail
  refine cA.mono ?_
  rintro e w1 ⟨v, n, L, rfl, hn, ho, hb⟩
  obtain ⟨av, cv, rfl⟩ := own_isR ho
  have HO1 := hide ho
  have HB1 := hide hb
  have HP1 := hide (own_pxR ho)
  clear cA ho hb d0 g0
  obtain ⟨bl, hbl⟩ : ∃ bl, bl = decide (n ≤ 64) := ⟨_, rfl⟩
  have qle : decide ((n : Int) ≤ 64) = bl := by
    rw [hbl]
    by_cases h : n ≤ 64
    · rw [decide_eq_true h, decide_eq_true (by omega)]
    · rw [decide_eq_false h, decide_eq_false (by omega)]
  have HBL := hide hbl
  clear hbl
  obtain ⟨f, hf⟩ : ∃ f : Nat → Int, f = (fun k => L.getD k 0) := ⟨_, rfl⟩
  rw [← hf] at HP1
  have HF := hide hf
  clear hf
  go_wp2_with fail
  clear qle
  go_loopw [5, 6, 7, 8] (fun fi up la i wr => ∃ (k : Nat) (y : Int), k ≤ n ∧ i = .int .i64 k ∧ la = .int .i64 (pre1 f k) ∧ fi = .bool (bl && alW f 0 1000 k) ∧ up = .int .i64 y ∧ (alW f 0 1000 k = true → y = upS f k) ∧ w1 = wr) (fun _ _ _ i _ => n - (intOf i).toNat)
  case atStart => exact ⟨0, 0, by omega, rfl, rfl, by simp [alW], rfl, fun _ => rfl, rfl⟩
  case round =>
    obtain ⟨k, y, hk, rfl, rfl, rfl, rfl, hy, rfl⟩ := hrel
    have HYU := hide hy
    clear hy
    by_cases hlt : k < n
    · obtain ⟨b, off, rfl, hz⟩ := HP1.out.at hlt
      have hki : (k : Int) < (n : Int) := by omega
      obtain ⟨X, hX⟩ : ∃ X, X = f k := ⟨_, rfl⟩
      obtain ⟨P, hP⟩ : ∃ P, P = pre1 f k := ⟨_, rfl⟩
      have HA1 : Hid (alW f 0 1000 (k + 1) = (alW f 0 1000 k && inB X 0 1000)) := by rw [hX]; rfl
      have HU1 : Hid (upS f (k + 1) = upS f k + (if P < X then X - P else 0)) := by rw [hX, hP]; exact upS_step f k
      have HP2 : Hid (pre1 f (k + 1) = X) := by show _ = _; rw [hX]; unfold pre1; rw [if_neg (by omega)]; rfl
      have HBD : Hid (alW f 0 1000 k = true → (0 ≤ upS f k ∧ upS f k ≤ 1000 * k) ∧ (0 ≤ P ∧ P ≤ 1000)) := fun h => by
        have hb : ∀ j, j < k → 0 ≤ f j ∧ f j ≤ 1000 := fun j hj => inB_iff.1 (alW_at h hj)
        refine ⟨upS_bd (by omega) k hb, ?_⟩
        rw [hP]
        unfold pre1
        by_cases h0 : k = 0
        · rw [if_pos h0]; omega
        · rw [if_neg h0]; exact hb (k - 1) (by omega)
      rw [← hX] at hz
      rw [← hP]
      obtain ⟨fb, hfb⟩ : ∃ fb, fb = (bl && alW f 0 1000 k) := ⟨_, rfl⟩
      rw [← hfb]
      have HFB := hide hfb
      clear hX hP hfb
      go_upto_region 11 with fail
      go_cut [5] (fun s wc => s = .bool (bl && alW f 0 1000 (k + 1)) ∧ w1 = wc)
      case first =>
        cases fb
        · have HR : Hid ((bl && alW f 0 1000 (k + 1)) = false) := by
            have := HFB.out
            show _ = _
            rw [HA1.out, ← Bool.and_assoc, ← this]
            rfl
          go_wp2_with fail
          go_meet
          exact ⟨by rw [HR.out], rfl⟩
        · have HR : Hid ((bl && alW f 0 1000 (k + 1)) = inB X 0 1000) := by
            have := HFB.out
            show _ = _
            rw [HA1.out, ← Bool.and_assoc, ← this]
            rfl
          by_cases h1 : 0 ≤ X
          · by_cases h2 : X ≤ 1000
            · have HI : Hid (inB X 0 1000 = true) := inB_iff.2 ⟨h1, h2⟩
              go_wp2_with fail
              go_meet
              exact ⟨by rw [HR.out, HI.out], rfl⟩
            · have HI : Hid (inB X 0 1000 = false) := by show _ = _; rw [Bool.eq_false_iff]; intro h; have := inB_iff.1 h; omega
              go_wp2_with fail
              go_meet
              exact ⟨by rw [HR.out, HI.out], rfl⟩
          · have HI : Hid (inB X 0 1000 = false) := by show _ = _; rw [Bool.eq_false_iff]; intro h; have := inB_iff.1 h; omega
            go_wp2_with fail
            go_meet
            exact ⟨by rw [HR.out, HI.out], rfl⟩
      case rest =>
        obtain ⟨rfl, hwc⟩ := hcut
        subst hwc
        have HX2 : Hid (alW f 0 1000 (k + 1) = true → alW f 0 1000 k = true ∧ 0 ≤ X ∧ X ≤ 1000) := fun h => by
          rw [HA1.out, Bool.and_eq_true] at h
          exact ⟨h.1, inB_iff.1 h.2⟩
        obtain ⟨fb', hfb'⟩ : ∃ fb', fb' = (bl && alW f 0 1000 (k + 1)) := ⟨_, rfl⟩
        rw [← hfb']
        have HFB' := hide hfb'
        clear hfb' HFB HA1
        by_cases hgt : P < X
        · obtain ⟨z1, hz1⟩ : ∃ z1, IntKind.i64.wrap (y + X) = z1 := ⟨_, rfl⟩
          obtain ⟨z2, hz2⟩ : ∃ z2, IntKind.i64.wrap (z1 - P) = z2 := ⟨_, rfl⟩
          have HZ : Hid (alW f 0 1000 (k + 1) = true → z2 = upS f (k + 1)) := fun h => by
            obtain ⟨ha, hx0, hx1⟩ := HX2.out h
            have hy := HYU.out ha
            obtain ⟨hu, hp⟩ := HBD.out ha
            have hU := HU1.out
            rw [if_pos hgt] at hU
            rw [hU, ← hz2, ← hz1]
            have e1 : IntKind.i64.wrap (y + X) = y + X := by rw [IntKind.wrap_i64]; omega
            rw [e1]
            have e2 : IntKind.i64.wrap (y + X - P) = y + X - P := by rw [IntKind.wrap_i64]; omega
            rw [e2]
            omega
          clear HYU HBD HX2 HU1
          go_wp2_with fail
          exact ⟨⟨k + 1, z2, by omega, by simp, by rw [HP2.out], by rw [HFB'.out], rfl, HZ.out, by first | rfl | trivial⟩, by simp [intOf] <;> omega⟩
        · have HZ : Hid (alW f 0 1000 (k + 1) = true → y = upS f (k + 1)) := fun h => by
            obtain ⟨ha, -, -⟩ := HX2.out h
            have hU := HU1.out
            rw [if_neg hgt] at hU
            rw [hU, HYU.out ha]
            omega
          clear HYU HBD HX2 HU1
          go_wp2_with fail
          exact ⟨⟨k + 1, y, by omega, by simp, by rw [HP2.out], by rw [HFB'.out], rfl, HZ.out, by first | rfl | trivial⟩, by simp [intOf] <;> omega⟩
    · obtain rfl : k = n := by omega
      obtain ⟨rl, hrl⟩ : ∃ rl, rl = (bl && alW f 0 1000 k) := ⟨_, rfl⟩
      rw [← hrl]
      have HRL : Hid (rl = rlB k f) := by show _ = _; rw [hrl, HBL.out]; rfl
      have HAL : Hid (rl = true → y = upS f k) := fun h => by
        rw [hrl, Bool.and_eq_true] at h
        exact HYU.out h.2
      clear hrl HBL HYU
      go_upto_if 61 with fail
      go_cut [] (fun wc => Below w.heap.size w wc)
      case first =>
        cases rl
        · go_wp2_with fail
          go_meet
          exact HB1.out
        · have hrr : rlB k f = true := HRL.out.symm
          obtain ⟨hv, hg, hu⟩ := leaves_give hrr
          have hyy := HAL.out rfl
          have hlvN : lvN k f = lvC k f := by unfold lvN; rw [if_pos hrr]
          have hms := lvN_small k f
          rw [hlvN] at hms
          have cL := fun a' c' w' h => implLeaves_any a' k c' f (by omega) w' h
          rw [hlvN] at cL
          have hgN : gvN (k : Int) (lvC k f) (fun j => (lvF k f).getD j 0) = k := by unfold gvN; rw [if_pos hv]; omega
          have cG := fun a' c' w' h => implGiven_any a' (lvC k f) c' (fun j => (lvF k f).getD j 0) (by omega) (k : Int) w' h
          rw [hgN] at cG
          have hlu : luV (lvC k f) (fun j => (lvF k f).getD j 0) = y := by unfold luV; rw [if_pos (lvB_64 hv), hu, hyy]
          have cU := fun a' c' w' h => implLeafUnits_any a' (lvC k f) c' (fun j => (lvF k f).getD j 0) (by omega) w' h
          rw [hlu] at cU
          have HEQ := hide (eqF_true hg)
          clear HRL HAL hrr hv hg hu hyy hlvN hgN hlu
          generalize (fun j => (lvF k f).getD j 0) = G at *
          generalize lvC k f = m at *
          have HE : Hid ((w1.alloc (.cells #[] 2)).ownsRow w1.heap.size 2 1 (.slice (some ⟨w1.heap.size, 0, none⟩) 0 0) 0 (ints [])) := World.ownsRow_lit w1 #[] 0 (Nat.le_refl _) (by unfold maxLen; omega) rfl
          have HBE : Hid (Below w1.heap.size w1 (w1.alloc (.cells #[] 2))) := bnew _ _
          have HSE : Hid (w1.heap.size ≤ (w1.alloc (.cells #[] 2)).heap.size) := HBE.out.size
          have HOE := hide (HO1.out.alloc (.cells #[] 2))
          go_wp2_with (at_builtin; refine catI _ rfl _ _ rfl w1.heap.size (.slice (some ⟨w1.heap.size, 0, none⟩) 0 0) 0 [] rfl w1 HE.out HBE.out HSE.out (.slice av k cv) w.heap.size k L rfl HOE.out (by omega) ?_)
          intro v' w2 ho2 hb2
          obtain ⟨a2, c2, rfl⟩ := own_isR ho2
          have hp2 := own_pxR ho2
          rw [← HF.out] at hp2
          have c := cL a2 c2 w2 hp2
          have HB2 := hide (HB1.out.trans (hb2.mono HB1.out.size))
          have HP2 := hide (HP1.out.below hb2)
          clear HE HBE HSE HOE ho2 hb2 hp2 cL
          go_wp2_with fail
          refine c.mono ?_
          rintro e w3 ⟨al, cl, bb, rfl, hol, -, hb3⟩
          have HL3 := hide hol.px
          have HB3 := hide (HB2.out.trans (hb3.mono HB2.out.size))
          have HP3 := hide (HP2.out.below hb3)
          clear c hol hb3 HB2 HP2
          have c := cG al cl w3 HL3.out
          go_wp2_with fail
          refine c.mono ?_
          rintro e w4 ⟨ag, cg, bg, rfl, hog, -, hb4⟩
          have HG4 := hide hog.px
          have HB4 := hide (HB3.out.trans (hb4.mono HB3.out.size))
          have HP4 := hide (HP3.out.below hb4)
          have HL4 := hide (HL3.out.below hb4)
          clear c hog hb4 HB3 HP3 HL3 cG
          have c := sameIntsB_any ag av k cg cv (fun q => gvS G q m) f (by omega) w4 HG4.out HP4.out
          rw [HEQ.out] at c
          go_wp2_with fail
          refine c.mono ?_
          rintro e w5 ⟨rfl, d, rfl⟩
          have hb5 : Below w4.heap.size w4 (w4.drewN d) := below_drewN (Below.refl _ _) d
          have HB5 := hide (HB4.out.trans (hb5.mono HB4.out.size))
          have c9 := cU al cl (w4.drewN d) (HL4.out.below hb5)
          clear c hb5 HB4 HP4 HL4 HG4 cU
          have hq : (y != y) = false := by simp
          go_wp2_with fail
          refine c9.mono ?_
          rintro e w6 ⟨rfl, hb6⟩
          have HB6 := hide (HB5.out.trans (hb6.mono HB5.out.size))
          clear c9 hb6 HB5
          go_wp2_with fail
          go_meet
          exact HB6.out
      case rest =>
        have HB6 := hide hcut
        obtain ⟨w6, hw6⟩ : ∃ w6, w6 = wc := ⟨_, rfl⟩
        rw [← hw6] at HB6
        rw [← hw6]
        clear hw6 hcut HB1 HO1 HP1 HF HRL HAL
        have cA := drawGiven_any c0 n0 k0 w6 (HY0.out.below HB6.out)
        go_wp2_with fail
        refine cA.mono ?_
        rintro e w7 ⟨v, m, F, z, rfl, hm, hz, ho, hb⟩
        obtain ⟨al, cl, rfl⟩ := own_isR ho
        have HO7 := hide ho
        have HP7 := hide (own_pxF ho)
        have HB7 := hide (HB6.out.trans (hb.mono HB6.out.size))
        clear cA ho hb HB6 HY0
        obtain ⟨f', hf'⟩ : ∃ f' : Nat → Int, f' = (fun k => F.getD k 0) := ⟨_, rfl⟩
        rw [← hf'] at HP7
        have HF' := hide hf'
        clear hf'
        have c := specGiven_any al m cl f' (by omega) z w7 HP7.out
        have cG := fun a' c' w' h => implGiven_any a' m c' f' (by omega) z w' h
        have HGV : Hid (gvN z m f' ≠ 0 → lvB z m f' = true ∧ gvN z m f' ≤ 64) := fun h => by
          unfold gvN at h ⊢
          by_cases hl : lvB z m f' = true
          · rw [if_pos hl]
            exact ⟨hl, by have := lvB_parts hl; omega⟩
          · rw [if_neg hl] at h
            exact absurd rfl h
        generalize gvN z m f' = q at *
        go_wp2_with fail
        refine c.mono ?_
        rintro e w8 ⟨ag, cg, bg, rfl, hog, -, hb8⟩
        have HG8 := hide hog.px
        have HB8 := hide (HB7.out.trans (hb8.mono HB7.out.size))
        have HO8 := hide (own_nextR HO7.out hb8)
        have HP8 := hide (HP7.out.below hb8)
        clear c hog hb8 HB7 HO7 HP7
        by_cases h0 : q = 0
        · have hq0 : ((q : Int) == 0) = true := by simp [h0]
          clear h0
          go_wp2_with fail
          go_ret
          exact ⟨rfl, HB8.out⟩
        · have hq0 : ((q : Int) == 0) = false := by simp [h0]
          obtain ⟨hlv, hq64⟩ := HGV.out h0
          obtain ⟨-, -, hm64, hlf⟩ := lvB_parts hlv
          have hgb : ∀ j, j < q → 0 ≤ gvS f' j m ∧ gvS f' j m ≤ 64000000 := fun j _ => by
            have := gvS_bd (n := z) (f := f') j m hlf
            omega
          have hun := up_units (n := z) (f := f') m hlf q
          have hub := fun j hj => upS_bd (f := fun q => gvS f' q m) (B := 64000000) (by omega) j (fun i hi => hgb i (Nat.lt_of_lt_of_le hi hj))
          have hlu : luV m f' = uS f' m := by unfold luV; rw [if_pos (lvB_64 hlv)]
          have cU := fun a' c' w' h => implLeafUnits_any a' m c' f' (by omega) w' h
          rw [hlu] at cU
          have HUB := hide hub
          have HGB := hide hgb
          have HUN := hide hun
          clear HGV hlv hm64 hlf hgb hun hub hlu h0
          have HE : Hid ((w8.alloc (.cells #[] 42)).ownsRow w8.heap.size 42 3 (.slice (some ⟨w8.heap.size, 0, none⟩) 0 0) 0 (ints [])) := World.ownsRow_lit w8 #[] 0 (Nat.le_refl _) (by unfold maxLen; omega) rfl
          have HBE : Hid (Below w8.heap.size w8 (w8.alloc (.cells #[] 42))) := bnew _ _
          have HSE : Hid (w8.heap.size ≤ (w8.alloc (.cells #[] 42)).heap.size) := HBE.out.size
          have HOE := hide (HO8.out.alloc (.cells #[] 42))
          go_wp2_with (at_builtin; refine catF _ rfl _ _ rfl w8.heap.size (.slice (some ⟨w8.heap.size, 0, none⟩) 0 0) 0 [] rfl w8 HE.out HBE.out HSE.out (.slice al m cl) w6.heap.size m F rfl HOE.out (by omega) ?_)
          intro v' w9 ho9 hb9
          obtain ⟨a9, c9, rfl⟩ := own_isR ho9
          have hp9 := own_pxF ho9
          rw [← HF'.out] at hp9
          have c := cG a9 c9 w9 hp9
          have HB9 := hide (HB8.out.trans (hb9.mono HB8.out.size))
          have HG9 := hide (HG8.out.below hb9)
          have HP9 := hide (HP8.out.below hb9)
          clear HE HBE HSE HOE ho9 hb9 hp9 cG HO8 HB8 HG8 HP8
          go_wp2_with fail
          refine c.mono ?_
          rintro e w10 ⟨ah, ch, bh, rfl, hoh, -, hb10⟩
          have HH10 := hide hoh.px
          have HB10 := hide (HB9.out.trans (hb10.mono HB9.out.size))
          have HG10 := hide (HG9.out.below hb10)
          have HP10 := hide (HP9.out.below hb10)
          clear c hoh hb10 HB9 HG9 HP9
          have c := sameIntsB_any ah ag q ch cg (fun j => gvS f' j m) (fun j => gvS f' j m) (by omega) w10 HH10.out HG10.out
          rw [eqF_true (fun _ _ => rfl)] at c
          go_wp2_with fail
          refine c.mono ?_
          rintro e w11' ⟨rfl, d, rfl⟩
          have hb11 : Below w10.heap.size w10 (w10.drewN d) := below_drewN (Below.refl _ _) d
          have HB11 := hide (HB10.out.trans (hb11.mono HB10.out.size))
          have HG11 := hide (HG10.out.below hb11)
          have HP11 := hide (HP10.out.below hb11)
          obtain ⟨w11, hw11⟩ : ∃ w11, w11 = w10.drewN d := ⟨_, rfl⟩
          rw [← hw11] at HB11 HG11 HP11
          rw [← hw11]
          clear c hb11 HB10 HG10 HP10 HH10 hw11
          obtain ⟨g, hg⟩ : ∃ g : Nat → Int, (fun j => gvS f' j m) = g := ⟨_, rfl⟩
          have HGB' : Hid (∀ j, j < q → 0 ≤ g j ∧ g j ≤ 64000000) := fun j hj => by rw [← hg]; exact HGB.out j hj
          rw [hg] at HG11 HUB HUN
          clear HGB hg
          go_wp2_with fail
          go_loopw [6, 7, 13] (fun up la i wr => ∃ k : Nat, k ≤ q ∧ i = .int .i64 k ∧ la = .int .i64 (pre1 g k) ∧ up = .int .i64 (upS g k) ∧ w11 = wr) (fun _ _ i _ => q - (intOf i).toNat)
          case atStart => exact ⟨0, by omega, rfl, rfl, rfl, rfl⟩
          case round =>
            obtain ⟨k, hk, rfl, rfl, rfl, rfl⟩ := hrel
            by_cases hlt : k < q
            · obtain ⟨b, off, rfl, hz⟩ := HG11.out.at hlt
              have hki : (k : Int) < (q : Int) := by omega
              have hx := HGB'.out k hlt
              have hu := HUB.out k (by omega)
              have hu1 := HUB.out (k + 1) (by omega)
              have hst := upS_step g k
              have hp0 : 0 ≤ pre1 g k ∧ pre1 g k ≤ 64000000 := by
                unfold pre1
                by_cases h0 : k = 0
                · rw [if_pos h0]; omega
                · rw [if_neg h0]; exact HGB'.out (k - 1) (by omega)
              have HP2 : Hid (pre1 g (k + 1) = g k) := by show _ = _; unfold pre1; rw [if_neg (by omega)]; rfl
              obtain ⟨X, hX⟩ : ∃ X, X = g k := ⟨_, rfl⟩
              obtain ⟨P, hP⟩ : ∃ P, P = pre1 g k := ⟨_, rfl⟩
              obtain ⟨Y, hY⟩ : ∃ Y, Y = upS g k := ⟨_, rfl⟩
              rw [← hX] at hx hz hst HP2
              rw [← hP] at hst hp0
              rw [← hY] at hu hst
              rw [← hP, ← hY]
              clear hX hP hY
              by_cases hgt : P < X
              · rw [if_pos hgt] at hst
                have HST : Hid (upS g (k + 1) = Y + X - P) := by show _ = _; omega
                have hb1 : Y + X ≤ 64000000 * (k : Int) + 64000000 := by omega
                have e1 : IntKind.i64.wrap (Y + X) = Y + X := by rw [IntKind.wrap_i64]; omega
                have e2 : IntKind.i64.wrap (Y + X - P) = Y + X - P := by rw [IntKind.wrap_i64]; omega
                clear hst hu hu1 hb1 hp0 hx
                go_wp2_with fail
                exact ⟨⟨k + 1, by omega, by simp, by rw [HP2.out], by rw [HST.out], trivial⟩, by simp [intOf] <;> omega⟩
              · rw [if_neg hgt] at hst
                have HST : Hid (upS g (k + 1) = Y) := by show _ = _; omega
                clear hst hu hu1 hp0 hx
                go_wp2_with fail
                exact ⟨⟨k + 1, by omega, by simp, by rw [HP2.out], by rw [HST.out], trivial⟩, by simp [intOf] <;> omega⟩
            · obtain rfl : k = q := by omega
              have c := cU al cl w11 HP11.out
              have hge := HUN.out
              generalize uS f' m = u9 at *
              generalize upS g k = u8 at *
              go_wp2_with fail
              refine c.mono ?_
              rintro e w12 ⟨rfl, hb12⟩
              have HB12 := hide (HB11.out.trans (hb12.mono HB11.out.size))
              clear c hb12 HB11
              go_wp2_with fail
              go_ret
              exact ⟨rfl, HB12.out⟩

end Go.Proofs.Ytfpeobkncileiaa
