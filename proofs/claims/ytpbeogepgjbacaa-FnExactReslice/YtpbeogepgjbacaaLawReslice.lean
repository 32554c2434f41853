/- The law on Reslice, walked. -/
import Derived.Test.YtpbeogepgjbacaaRst
import Derived.Test.YtpbeogepgjbacaaBxg
namespace Go.Proofs.Ytpbeogepgjbacaa
open Go.RowKit

set_option maxRecDepth 100000 in
set_option maxHeartbeats 16000000 in
theorem fnExactReslice_walk (X Y Z : Int) (a0 : Option Addr) (n0 cap0 : Nat) (f0 : Nat → Int) (hl0 : n0 ≤ maxLen) (D : Int) (a1 : Option Addr) (n1 cap1 : Nat) (f1 : Nat → Int) (hl1 : n1 ≤ maxLen) (d1 : Option Addr) (m1 dap1 : Nat) (g1 : Nat → Int) (hm1 : m1 ≤ maxLen) (x2 x3 x4 : Int) (w : World) (h0 : Px a0 (n0) f0 w) (h1 : Px a1 (n1) f1 w) (k1 : Px d1 m1 g1 w) :
    Calls Try.prog 3 #[vVolume X Y Z a0 n0 cap0, vFrame D a1 n1 cap1 d1 m1 dap1, .int .i64 x2, .int .i64 x3, .int .i64 x4] w fun e w' => e = .returned (.bool true) ∧ Below w.heap.size w w' := by
  unfold maxLen at hl0 hl1 hm1
  have HS0 := hide (((St.start w).box [.int .i64 X, .int .i64 Y, .int .i64 Z, .slice a0 n0 cap0] 24).box' [.slice a1 n1 cap1, .slice d1 m1 dap1, .int .i64 D] 26 (b := w.heap.size + 1) (by simp))
  have HP0 := hide h0
  have HP1 := hide h1
  have HK1 := hide k1
  clear h0 h1 k1
  have hz0 := szVolume_any X Y Z a0 n0 cap0 (1048576) (by omega) (by omega) (by omega)
  by_cases hb0 : (1048576 : Int) < (n0 : Int)
  · rw [if_pos hb0] at hz0
    clear hb0 hl0 hl1 hm1
    go_enter Try.func3, Try.ntmps3
    go_wp2_with fail
    refine (hz0 _).mono ?_
    rintro e wz0 ⟨rfl, hb⟩
    have HB := hide (HS0.out.next hb).below
    clear hb
    go_wp2_with fail
    go_ret
    exact ⟨rfl, HB.out⟩
  rw [if_neg hb0] at hz0
  have hn0 : ¬ (1048576 - (n0 : Int) : Int) < 0 := by omega
  have hz1 := szFrame_any D a1 n1 cap1 d1 m1 dap1 (1048576 - (n0 : Int)) (by omega) (by omega) (by omega) (by omega)
  by_cases hb1 : (1048576 - (n0 : Int) : Int) < ((n1 : Int) + (m1 : Int))
  · rw [if_pos hb1] at hz1
    clear hb1 hl0 hl1 hm1
    go_enter Try.func3, Try.ntmps3
    go_wp2_with fail
    refine (hz0 _).mono ?_
    rintro e wz0 ⟨rfl, hb⟩
    have HZ0 := hide (HS0.out.next hb)
    clear hb
    obtain ⟨i0, i1, i2⟩ := HZ0.out.im3 0 rfl
    go_wp2_with fail
    refine (hz1 _).mono ?_
    rintro e wz1 ⟨rfl, hb⟩
    have HB := hide (HZ0.out.next hb).below
    clear hb
    go_wp2_with fail
    go_ret
    exact ⟨rfl, HB.out⟩
  rw [if_neg hb1] at hz1
  have hn1 : ¬ (1048576 - (n0 : Int) - ((n1 : Int) + (m1 : Int)) : Int) < 0 := by omega
  have hL0 : n0 ≤ 1048576 := by omega
  have hL1 : n1 ≤ 1048576 := by omega
  have hM1 : m1 ≤ 1048576 := by omega
  have hN : (n0 : Int) + (n1 : Int) + (m1 : Int) ≤ 1048576 := by omega
  have cT0 := fun w' h => toVolume_any X Y Z a0 n0 cap0 f0 hL0 w' h
  have cT1 := fun w' h k => toFrame_any D a1 n1 cap1 f1 hL1 d1 m1 dap1 g1 hM1 w' h k
  have cA0 := fun b b' w' h h' => eqVolume_any X Y Z (some ⟨b, 0, none⟩) (some ⟨b', 0, none⟩) n0 n0 n0 f0 hL0 w' h h'
  have cA1 := fun b b' d d' w' h h' k k' => eqFrame_any D (some ⟨b, 0, none⟩) (some ⟨b', 0, none⟩) n1 n1 n1 f1 hL1 (some ⟨d, 0, none⟩) (some ⟨d', 0, none⟩) m1 m1 m1 g1 hM1 w' h h' k k'
  have cM0 := fun a' b => markVolume_any X Y Z a' b n0 n0 f0 hL0 (1) (by omega) (by omega)
  have cM1 := fun b e => markFrame_any D (some ⟨b, 0, none⟩) b n1 n1 f1 hL1 (some ⟨e, 0, none⟩) e m1 m1 g1 hM1 (1 + (n0 : Int)) (by omega) (by omega)
  have hkk : ¬ (1 + (n0 : Int) + (n1 : Int) + (m1 : Int) : Int) < 0 := by omega
  have cS := fun b0 c0 b1 c1 b2 c2 w' h k l => specReslice_any X Y Z b0 n0 c0 f0 hL0 D b1 n1 c1 f1 hL1 b2 m1 c2 g1 hM1 x2 x3 x4 w' h k l
  unfold VoR at cS
  have cI := fun b0 c0 b1 c1 b2 c2 w' h k l => implReslice_any X Y Z b0 n0 c0 f0 hL0 D b1 n1 c1 f1 hL1 b2 m1 c2 g1 hM1 x2 x3 x4 w' h k l
  unfold VoR at cI
  have hrn : rsC (rsB X Y Z n0 f0 D n1 f1 m1 g1 x2 x3 x4) x2 x3 x4 ≤ 32768 := rsC_le ..
  generalize rsC (rsB X Y Z n0 f0 D n1 f1 m1 g1 x2 x3 x4) x2 x3 x4 = rN at *
  generalize rsW (rsB X Y Z n0 f0 D n1 f1 m1 g1 x2 x3 x4) x2 = rX at *
  generalize rsW (rsB X Y Z n0 f0 D n1 f1 m1 g1 x2 x3 x4) x3 = rY at *
  generalize rsW (rsB X Y Z n0 f0 D n1 f1 m1 g1 x2 x3 x4) x4 = rZ at *
  generalize rsF f0 X Y Z f1 g1 D x2.toNat x3.toNat = s at *
  have hrn2 : rN ≤ 1048576 := by omega
  have cE := fun a a' c c' w' h h' => eqVolume_any rX rY rZ a a' rN c c' s hrn2 w' h h'
  have cMg := fun a b c w' h => markVolume_any rX rY rZ a b rN c s hrn2 (1) (by omega) (by omega) w' h
  have cHg := fun a b c w' h => heldVolume_any rX rY rZ a b rN c hrn2 (1) (by omega) (by omega) w' h
  have hk9 : ¬ (1 + (rN : Int)) < 0 := by omega
  have qv : (1 + (rN : Int) != 1 + (rN : Int)) = false := by simp
  clear hl0 hl1 hm1 hN hrn
  go_enter Try.func3, Try.ntmps3
  go_wp2_with fail
  refine (hz0 _).mono ?_
  rintro e v1 ⟨rfl, hb⟩
  have HS1 := hide (HS0.out.next hb)
  clear HS0 hb hz0
  obtain ⟨i0, i1, i2⟩ := HS1.out.im3 0 rfl
  go_wp2_with fail
  refine (hz1 _).mono ?_
  rintro e v2 ⟨rfl, hb⟩
  have HS2 := hide (HS1.out.next hb)
  clear HS1 hb hz1 i0 i1 i2
  go_upto_region 8 with fail
  go_cut [12] (fun s' wc => ∃ Q A B C, s' = .pointer (some ⟨Q, 0, none⟩) ∧ St w ((Q, [.int .i64 rX, .int .i64 rY, .int .i64 rZ, .slice A rN C]) :: [(w.heap.size + 1, [.slice a1 n1 cap1, .slice d1 m1 dap1, .int .i64 D]), (w.heap.size, [.int .i64 X, .int .i64 Y, .int .i64 Z, .slice a0 n0 cap0])]) ((A, B, rN, fun k => .int .i64 (s k)) :: []) wc)
  case first =>
    obtain ⟨G, hG⟩ : ∃ G : Nat → Value → Prop, G = (fun j v => match j with | 0 => v = vVolume X Y Z a0 n0 cap0 | 2 => v = vFrame D a1 n1 cap1 d1 m1 dap1 | 4 => v = .int .i64 x2 | 5 => v = .int .i64 x3 | 6 => v = .int .i64 x4 | _ => True) := ⟨_, rfl⟩
    have G0 : Hid (∀ v, G 0 v ↔ v = vVolume X Y Z a0 n0 cap0) := fun v => by rw [hG]; exact Iff.rfl
    have G1 : Hid (∀ v, G 1 v) := fun v => by rw [hG]; trivial
    have G2 : Hid (∀ v, G 2 v ↔ v = vFrame D a1 n1 cap1 d1 m1 dap1) := fun v => by rw [hG]; exact Iff.rfl
    have G3 : Hid (∀ v, G 3 v) := fun v => by rw [hG]; trivial
    have G4 : Hid (∀ v, G 4 v ↔ v = .int .i64 x2) := fun v => by rw [hG]; exact Iff.rfl
    have G5 : Hid (∀ v, G 5 v ↔ v = .int .i64 x3) := fun v => by rw [hG]; exact Iff.rfl
    have G6 : Hid (∀ v, G 6 v ↔ v = .int .i64 x4) := fun v => by rw [hG]; exact Iff.rfl
    have G7 : Hid (∀ v, G 7 v) := fun v => by rw [hG]; trivial
    have G8 : Hid (∀ v, G 8 v) := fun v => by rw [hG]; trivial
    have G9 : Hid (∀ v, G 9 v) := fun v => by rw [hG]; trivial
    clear hG
    obtain ⟨pv, hpv⟩ : ∃ pv : Nat → Option OwnP, pv = (fun j => match j with | 1 => some (volP X Y Z n0 f0) | 3 => some (frmP D n1 f1 m1 g1) | 7 => some (volP rX rY rZ rN s) | _ => none) := ⟨_, rfl⟩
    have O0 : Hid (pv 0 = none) := by rw [hpv]; exact rfl
    have O1 : Hid (pv 1 = some (volP X Y Z n0 f0)) := by rw [hpv]; exact rfl
    have O2 : Hid (pv 2 = none) := by rw [hpv]; exact rfl
    have O3 : Hid (pv 3 = some (frmP D n1 f1 m1 g1)) := by rw [hpv]; exact rfl
    have O4 : Hid (pv 4 = none) := by rw [hpv]; exact rfl
    have O5 : Hid (pv 5 = none) := by rw [hpv]; exact rfl
    have O6 : Hid (pv 6 = none) := by rw [hpv]; exact rfl
    have O7 : Hid (pv 7 = some (volP rX rY rZ rN s)) := by rw [hpv]; exact rfl
    have O8 : Hid (pv 8 = none) := by rw [hpv]; exact rfl
    have O9 : Hid (pv 9 = none) := by rw [hpv]; exact rfl
    have HST : Hid (∀ j p, pv j = some p → Stab p) := by
      intro j p hp
      rw [hpv] at hp
      dsimp only at hp
      split at hp <;> cases hp
      · exact volP_st _ _ _ _ _
      · exact frmP_st _ _ _ _ _
      · exact volP_st _ _ _ _ _
    clear hpv
    obtain ⟨PX, hPX⟩ : ∃ P : Nat → World → Prop, P = (VoP v2 rX rY rZ rN s) := ⟨_, rfl⟩
    have HPX : Hid (∀ (Q : Nat) (wx wy : World), Below wx.heap.size wx wy → PX Q wx → PX Q wy) := by
      intro Q wx wy hb hp
      rw [hPX] at hp ⊢
      exact hp.below hb
    have HPY : Hid (PX = VoP v2 rX rY rZ rN s) := hPX
    clear hPX
    refine region_opsV (bR 8 9 (.int .i64 0) [.int .i64 0, .int .i64 0, .slice none 0 0] v2) (kF 8 9 v2 G pv PX) (by kernel_rfl) (by kernel_rfl) (by kernel_rfl) (by kernel_rfl) ?_ ?_ ?_
    · refine ⟨(Below.refl _ _).drew, fun B hB hBB => ?_⟩
      have h := hB.symm.trans (show _ = undef by kernel_rfl)
      simp [undef] at h
    · refine ⟨?_, ?_, ?_, ?_, ?_, ?_, ?_, ?_, ?_, ?_, trivial⟩
      ·
        intro u w21 au hsl hel hu hF hp' K hK
        have t5 : au.tmps[5]?.getD undef = .pointer (some ⟨w.heap.size, 0, none⟩) := (hel.out 5 (by kernel_rfl)).trans (by kernel_rfl)
        obtain ⟨xa, xb, xc, xd⟩ := (HS2.out.next hF.1).im4 1 rfl
        refine step_plain rfl ?_
        go_simp
        exact hK.out (vVolume X Y Z a0 n0 cap0) _ (bR_up hF (Below.refl _ _) 0 (by omega) (by omega) _) (kF_val 0 (by omega) (by omega) O0.out ((G0.out _).2 rfl)) (fun j hj hf h => kF_up HST.out (fun M hM => HPX.out M _ _ (Below.refl _ _) hM) (Below.refl _ _) 0 (by omega) (by omega) _ j hj h)
      ·
        intro u w21 au hsl hel hu hF hp' K hK
        have h0 : u 0 = vVolume X Y Z a0 n0 cap0 := (G0.out _).1 (PreF.get hp' 0 (by kernel_rfl)).1
        have t30 : au.tmps[30]?.getD undef = u 0 := hsl.out 0 30 (by kernel_rfl)
        rw [h0] at t30
        have h7 : u 9 = undef := (hu.out 9 (by decide) (.inr (by kernel_rfl))).trans (by kernel_rfl)
        have c := cT0 w21 (HP0.out.below (HS2.out.next hF.1).below)
        refine step_plain rfl ?_
        go_simp
        refine c.mono ?_
        rintro e w22 ⟨bb, rfl, r2, r3, hb9⟩
        exact hK.out (vVolume X Y Z (some ⟨bb, 0, none⟩) n0 n0) _ (bR_up hF hb9 1 (by omega) (by omega) _) (kF_own 1 (by omega) (by omega) O1.out (G1.out _) (gB.newV hF h7 X Y Z n0 (.inr ⟨rfl, r3⟩) (.inr r2))) (fun j hj hf h => kF_up HST.out (fun M hM => HPX.out M _ _ hb9 hM) hb9 1 (by omega) (by omega) _ j hj h)
      ·
        intro u w21 au hsl hel hu hF hp' K hK
        have t6 : au.tmps[6]?.getD undef = .pointer (some ⟨w.heap.size + 1, 0, none⟩) := (hel.out 6 (by kernel_rfl)).trans (by kernel_rfl)
        obtain ⟨xa, xb, xc⟩ := (HS2.out.next hF.1).im3 0 rfl
        refine step_plain rfl ?_
        go_simp
        exact hK.out (vFrame D a1 n1 cap1 d1 m1 dap1) _ (bR_up hF (Below.refl _ _) 2 (by omega) (by omega) _) (kF_val 2 (by omega) (by omega) O2.out ((G2.out _).2 rfl)) (fun j hj hf h => kF_up HST.out (fun M hM => HPX.out M _ _ (Below.refl _ _) hM) (Below.refl _ _) 2 (by omega) (by omega) _ j hj h)
      ·
        intro u w21 au hsl hel hu hF hp' K hK
        have h2 : u 2 = vFrame D a1 n1 cap1 d1 m1 dap1 := (G2.out _).1 (PreF.get hp' 2 (by kernel_rfl)).1
        have t32 : au.tmps[32]?.getD undef = u 2 := hsl.out 2 32 (by kernel_rfl)
        rw [h2] at t32
        have h7 : u 9 = undef := (hu.out 9 (by decide) (.inr (by kernel_rfl))).trans (by kernel_rfl)
        have c := cT1 w21 (HP1.out.below (HS2.out.next hF.1).below) (HK1.out.below (HS2.out.next hF.1).below)
        refine step_plain rfl ?_
        go_simp
        refine c.mono ?_
        rintro e w22 ⟨bb, dd, rfl, r2, r3, r4, r5, r6, hb9⟩
        exact hK.out (vFrame D (some ⟨bb, 0, none⟩) n1 n1 (some ⟨dd, 0, none⟩) m1 m1) _ (bR_up hF hb9 3 (by omega) (by omega) _) (kF_own 3 (by omega) (by omega) O3.out (G3.out _) (gB.newF hF h7 D n1 m1 (.inr ⟨rfl, r3⟩) (.inr r2) (.inr ⟨rfl, r5⟩) (.inr r4))) (fun j hj hf h => kF_up HST.out (fun M hM => HPX.out M _ _ hb9 hM) hb9 3 (by omega) (by omega) _ j hj h)
      ·
        intro u w21 au hsl hel hu hF hp' K hK
        have t2 : au.tmps[2]?.getD undef = .int .i64 x2 := (hel.out 2 (by kernel_rfl)).trans (by kernel_rfl)
        refine step_plain rfl ?_
        go_simp
        exact hK.out (.int .i64 x2) _ (bR_up hF (Below.refl _ _) 4 (by omega) (by omega) _) (kF_val 4 (by omega) (by omega) O4.out ((G4.out _).2 rfl)) (fun j hj hf h => kF_up HST.out (fun M hM => HPX.out M _ _ (Below.refl _ _) hM) (Below.refl _ _) 4 (by omega) (by omega) _ j hj h)
      ·
        intro u w21 au hsl hel hu hF hp' K hK
        have t3 : au.tmps[3]?.getD undef = .int .i64 x3 := (hel.out 3 (by kernel_rfl)).trans (by kernel_rfl)
        refine step_plain rfl ?_
        go_simp
        exact hK.out (.int .i64 x3) _ (bR_up hF (Below.refl _ _) 5 (by omega) (by omega) _) (kF_val 5 (by omega) (by omega) O5.out ((G5.out _).2 rfl)) (fun j hj hf h => kF_up HST.out (fun M hM => HPX.out M _ _ (Below.refl _ _) hM) (Below.refl _ _) 5 (by omega) (by omega) _ j hj h)
      ·
        intro u w21 au hsl hel hu hF hp' K hK
        have t4 : au.tmps[4]?.getD undef = .int .i64 x4 := (hel.out 4 (by kernel_rfl)).trans (by kernel_rfl)
        refine step_plain rfl ?_
        go_simp
        exact hK.out (.int .i64 x4) _ (bR_up hF (Below.refl _ _) 6 (by omega) (by omega) _) (kF_val 6 (by omega) (by omega) O6.out ((G6.out _).2 rfl)) (fun j hj hf h => kF_up HST.out (fun M hM => HPX.out M _ _ (Below.refl _ _) hM) (Below.refl _ _) 6 (by omega) (by omega) _ j hj h)
      ·
        intro u w21 au hsl hel hu hF hp' K hK
        have h7 : u 9 = undef := (hu.out 9 (by decide) (.inr (by kernel_rfl))).trans (by kernel_rfl)
        have h4 : u 4 = .int .i64 x2 := (G4.out _).1 (PreF.get hp' 4 (by kernel_rfl)).1
        have t34 : au.tmps[34]?.getD undef = u 4 := hsl.out 4 34 (by kernel_rfl)
        rw [h4] at t34
        have h5 : u 5 = .int .i64 x3 := (G5.out _).1 (PreF.get hp' 5 (by kernel_rfl)).1
        have t35 : au.tmps[35]?.getD undef = u 5 := hsl.out 5 35 (by kernel_rfl)
        rw [h5] at t35
        have h6 : u 6 = .int .i64 x4 := (G6.out _).1 (PreF.get hp' 6 (by kernel_rfl)).1
        have t36 : au.tmps[36]?.getD undef = u 6 := hsl.out 6 36 (by kernel_rfl)
        rw [h6] at t36
        obtain ⟨bs1, -, ⟨A1, C1, B1, e1, o1, -⟩, -⟩ := ((PreF.get hp' 1 (by kernel_rfl)).2.1 _ O1.out).resolve_left (fun hx => hx h7)
        have t31 : au.tmps[31]?.getD undef = u 1 := hsl.out 1 31 (by kernel_rfl)
        rw [e1] at t31
        obtain ⟨bs3, -, ⟨A3, C3, B3, A3', C3', B3', e3, o3, o3', -⟩, -⟩ := ((PreF.get hp' 3 (by kernel_rfl)).2.1 _ O3.out).resolve_left (fun hx => hx h7)
        have t33 : au.tmps[33]?.getD undef = u 3 := hsl.out 3 33 (by kernel_rfl)
        rw [e3] at t33
        have c := cS A1 C1 A3 C3 A3' C3' w21 (Ow.px o1) (Ow.px o3) (Ow.px o3')
        refine step_plain rfl ?_
        go_simp
        refine c.mono ?_
        rintro e w22 ⟨q0, q1, q2, rfl, q3, q4, hb9⟩
        exact hK.out (vVolume rX rY rZ q0 rN q1) _ (bR_up hF hb9 7 (by omega) (by omega) _) (kF_own 7 (by omega) (by omega) O7.out (G7.out _) (gB.newV hF h7 rX rY rZ q1 q3 q4)) (fun j hj hf h => kF_up HST.out (fun M hM => HPX.out M _ _ hb9 hM) hb9 7 (by omega) (by omega) _ j hj h)
      ·
        intro u w21 au hsl hel hu hF hp' K hK
        refine step_plain rfl ?_
        go_simp
        exact hK.out (.pointer (some ⟨w21.heap.size, 0, none⟩)) _ (bR_al hF (Bx.new [.int .i64 0, .int .i64 0, .int .i64 0, .slice none 0 0] 29 w21)) (kF_ptr (by omega) (G8.out) O8.out hF.1.size) (fun j hj hf h => kF_al HST.out (by omega) _ j hj (fun e => by subst e; exact absurd (Eq.trans (Eq.symm (by kernel_rfl)) hf) Bool.false_ne_true) h)
      ·
        intro u w21 au hsl hel hu hF hp' K hK
        have h7 : u 9 = undef := (hu.out 9 (by decide) (.inl rfl)).trans (by kernel_rfl)
        obtain ⟨bs, hbs, ⟨q0, q1, q2, e7, o7, m7⟩, hap⟩ := ((PreF.get hp' 7 (by kernel_rfl)).2.1 _ O7.out).resolve_left (fun hx => hx h7)
        have t37 : au.tmps[37]?.getD undef = u 7 := hsl.out 7 37 (by kernel_rfl)
        rw [e7] at t37
        obtain ⟨Q, hQ, hQB⟩ := (PreF.get hp' 8 (by kernel_rfl)).2.2.1 rfl
        have t12 : au.tmps[12]?.getD undef = .pointer (some ⟨Q, 0, none⟩) := (hsl.out 8 12 (by kernel_rfl)).trans hQ
        have hx := (hF.2 Q hQ hQB).resolve_left (fun hx => hx h7)
        obtain ⟨y0, z0⟩ := hx 0 _ rfl
        obtain ⟨y1, z1⟩ := hx 1 _ rfl
        obtain ⟨y2, z2⟩ := hx 2 _ rfl
        obtain ⟨y3, z3⟩ := hx 3 _ rfl
        refine step_plain rfl ?_
        go_simp
        exact hK.out (.bool true) _ (bR_st (below_set4g hF.1 hQB _ _ _ _) (by simp [undef])) (kF_done (by omega) (G9.out) O9.out hQ hQB (by rw [HPY.out]; exact VoP.stored (A := 8) (u := u) o7 m7 hbs hap hQ hx)) (fun j hj hf h => kF_st (by omega) (by simp [undef]) j hj h)
    · intro u w30 hF hall
      obtain ⟨Q, hQ, hQB, hP⟩ := (hall 9 (by decide)).2.2.2 rfl
      rw [HPY.out] at hP
      obtain ⟨A, B, C, hst⟩ := VoP.st HS2.out hF.1 hP hQB
      have HSTT := hide hst
      clear hF hall hP hst
      simp only [rgPut, Act.put, hQ]
      clear hQ hQB
      go_simp
      go_wp2_with fail
      go_meet
      exact ⟨Q, A, B, C, rfl, HSTT.out⟩
  case rest =>
    obtain ⟨Qs, As, Bs, Cs, rfl, hst⟩ := hcut
    obtain ⟨v3, hwc⟩ : ∃ wn, wn = wc := ⟨_, rfl⟩
    rw [← hwc] at hst
    rw [← hwc]
    have HS3 := hide hst
    clear hst hwc HS2
    obtain ⟨i0, i1, i2, i3⟩ := HS3.out.im4 2 rfl
    go_wp2_with fail
    refine (cT0 _ (HP0.out.below HS3.out.below)).mono ?_
    rintro e v4 ⟨xb, rfl, h2, hr, hb⟩
    have HS4 := hide (HS3.out.own hb hr.v (.inr h2))
    clear HS3 hb hr h2 i0 i1 i2 i3
    have HS5 := hide (HS4.out.box [.int .i64 X, .int .i64 Y, .int .i64 Z, .slice (some ⟨xb, 0, none⟩) n0 n0] 29)
    go_upto_region 10 with fail
    generalize hx : World.alloc v4 (.cells [.int .i64 X, .int .i64 Y, .int .i64 Z, .slice (some ⟨xb, 0, none⟩) n0 n0].toArray 29) = v5 at HS5
    have hy' : World.alloc v4 (.cells #[.int .i64 X, .int .i64 Y, .int .i64 Z, .slice (some ⟨xb, 0, none⟩) n0 n0] 29) = v5 := hx
    try rw [hy']
    clear hx hy' HS4
    generalize v4.heap.size = Qx at *
    obtain ⟨i0, i1, i2⟩ := HS5.out.im3 2 rfl
    go_wp2_with fail
    refine (cT1 _ (HP1.out.below HS5.out.below) (HK1.out.below HS5.out.below)).mono ?_
    rintro e v6 ⟨yb, ye, rfl, h2, hr, h2', hr', hne, hb⟩
    have HS6 := hide (HS5.out.own2 hb hr.v (.inr h2) hr'.v (.inr h2') (.inr (.inr hne)))
    clear HS5 hb hr h2 hr' h2' hne i0 i1 i2
    have HS7 := hide (HS6.out.box [.slice (some ⟨yb, 0, none⟩) n1 n1, .slice (some ⟨ye, 0, none⟩) m1 m1, .int .i64 D] 32)
    go_upto_region 11 with fail
    generalize hx : World.alloc v6 (.cells [.slice (some ⟨yb, 0, none⟩) n1 n1, .slice (some ⟨ye, 0, none⟩) m1 m1, .int .i64 D].toArray 32) = v7 at HS7
    have hy' : World.alloc v6 (.cells #[.slice (some ⟨yb, 0, none⟩) n1 n1, .slice (some ⟨ye, 0, none⟩) m1 m1, .int .i64 D] 32) = v7 := hx
    try rw [hy']
    clear hx hy' HS6
    generalize v6.heap.size = Qy at *
    obtain ⟨i0, i1, i2, i3⟩ := HS7.out.im4 1 rfl
    obtain ⟨j0, j1, j2⟩ := HS7.out.im3 0 rfl
    go_wp2_with fail
    refine (cI _ _ _ _ _ _ _ (HS7.out.nthO 2 rfl).px (HS7.out.nthO 1 rfl).px (HS7.out.nthO 0 rfl).px).mono ?_
    rintro e v8 ⟨Ag, Cg, Bg, rfl, p3, p4, hb⟩
    have HS8 := hide (HS7.out.own hb p3.v p4)
    clear HS7 hb p3 p4 i0 i1 i2 i3 j0 j1 j2
    have HS9 := hide (HS8.out.box [.int .i64 rX, .int .i64 rY, .int .i64 rZ, .slice Ag rN Cg] 29)
    go_upto_region 12 with fail
    generalize hx : World.alloc v8 (.cells [.int .i64 rX, .int .i64 rY, .int .i64 rZ, .slice Ag rN Cg].toArray 29) = v9 at HS9
    have hy' : World.alloc v8 (.cells #[.int .i64 rX, .int .i64 rY, .int .i64 rZ, .slice Ag rN Cg] 29) = v9 := hx
    try rw [hy']
    clear hx hy' HS8
    generalize v8.heap.size = Qg at *
    obtain ⟨i0, i1, i2, i3⟩ := HS9.out.im4 0 rfl
    obtain ⟨j0, j1, j2, j3⟩ := HS9.out.im4 3 rfl
    go_wp2_with fail
    refine (cE _ _ _ _ _ (HS9.out.nthO 0 rfl).px (HS9.out.nthO 4 rfl).px).mono ?_
    rintro e v10 ⟨rfl, hb⟩
    have HS10 := hide (HS9.out.next hb)
    clear HS9 hb i0 i1 i2 i3 j0 j1 j2 j3
    obtain ⟨i0, i1, i2, i3⟩ := HS10.out.im4 5 rfl
    obtain ⟨j0, j1, j2, j3⟩ := HS10.out.im4 2 rfl
    go_upto_region 14 with fail
    go_cut [56] (fun s' wc => s' = .bool false ∧ St w [(Qg, [.int .i64 rX, .int .i64 rY, .int .i64 rZ, .slice Ag rN Cg]), (Qy, [.slice (some ⟨yb, 0, none⟩) n1 n1, .slice (some ⟨ye, 0, none⟩) m1 m1, .int .i64 D]), (Qx, [.int .i64 X, .int .i64 Y, .int .i64 Z, .slice (some ⟨xb, 0, none⟩) n0 n0]), (Qs, [.int .i64 rX, .int .i64 rY, .int .i64 rZ, .slice As rN Cs]), (w.heap.size + 1, [.slice a1 n1 cap1, .slice d1 m1 dap1, .int .i64 D]), (w.heap.size, [.int .i64 X, .int .i64 Y, .int .i64 Z, .slice a0 n0 cap0])] [(Ag, Bg, rN, fun k => .int .i64 (s k)), (some ⟨ye, 0, none⟩, ye, m1, fun k => .int .i64 (g1 k)), (some ⟨yb, 0, none⟩, yb, n1, fun k => .int .i64 (f1 k)), (some ⟨xb, 0, none⟩, xb, n0, fun k => .int .i64 (f0 k)), (As, Bs, rN, fun k => .int .i64 (s k))] wc)
    case first =>
      go_region_with (first
        | (go_at_call 8; (with_reducible refine (cT0 _ (HP0.out.below HS10.out.drew.below)).mono ?_); rintro e wq ⟨b3, rfl, -, hr, hb⟩; have HQ := hide (HS10.out.drew.next hb); obtain ⟨k0, k1, k2, k3⟩ := HQ.out.im4 2 rfl)
        | (go_at_call 11; (with_reducible refine (cA0 _ _ _ (HQ.out.nthO 3 rfl).px hr.px).mono ?_); rintro e wp ⟨rfl, hb11⟩))
      all_goals
        have HSTT := hide (HQ.out.next hb11)
        clear hb hr hb11 HQ HS10 k0 k1 k2 k3 i0 i1 i2 i3 j0 j1 j2 j3
        go_wp2_with fail
        go_meet
        exact ⟨rfl, HSTT.out⟩
    case rest =>
      obtain ⟨rfl, hst⟩ := hcut
      obtain ⟨v11, hwc⟩ : ∃ wn, wn = wc := ⟨_, rfl⟩
      rw [← hwc] at hst
      rw [← hwc]
      have HS11 := hide hst
      clear hst hwc HS10 i0 i1 i2 i3 j0 j1 j2 j3
      obtain ⟨i0, i1, i2⟩ := HS11.out.im3 4 rfl
      obtain ⟨j0, j1, j2⟩ := HS11.out.im3 1 rfl
      go_upto_region 16 with fail
      go_cut [61] (fun s' wc => s' = .bool false ∧ St w [(Qg, [.int .i64 rX, .int .i64 rY, .int .i64 rZ, .slice Ag rN Cg]), (Qy, [.slice (some ⟨yb, 0, none⟩) n1 n1, .slice (some ⟨ye, 0, none⟩) m1 m1, .int .i64 D]), (Qx, [.int .i64 X, .int .i64 Y, .int .i64 Z, .slice (some ⟨xb, 0, none⟩) n0 n0]), (Qs, [.int .i64 rX, .int .i64 rY, .int .i64 rZ, .slice As rN Cs]), (w.heap.size + 1, [.slice a1 n1 cap1, .slice d1 m1 dap1, .int .i64 D]), (w.heap.size, [.int .i64 X, .int .i64 Y, .int .i64 Z, .slice a0 n0 cap0])] [(Ag, Bg, rN, fun k => .int .i64 (s k)), (some ⟨ye, 0, none⟩, ye, m1, fun k => .int .i64 (g1 k)), (some ⟨yb, 0, none⟩, yb, n1, fun k => .int .i64 (f1 k)), (some ⟨xb, 0, none⟩, xb, n0, fun k => .int .i64 (f0 k)), (As, Bs, rN, fun k => .int .i64 (s k))] wc)
      case first =>
        go_region_with (first
          | (go_at_call 9; (with_reducible refine (cT1 _ (HP1.out.below HS11.out.drew.below) (HK1.out.below HS11.out.drew.below)).mono ?_); rintro e wq ⟨b3, b3e, rfl, -, hr, -, hr', -, hb⟩; have HQ := hide (HS11.out.drew.next hb); obtain ⟨k0, k1, k2⟩ := HQ.out.im3 1 rfl)
          | (go_at_call 12; (with_reducible refine (cA1 _ _ _ _ _ (HQ.out.nthO 2 rfl).px hr.px (HQ.out.nthO 1 rfl).px hr'.px).mono ?_); rintro e wp ⟨rfl, hb11⟩))
        all_goals
          have HSTT := hide (HQ.out.next hb11)
          clear hb hr hb11 HQ HS11 k0 k1 k2 i0 i1 i2 j0 j1 j2 hr'
          go_wp2_with fail
          go_meet
          exact ⟨rfl, HSTT.out⟩
      case rest =>
        obtain ⟨rfl, hst⟩ := hcut
        obtain ⟨v12, hwc⟩ : ∃ wn, wn = wc := ⟨_, rfl⟩
        rw [← hwc] at hst
        rw [← hwc]
        have HS12 := hide hst
        clear hst hwc HS11 i0 i1 i2 j0 j1 j2
        obtain ⟨i0, i1, i2, i3⟩ := HS12.out.im4 2 rfl
        go_wp2_with fail
        refine (cM0 _ _ _ (HS12.out.nthO 3 rfl).bk.i).mono ?_
        rintro e v13 ⟨rfl, ho, hkp⟩
        have HS13 : Hid (St w [(Qg, [.int .i64 rX, .int .i64 rY, .int .i64 rZ, .slice Ag rN Cg]), (Qy, [.slice (some ⟨yb, 0, none⟩) n1 n1, .slice (some ⟨ye, 0, none⟩) m1 m1, .int .i64 D]), (Qx, [.int .i64 X, .int .i64 Y, .int .i64 Z, .slice (some ⟨xb, 0, none⟩) n0 n0]), (Qs, [.int .i64 rX, .int .i64 rY, .int .i64 rZ, .slice As rN Cs]), (w.heap.size + 1, [.slice a1 n1 cap1, .slice d1 m1 dap1, .int .i64 D]), (w.heap.size, [.int .i64 X, .int .i64 Y, .int .i64 Z, .slice a0 n0 cap0])] [(Ag, Bg, rN, fun k => .int .i64 (s k)), (some ⟨ye, 0, none⟩, ye, m1, fun k => .int .i64 (g1 k)), (some ⟨yb, 0, none⟩, yb, n1, fun k => .int .i64 (f1 k)), (some ⟨xb, 0, none⟩, xb, n0, fun k => .int .i64 (1 + (k : Int))), (As, Bs, rN, fun k => .int .i64 (s k))] v13) := HS12.out.mark (O1 := [_, _, _]) hkp ho.v
        clear HS12 ho hkp i0 i1 i2 i3
        obtain ⟨i0, i1, i2⟩ := HS13.out.im3 1 rfl
        go_wp2_with fail
        refine (cM1 _ _ _ (HS13.out.nthO 2 rfl).i (HS13.out.nthO 1 rfl).i (HS13.out.neL 2 1 (by omega) rfl rfl)).mono ?_
        rintro e v14 ⟨rfl, w1', w2', hb, o1, kp1, o2, kp2⟩
        have HS14 : Hid (St w [(Qg, [.int .i64 rX, .int .i64 rY, .int .i64 rZ, .slice Ag rN Cg]), (Qy, [.slice (some ⟨yb, 0, none⟩) n1 n1, .slice (some ⟨ye, 0, none⟩) m1 m1, .int .i64 D]), (Qx, [.int .i64 X, .int .i64 Y, .int .i64 Z, .slice (some ⟨xb, 0, none⟩) n0 n0]), (Qs, [.int .i64 rX, .int .i64 rY, .int .i64 rZ, .slice As rN Cs]), (w.heap.size + 1, [.slice a1 n1 cap1, .slice d1 m1 dap1, .int .i64 D]), (w.heap.size, [.int .i64 X, .int .i64 Y, .int .i64 Z, .slice a0 n0 cap0])] [(Ag, Bg, rN, fun k => .int .i64 (s k)), (some ⟨ye, 0, none⟩, ye, m1, fun k => .int .i64 (1 + (n0 : Int) + (n1 : Int) + (k : Int))), (some ⟨yb, 0, none⟩, yb, n1, fun k => .int .i64 (1 + (n0 : Int) + (k : Int))), (some ⟨xb, 0, none⟩, xb, n0, fun k => .int .i64 (1 + (k : Int))), (As, Bs, rN, fun k => .int .i64 (s k))] v14) := ((HS13.out.next hb).mark (O1 := [_, _]) kp1 o1.v).mark (O1 := [_]) kp2 o2.v
        clear HS13 hb o1 kp1 o2 kp2 i0 i1 i2
        obtain ⟨i0, i1, i2, i3⟩ := HS14.out.im4 0 rfl
        obtain ⟨j0, j1, j2, j3⟩ := HS14.out.im4 3 rfl
        go_wp2_with fail
        refine (cE _ _ _ _ _ (HS14.out.nthO 0 rfl).px (HS14.out.nthO 4 rfl).px).mono ?_
        rintro e v15 ⟨rfl, hb⟩
        have HS15 := hide (HS14.out.next hb)
        clear HS14 hb i0 i1 i2 i3 j0 j1 j2 j3
        obtain ⟨i0, i1, i2, i3⟩ := HS15.out.im4 0 rfl
        go_wp2_with fail
        refine (cMg _ _ _ _ (HS15.out.nthO 0 rfl).bk.i).mono ?_
        rintro e v16 ⟨rfl, ho, hkp⟩
        have HS16 : Hid (St w [(Qg, [.int .i64 rX, .int .i64 rY, .int .i64 rZ, .slice Ag rN Cg]), (Qy, [.slice (some ⟨yb, 0, none⟩) n1 n1, .slice (some ⟨ye, 0, none⟩) m1 m1, .int .i64 D]), (Qx, [.int .i64 X, .int .i64 Y, .int .i64 Z, .slice (some ⟨xb, 0, none⟩) n0 n0]), (Qs, [.int .i64 rX, .int .i64 rY, .int .i64 rZ, .slice As rN Cs]), (w.heap.size + 1, [.slice a1 n1 cap1, .slice d1 m1 dap1, .int .i64 D]), (w.heap.size, [.int .i64 X, .int .i64 Y, .int .i64 Z, .slice a0 n0 cap0])] [(Ag, Bg, rN, fun k => .int .i64 (1 + (k : Int))), (some ⟨ye, 0, none⟩, ye, m1, fun k => .int .i64 (1 + (n0 : Int) + (n1 : Int) + (k : Int))), (some ⟨yb, 0, none⟩, yb, n1, fun k => .int .i64 (1 + (n0 : Int) + (k : Int))), (some ⟨xb, 0, none⟩, xb, n0, fun k => .int .i64 (1 + (k : Int))), (As, Bs, rN, fun k => .int .i64 (s k))] v16) := HS15.out.mark (O1 := []) hkp ho.v
        clear HS15 ho hkp i0 i1 i2 i3
        obtain ⟨i0, i1, i2, i3⟩ := HS16.out.im4 0 rfl
        go_wp2_with fail
        refine (cHg _ _ _ _ (HS16.out.nthO 0 rfl).i).mono ?_
        rintro e v17 ⟨rfl, hb⟩
        have HS17 := hide (HS16.out.next hb)
        clear HS16 hb i0 i1 i2 i3
        go_upto_region 31 with fail
        go_cut [19] (fun s' wc => ∃ Q A B C, s' = .pointer (some ⟨Q, 0, none⟩) ∧ St w ((Q, [.int .i64 rX, .int .i64 rY, .int .i64 rZ, .slice A rN C]) :: [(Qg, [.int .i64 rX, .int .i64 rY, .int .i64 rZ, .slice Ag rN Cg]), (Qy, [.slice (some ⟨yb, 0, none⟩) n1 n1, .slice (some ⟨ye, 0, none⟩) m1 m1, .int .i64 D]), (Qx, [.int .i64 X, .int .i64 Y, .int .i64 Z, .slice (some ⟨xb, 0, none⟩) n0 n0]), (Qs, [.int .i64 rX, .int .i64 rY, .int .i64 rZ, .slice As rN Cs]), (w.heap.size + 1, [.slice a1 n1 cap1, .slice d1 m1 dap1, .int .i64 D]), (w.heap.size, [.int .i64 X, .int .i64 Y, .int .i64 Z, .slice a0 n0 cap0])]) ((A, B, rN, fun k => .int .i64 (s k)) :: [(Ag, Bg, rN, fun k => .int .i64 (1 + (k : Int))), (some ⟨ye, 0, none⟩, ye, m1, fun k => .int .i64 (1 + (n0 : Int) + (n1 : Int) + (k : Int))), (some ⟨yb, 0, none⟩, yb, n1, fun k => .int .i64 (1 + (n0 : Int) + (k : Int))), (some ⟨xb, 0, none⟩, xb, n0, fun k => .int .i64 (1 + (k : Int))), (As, Bs, rN, fun k => .int .i64 (s k))]) wc)
        case first =>
          obtain ⟨G, hG⟩ : ∃ G : Nat → Value → Prop, G = (fun j v => match j with | 0 => v = vVolume X Y Z a0 n0 cap0 | 2 => v = vFrame D a1 n1 cap1 d1 m1 dap1 | 4 => v = .int .i64 x2 | 5 => v = .int .i64 x3 | 6 => v = .int .i64 x4 | _ => True) := ⟨_, rfl⟩
          have G0 : Hid (∀ v, G 0 v ↔ v = vVolume X Y Z a0 n0 cap0) := fun v => by rw [hG]; exact Iff.rfl
          have G1 : Hid (∀ v, G 1 v) := fun v => by rw [hG]; trivial
          have G2 : Hid (∀ v, G 2 v ↔ v = vFrame D a1 n1 cap1 d1 m1 dap1) := fun v => by rw [hG]; exact Iff.rfl
          have G3 : Hid (∀ v, G 3 v) := fun v => by rw [hG]; trivial
          have G4 : Hid (∀ v, G 4 v ↔ v = .int .i64 x2) := fun v => by rw [hG]; exact Iff.rfl
          have G5 : Hid (∀ v, G 5 v ↔ v = .int .i64 x3) := fun v => by rw [hG]; exact Iff.rfl
          have G6 : Hid (∀ v, G 6 v ↔ v = .int .i64 x4) := fun v => by rw [hG]; exact Iff.rfl
          have G7 : Hid (∀ v, G 7 v) := fun v => by rw [hG]; trivial
          have G8 : Hid (∀ v, G 8 v) := fun v => by rw [hG]; trivial
          have G9 : Hid (∀ v, G 9 v) := fun v => by rw [hG]; trivial
          clear hG
          obtain ⟨pv, hpv⟩ : ∃ pv : Nat → Option OwnP, pv = (fun j => match j with | 1 => some (volP X Y Z n0 f0) | 3 => some (frmP D n1 f1 m1 g1) | 7 => some (volP rX rY rZ rN s) | _ => none) := ⟨_, rfl⟩
          have O0 : Hid (pv 0 = none) := by rw [hpv]; exact rfl
          have O1 : Hid (pv 1 = some (volP X Y Z n0 f0)) := by rw [hpv]; exact rfl
          have O2 : Hid (pv 2 = none) := by rw [hpv]; exact rfl
          have O3 : Hid (pv 3 = some (frmP D n1 f1 m1 g1)) := by rw [hpv]; exact rfl
          have O4 : Hid (pv 4 = none) := by rw [hpv]; exact rfl
          have O5 : Hid (pv 5 = none) := by rw [hpv]; exact rfl
          have O6 : Hid (pv 6 = none) := by rw [hpv]; exact rfl
          have O7 : Hid (pv 7 = some (volP rX rY rZ rN s)) := by rw [hpv]; exact rfl
          have O8 : Hid (pv 8 = none) := by rw [hpv]; exact rfl
          have O9 : Hid (pv 9 = none) := by rw [hpv]; exact rfl
          have HST : Hid (∀ j p, pv j = some p → Stab p) := by
            intro j p hp
            rw [hpv] at hp
            dsimp only at hp
            split at hp <;> cases hp
            · exact volP_st _ _ _ _ _
            · exact frmP_st _ _ _ _ _
            · exact volP_st _ _ _ _ _
          clear hpv
          obtain ⟨PX, hPX⟩ : ∃ P : Nat → World → Prop, P = (VoP v17 rX rY rZ rN s) := ⟨_, rfl⟩
          have HPX : Hid (∀ (Q : Nat) (wx wy : World), Below wx.heap.size wx wy → PX Q wx → PX Q wy) := by
            intro Q wx wy hb hp
            rw [hPX] at hp ⊢
            exact hp.below hb
          have HPY : Hid (PX = VoP v17 rX rY rZ rN s) := hPX
          clear hPX
          refine region_opsV (bR 8 9 (.int .i64 0) [.int .i64 0, .int .i64 0, .slice none 0 0] v17) (kF 8 9 v17 G pv PX) (by kernel_rfl) (by kernel_rfl) (by kernel_rfl) (by kernel_rfl) ?_ ?_ ?_
          · refine ⟨(Below.refl _ _).drew, fun B hB hBB => ?_⟩
            have h := hB.symm.trans (show _ = undef by kernel_rfl)
            simp [undef] at h
          · refine ⟨?_, ?_, ?_, ?_, ?_, ?_, ?_, ?_, ?_, ?_, trivial⟩
            ·
              intro u w21 au hsl hel hu hF hp' K hK
              have t5 : au.tmps[5]?.getD undef = .pointer (some ⟨w.heap.size, 0, none⟩) := (hel.out 5 (by kernel_rfl)).trans (by kernel_rfl)
              obtain ⟨xa, xb, xc, xd⟩ := (HS17.out.next hF.1).im4 5 rfl
              refine step_plain rfl ?_
              go_simp
              exact hK.out (vVolume X Y Z a0 n0 cap0) _ (bR_up hF (Below.refl _ _) 0 (by omega) (by omega) _) (kF_val 0 (by omega) (by omega) O0.out ((G0.out _).2 rfl)) (fun j hj hf h => kF_up HST.out (fun M hM => HPX.out M _ _ (Below.refl _ _) hM) (Below.refl _ _) 0 (by omega) (by omega) _ j hj h)
            ·
              intro u w21 au hsl hel hu hF hp' K hK
              have h0 : u 0 = vVolume X Y Z a0 n0 cap0 := (G0.out _).1 (PreF.get hp' 0 (by kernel_rfl)).1
              have t87 : au.tmps[87]?.getD undef = u 0 := hsl.out 0 87 (by kernel_rfl)
              rw [h0] at t87
              have h7 : u 9 = undef := (hu.out 9 (by decide) (.inr (by kernel_rfl))).trans (by kernel_rfl)
              have c := cT0 w21 (HP0.out.below (HS17.out.next hF.1).below)
              refine step_plain rfl ?_
              go_simp
              refine c.mono ?_
              rintro e w22 ⟨bb, rfl, r2, r3, hb9⟩
              exact hK.out (vVolume X Y Z (some ⟨bb, 0, none⟩) n0 n0) _ (bR_up hF hb9 1 (by omega) (by omega) _) (kF_own 1 (by omega) (by omega) O1.out (G1.out _) (gB.newV hF h7 X Y Z n0 (.inr ⟨rfl, r3⟩) (.inr r2))) (fun j hj hf h => kF_up HST.out (fun M hM => HPX.out M _ _ hb9 hM) hb9 1 (by omega) (by omega) _ j hj h)
            ·
              intro u w21 au hsl hel hu hF hp' K hK
              have t6 : au.tmps[6]?.getD undef = .pointer (some ⟨w.heap.size + 1, 0, none⟩) := (hel.out 6 (by kernel_rfl)).trans (by kernel_rfl)
              obtain ⟨xa, xb, xc⟩ := (HS17.out.next hF.1).im3 4 rfl
              refine step_plain rfl ?_
              go_simp
              exact hK.out (vFrame D a1 n1 cap1 d1 m1 dap1) _ (bR_up hF (Below.refl _ _) 2 (by omega) (by omega) _) (kF_val 2 (by omega) (by omega) O2.out ((G2.out _).2 rfl)) (fun j hj hf h => kF_up HST.out (fun M hM => HPX.out M _ _ (Below.refl _ _) hM) (Below.refl _ _) 2 (by omega) (by omega) _ j hj h)
            ·
              intro u w21 au hsl hel hu hF hp' K hK
              have h2 : u 2 = vFrame D a1 n1 cap1 d1 m1 dap1 := (G2.out _).1 (PreF.get hp' 2 (by kernel_rfl)).1
              have t89 : au.tmps[89]?.getD undef = u 2 := hsl.out 2 89 (by kernel_rfl)
              rw [h2] at t89
              have h7 : u 9 = undef := (hu.out 9 (by decide) (.inr (by kernel_rfl))).trans (by kernel_rfl)
              have c := cT1 w21 (HP1.out.below (HS17.out.next hF.1).below) (HK1.out.below (HS17.out.next hF.1).below)
              refine step_plain rfl ?_
              go_simp
              refine c.mono ?_
              rintro e w22 ⟨bb, dd, rfl, r2, r3, r4, r5, r6, hb9⟩
              exact hK.out (vFrame D (some ⟨bb, 0, none⟩) n1 n1 (some ⟨dd, 0, none⟩) m1 m1) _ (bR_up hF hb9 3 (by omega) (by omega) _) (kF_own 3 (by omega) (by omega) O3.out (G3.out _) (gB.newF hF h7 D n1 m1 (.inr ⟨rfl, r3⟩) (.inr r2) (.inr ⟨rfl, r5⟩) (.inr r4))) (fun j hj hf h => kF_up HST.out (fun M hM => HPX.out M _ _ hb9 hM) hb9 3 (by omega) (by omega) _ j hj h)
            ·
              intro u w21 au hsl hel hu hF hp' K hK
              have t2 : au.tmps[2]?.getD undef = .int .i64 x2 := (hel.out 2 (by kernel_rfl)).trans (by kernel_rfl)
              refine step_plain rfl ?_
              go_simp
              exact hK.out (.int .i64 x2) _ (bR_up hF (Below.refl _ _) 4 (by omega) (by omega) _) (kF_val 4 (by omega) (by omega) O4.out ((G4.out _).2 rfl)) (fun j hj hf h => kF_up HST.out (fun M hM => HPX.out M _ _ (Below.refl _ _) hM) (Below.refl _ _) 4 (by omega) (by omega) _ j hj h)
            ·
              intro u w21 au hsl hel hu hF hp' K hK
              have t3 : au.tmps[3]?.getD undef = .int .i64 x3 := (hel.out 3 (by kernel_rfl)).trans (by kernel_rfl)
              refine step_plain rfl ?_
              go_simp
              exact hK.out (.int .i64 x3) _ (bR_up hF (Below.refl _ _) 5 (by omega) (by omega) _) (kF_val 5 (by omega) (by omega) O5.out ((G5.out _).2 rfl)) (fun j hj hf h => kF_up HST.out (fun M hM => HPX.out M _ _ (Below.refl _ _) hM) (Below.refl _ _) 5 (by omega) (by omega) _ j hj h)
            ·
              intro u w21 au hsl hel hu hF hp' K hK
              have t4 : au.tmps[4]?.getD undef = .int .i64 x4 := (hel.out 4 (by kernel_rfl)).trans (by kernel_rfl)
              refine step_plain rfl ?_
              go_simp
              exact hK.out (.int .i64 x4) _ (bR_up hF (Below.refl _ _) 6 (by omega) (by omega) _) (kF_val 6 (by omega) (by omega) O6.out ((G6.out _).2 rfl)) (fun j hj hf h => kF_up HST.out (fun M hM => HPX.out M _ _ (Below.refl _ _) hM) (Below.refl _ _) 6 (by omega) (by omega) _ j hj h)
            ·
              intro u w21 au hsl hel hu hF hp' K hK
              have h7 : u 9 = undef := (hu.out 9 (by decide) (.inr (by kernel_rfl))).trans (by kernel_rfl)
              have h4 : u 4 = .int .i64 x2 := (G4.out _).1 (PreF.get hp' 4 (by kernel_rfl)).1
              have t91 : au.tmps[91]?.getD undef = u 4 := hsl.out 4 91 (by kernel_rfl)
              rw [h4] at t91
              have h5 : u 5 = .int .i64 x3 := (G5.out _).1 (PreF.get hp' 5 (by kernel_rfl)).1
              have t92 : au.tmps[92]?.getD undef = u 5 := hsl.out 5 92 (by kernel_rfl)
              rw [h5] at t92
              have h6 : u 6 = .int .i64 x4 := (G6.out _).1 (PreF.get hp' 6 (by kernel_rfl)).1
              have t93 : au.tmps[93]?.getD undef = u 6 := hsl.out 6 93 (by kernel_rfl)
              rw [h6] at t93
              obtain ⟨bs1, -, ⟨A1, C1, B1, e1, o1, -⟩, -⟩ := ((PreF.get hp' 1 (by kernel_rfl)).2.1 _ O1.out).resolve_left (fun hx => hx h7)
              have t88 : au.tmps[88]?.getD undef = u 1 := hsl.out 1 88 (by kernel_rfl)
              rw [e1] at t88
              obtain ⟨bs3, -, ⟨A3, C3, B3, A3', C3', B3', e3, o3, o3', -⟩, -⟩ := ((PreF.get hp' 3 (by kernel_rfl)).2.1 _ O3.out).resolve_left (fun hx => hx h7)
              have t90 : au.tmps[90]?.getD undef = u 3 := hsl.out 3 90 (by kernel_rfl)
              rw [e3] at t90
              have c := cI A1 C1 A3 C3 A3' C3' w21 (Ow.px o1) (Ow.px o3) (Ow.px o3')
              refine step_plain rfl ?_
              go_simp
              refine c.mono ?_
              rintro e w22 ⟨q0, q1, q2, rfl, q3, q4, hb9⟩
              exact hK.out (vVolume rX rY rZ q0 rN q1) _ (bR_up hF hb9 7 (by omega) (by omega) _) (kF_own 7 (by omega) (by omega) O7.out (G7.out _) (gB.newV hF h7 rX rY rZ q1 q3 q4)) (fun j hj hf h => kF_up HST.out (fun M hM => HPX.out M _ _ hb9 hM) hb9 7 (by omega) (by omega) _ j hj h)
            ·
              intro u w21 au hsl hel hu hF hp' K hK
              refine step_plain rfl ?_
              go_simp
              exact hK.out (.pointer (some ⟨w21.heap.size, 0, none⟩)) _ (bR_al hF (Bx.new [.int .i64 0, .int .i64 0, .int .i64 0, .slice none 0 0] 29 w21)) (kF_ptr (by omega) (G8.out) O8.out hF.1.size) (fun j hj hf h => kF_al HST.out (by omega) _ j hj (fun e => by subst e; exact absurd (Eq.trans (Eq.symm (by kernel_rfl)) hf) Bool.false_ne_true) h)
            ·
              intro u w21 au hsl hel hu hF hp' K hK
              have h7 : u 9 = undef := (hu.out 9 (by decide) (.inl rfl)).trans (by kernel_rfl)
              obtain ⟨bs, hbs, ⟨q0, q1, q2, e7, o7, m7⟩, hap⟩ := ((PreF.get hp' 7 (by kernel_rfl)).2.1 _ O7.out).resolve_left (fun hx => hx h7)
              have t94 : au.tmps[94]?.getD undef = u 7 := hsl.out 7 94 (by kernel_rfl)
              rw [e7] at t94
              obtain ⟨Q, hQ, hQB⟩ := (PreF.get hp' 8 (by kernel_rfl)).2.2.1 rfl
              have t19 : au.tmps[19]?.getD undef = .pointer (some ⟨Q, 0, none⟩) := (hsl.out 8 19 (by kernel_rfl)).trans hQ
              have hx := (hF.2 Q hQ hQB).resolve_left (fun hx => hx h7)
              obtain ⟨y0, z0⟩ := hx 0 _ rfl
              obtain ⟨y1, z1⟩ := hx 1 _ rfl
              obtain ⟨y2, z2⟩ := hx 2 _ rfl
              obtain ⟨y3, z3⟩ := hx 3 _ rfl
              refine step_plain rfl ?_
              go_simp
              exact hK.out (.bool true) _ (bR_st (below_set4g hF.1 hQB _ _ _ _) (by simp [undef])) (kF_done (by omega) (G9.out) O9.out hQ hQB (by rw [HPY.out]; exact VoP.stored (A := 8) (u := u) o7 m7 hbs hap hQ hx)) (fun j hj hf h => kF_st (by omega) (by simp [undef]) j hj h)
          · intro u w30 hF hall
            obtain ⟨Q, hQ, hQB, hP⟩ := (hall 9 (by decide)).2.2.2 rfl
            rw [HPY.out] at hP
            obtain ⟨A, B, C, hst⟩ := VoP.st HS17.out hF.1 hP hQB
            have HSTT := hide hst
            clear hF hall hP hst
            simp only [rgPut, Act.put, hQ]
            clear hQ hQB
            go_simp
            go_wp2_with fail
            go_meet
            exact ⟨Q, A, B, C, rfl, HSTT.out⟩
        case rest =>
          obtain ⟨Qt, At, Bt, Ct, rfl, hst⟩ := hcut
          obtain ⟨v18, hwc⟩ : ∃ wn, wn = wc := ⟨_, rfl⟩
          rw [← hwc] at hst
          rw [← hwc]
          have HS18 := hide hst
          clear hst hwc HS17
          obtain ⟨i0, i1, i2, i3⟩ := HS18.out.im4 0 rfl
          obtain ⟨j0, j1, j2, j3⟩ := HS18.out.im4 4 rfl
          go_wp2_with fail
          refine (cE _ _ _ _ _ (HS18.out.nthO 0 rfl).px (HS18.out.nthO 5 rfl).px).mono ?_
          rintro e v19 ⟨rfl, hb⟩
          have HS19 := hide (HS18.out.next hb)
          clear HS18 hb i0 i1 i2 i3 j0 j1 j2 j3
          obtain ⟨i0, i1, i2, i3⟩ := HS19.out.im4 1 rfl
          go_wp2_with fail
          refine (cHg _ _ _ _ (HS19.out.nthO 1 rfl).i).mono ?_
          rintro e v20 ⟨rfl, hb⟩
          have HS20 := hide (HS19.out.next hb)
          clear HS19 hb i0 i1 i2 i3
          have HB := hide HS20.out.below
          clear HS20
          go_wp2_with fail
          go_ret
          exact ⟨rfl, HB.out⟩

end Go.Proofs.Ytpbeogepgjbacaa
