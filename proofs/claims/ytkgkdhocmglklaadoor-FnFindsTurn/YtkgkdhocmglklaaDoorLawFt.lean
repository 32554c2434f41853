/- A cube that is turned is found again: the law, walked. -/
import Derived.Test.YtkgkdhocmglklaaDoorBxr
import Derived.Test.YtkgkdhocmglklaaDoorVsm
import Derived.Test.YtkgkdhocmglklaaDoorMtj
import Derived.Test.YtkgkdhocmglklaaDoorMtf
import Derived.Test.YtkgkdhocmglklaaDoorRwb
import Derived.Deep.DeepCutAuto
namespace Go.Proofs.YtkgkdhocmglklaaDoor
open Go.RowKit

theorem turnC_any (X : Int) (n : Nat) (f : Nat → Int) (h : cubB X X X n f = true) (t0 t1 t2 t3 : Int) (ht : tkT (t0, t1, t2, t3) = true) (b cp : Nat) (w : World) (hr : Row b n f w) :
    Calls Tryd.prog 8 #[vVolume X X X (some ⟨b, 0, none⟩) n cp, tv t0 t1 t2 t3] w fun e w' => ∃ b' cp', e = .returned (vVolume X X X (some ⟨b', 0, none⟩) n cp') ∧ w.heap.size ≤ b' ∧ Row b' n (tvs (tgT (t0, t1, t2, t3) X) f n) w' ∧ Below w.heap.size w w' := by
  obtain ⟨-, -, hX, hn, hn2⟩ := cubB_parts h
  have h1 := cub_posF h
  have hB : tvB X X X n f t0 t1 t2 t3 = true := by
    unfold tvB
    rw [h]
    exact ht
  have hN : tvN X X X n f t0 t1 t2 t3 = n := by unfold tvN; rw [if_pos hB]
  have hX' : tvX X X X n f t0 t1 t2 t3 = X := by unfold tvX; rw [if_pos hB]
  refine (implTurnVolume_any X X X (some ⟨b, 0, none⟩) n cp f (by omega) t0 t1 t2 t3 w hr.px).mono ?_
  rw [hN, hX']
  rintro e w' ⟨a', cp', b', rfl, ho, hB', hb⟩
  rcases ho with ho | ⟨rfl, hr'⟩
  · omega
  · exact ⟨b', cp', rfl, hB'.resolve_left (by omega), hr', hb⟩
theorem finds_mat {t : T4} (ht : tkT t = true) {X : Int} {n : Nat} {v : Nat → Int} (hc : cubB X X X n v = true) (h3 : X ≤ 3) :
    ∃ T : Nat, T < 12 ∧ matV X X X n (tvs (tgT t X) v n) X X X n v 0 = ⟨(T : Int), 0, 0, 0, 0⟩ ∧ ∀ j, j < n → tvs (tgT (tqT T) X) v n j = tvs (tgT t X) v n j := by
  obtain ⟨-, -, hX, hn, -⟩ := cubB_parts hc
  have hct := cub_turnF ht hc
  have sqe : ∀ p, sq (mtC (tvs (tgT t X) v n) v X n) 0 1 p = ⟨(p : Int), 0, 0, 0, mtC (tvs (tgT t X) v n) v X n p 0 0 0⟩ := fun p => by
    unfold sq
    simp [Nat.mod_one]
  obtain ⟨T, hT, e, hj⟩ := finds ht hX.1 hn v (fun p hp => by
    rw [sqe]
    exact (cst_bd hX hn (cub_in hct) (cub_in (cub_turnF (tq_ok p (by omega)) hc)) 0 0 0 n (Nat.le_refl _)).1)
  refine ⟨T, hT, ?_, hj⟩
  rw [mat_yes (by
    unfold likB inB
    rw [hct, hc]
    simp
    omega)]
  exact e

set_option maxRecDepth 100000 in
set_option maxHeartbeats 8000000 in
theorem fnFindsTurn_walk (c0 : Option Addr) (n0 k0 : Nat) (w : World) (hy0 : Bytes c0 n0 w) (hT : Tbl w) :
    Calls Tryd.prog 3 #[.slice c0 n0 k0] w fun e w' => e = .returned (.bool true) ∧ Below w.heap.size w w' := by
  have b0 := big_any c0 n0 k0
  have HY0 := hide hy0
  have HT := hide hT
  clear hy0 hT
  go_enter Tryd.func3, Tryd.ntmps3
  go_wp2_with fail
  refine (b0 _).mono ?_
  rintro e w1 ⟨rfl, h1⟩
  obtain rfl := h1.symm
  by_cases g0 : 1048576 < n0
  · have d0 : decide (1048576 < n0) = true := by simp [g0]
    clear b0
    go_wp2_with fail
    go_ret
    exact ⟨rfl, Below.refl _ _⟩
  have d0 : decide (1048576 < n0) = false := by simp [g0]
  clear b0
  have cA := drawTurnVolume_any c0 n0 k0 w HY0.out
  go_wp2_with fail
  refine cA.mono ?_
  rintro e w5 ⟨V0, V1, V2, L, vf, vc, s0, s1, s2, s3, rfl, hL, ho, ic, hb⟩
  have HL := hide hL
  have HIC := hide ic
  obtain ⟨vb, hvo⟩ : ∃ vb, OwV vf vb L.length (fun k => .int .i64 (L.getD k 0)) w5 ∧ (L.length = 0 ∨ w.heap.size ≤ vb) := by
    by_cases h0 : L.length = 0
    · exact ⟨0, .inl h0, .inl h0⟩
    · obtain ⟨b', cp', e', hB', hr'⟩ := own_row ho h0
      cases e'
      rw [Nat.mul_one] at hr'
      exact ⟨b', hr'.v, .inr hB'⟩
  have HS5 := hide ((St.start w).own hb hvo.1 hvo.2)
  clear cA hL ho ic hb hvo d0 g0 HY0
  go_upto_region 4 with fail
  have HS6 := hide ((HS5.out.box [.int .i64 V0, .int .i64 V1, .int .i64 V2, .slice vf L.length vc] 26).box' [.int .i64 s0, .int .i64 s1, .int .i64 s2, .int .i64 s3] 28 (b := w5.heap.size + 1) (by simp))
  generalize hw6 : (w5.alloc (.cells [.int .i64 V0, .int .i64 V1, .int .i64 V2, .slice vf L.length vc].toArray 26)).alloc (.cells [.int .i64 s0, .int .i64 s1, .int .i64 s2, .int .i64 s3].toArray 28) = w6 at HS6
  clear hw6 HS5
  generalize w5.heap.size + 1 = C at *
  generalize w5.heap.size = V at *
  obtain ⟨v0, v1, v2, v3⟩ := HS6.out.im4 1 rfl
  obtain ⟨x0, x1, x2, x3⟩ := HS6.out.im4 0 rfl
  have cV := specTurnVolume_any V0 V1 V2 vf L.length vc (fun k => L.getD k 0) (by have := HL.out; omega) s0 s1 s2 s3 HIC.out.1 HIC.out.2.1 HIC.out.2.2.1 HIC.out.2.2.2 _ (HS6.out.nthO 0 rfl).px
  unfold VoR tvX at cV
  generalize tvN V0 V1 V2 L.length (fun k => L.getD k 0) s0 s1 s2 s3 = rn at cV
  generalize tvs (tg s0 s1 s2 s3 V0) (fun k => L.getD k 0) L.length = rs at cV
  cases hcb : tvB V0 V1 V2 L.length (fun k => L.getD k 0) s0 s1 s2 s3
  · rw [hcb] at cV
    simp only [Bool.false_eq_true, if_false] at cV
    go_wp2_with fail
    refine cV.mono ?_
    rintro e w20 ⟨xa, xc, xb, rfl, -, -, hb⟩
    have ff : (Instr.field 26 (vVolume 0 0 0 xa rn xc) 0).run Tryd.prog w20 = .ok (.int .i64 0) w20 := rfl
    have HB := hide (HS6.out.next hb).below
    clear cV hb HS6 v0 v1 v2 v3 x0 x1 x2 x3 hcb
    go_wp2_with fail
    go_ret
    exact ⟨rfl, HB.out⟩
  rw [hcb] at cV
  simp only [if_true] at cV
  obtain ⟨hcub, htk⟩ : cubB V0 V1 V2 L.length (fun k => L.getD k 0) = true ∧ tkT (s0, s1, s2, s3) = true := by
    unfold tvB at hcb
    simp only [Bool.and_eq_true] at hcb
    exact hcb
  clear hcb
  obtain ⟨e1, e2, hX, hn, hn2⟩ := cubB_parts hcub
  have hz0 : (V0 == 0) = false := by simp; omega
  have HE12 := hide (And.intro e1 e2)
  clear e1 e2 hX hn hn2
  go_wp2_with fail
  refine cV.mono ?_
  rintro e w20 ⟨xa, xc, xb, rfl, -, -, hb⟩
  have ff : (Instr.field 26 (vVolume V0 V0 V0 xa rn xc) 0).run Tryd.prog w20 = .ok (.int .i64 V0) w20 := rfl
  have HS20 := hide (HS6.out.next hb)
  clear cV hb HS6 v0 v1 v2 v3 x0 x1 x2 x3
  obtain ⟨v0, v1, v2, v3⟩ := HS20.out.im4 1 rfl
  by_cases h3 : 3 < V0
  · have HB := hide HS20.out.below
    clear HS20
    go_wp2_with fail
    go_ret
    exact ⟨rfl, HB.out⟩
  go_upto_region 6 with fail
  obtain ⟨e1, e2⟩ := HE12.out
  subst e1 e2
  have hn1 := cub_posF hcub
  obtain ⟨hvf, hrv⟩ : vf = some ⟨vb, 0, none⟩ ∧ Row vb L.length (fun k => L.getD k 0) w20 := by
    rcases HS20.out.nthO 0 rfl with h0 | h0
    · omega
    · exact h0
  subst hvf
  have hl : L.length ≤ 1048576 := by have := HL.out; omega
  have BV : Hid (Bx V [.int .i64 V0, .int .i64 V0, .int .i64 V0, .slice (some ⟨vb, 0, none⟩) L.length vc] w20) := fun j v hv => ⟨HS20.out.cell 1 rfl j hv, HS20.out.free 1 rfl j hv⟩
  have BC : Hid (Bx C [.int .i64 s0, .int .i64 s1, .int .i64 s2, .int .i64 s3] w20) := fun j v hv => ⟨HS20.out.cell 0 rfl j hv, HS20.out.free 0 rfl j hv⟩
  have HW := hide HS20.out.below
  have HRV := hide hrv
  obtain ⟨T, hT, hmat, hsame⟩ := finds_mat htk hcub (by omega)
  have HSM := hide hsame
  clear HS20 hrv hz0 ff HE12 HL v0 v1 v2 v3 h3 hsame
  generalize L.length = n at *
  generalize (fun k => L.getD k 0) = f at *
  have hcubA := cub_turnF htk hcub
  have cCp := fun wx hx => copyVolume_any V0 V0 V0 (some ⟨vb, 0, none⟩) n vc f hl hn1 wx hx
  have cTs := fun b cp wx hr => turnC_any V0 n f hcub s0 s1 s2 s3 htk b cp wx hr
  have cTT := fun b cp wx hr => turnC_any V0 n f hcub _ _ _ _ (tq_ok T hT) b cp wx hr
  have cSs := fun wx hr => turnS9_any V0 n f hcub s0 s1 s2 s3 HIC.out.1 HIC.out.2.1 HIC.out.2.2.1 HIC.out.2.2.2 htk (some ⟨vb, 0, none⟩) vc wx hr
  have cMt := fun a' cp' b' cp'' wx hTb hr hr' => implMatch_any V0 V0 V0 a' n cp' (tvs (tgT (s0, s1, s2, s3) V0) f n) hl V0 V0 V0 b' n cp'' f hl 0 wx hTb hr hr'
  rw [hmat] at cMt
  clear hcub hcubA hmat htk
  generalize hFT : tvs (tgT (tqT T) V0) f n = fT at *
  rw [show (tbA.getD (T * 4) 0, tbA.getD (T * 4 + 1) 0, tbA.getD (T * 4 + 2) 0, tbA.getD (T * 4 + 3) 0) = tqT T from rfl, hFT] at cTT
  clear hFT
  generalize tvs (tgT (s0, s1, s2, s3) V0) f n = fa at *
  obtain ⟨t0, ht0⟩ : ∃ t0, t0 = tbA.getD (T * 4) 0 := ⟨_, rfl⟩
  obtain ⟨t1, ht1⟩ : ∃ t1, t1 = tbA.getD (T * 4 + 1) 0 := ⟨_, rfl⟩
  obtain ⟨t2, ht2⟩ : ∃ t2, t2 = tbA.getD (T * 4 + 2) 0 := ⟨_, rfl⟩
  obtain ⟨t3, ht3⟩ : ∃ t3, t3 = tbA.getD (T * 4 + 3) 0 := ⟨_, rfl⟩
  rw [← ht0, ← ht1, ← ht2, ← ht3] at cTT
  have HTT := hide (And.intro ht0 (And.intro ht1 (And.intro ht2 ht3)))
  clear ht0 ht1 ht2 ht3
  go_cut [5] (fun sl wc => ∃ M, sl = .pointer (some ⟨M, 0, none⟩) ∧ Below w20.heap.size w20 wc ∧ ∃ b c, Bx M [.int .i64 V0, .int .i64 V0, .int .i64 V0, .slice (some ⟨b, 0, none⟩) n c] wc ∧ Row b n fa wc)
  case first =>
    obtain ⟨GX, hGX⟩ : ∃ G : Nat → Value → Prop, G = (fun j v => match j, v with | 0, v => v = vVolume V0 V0 V0 (some ⟨vb, 0, none⟩) n vc | 2, v => v = tv s0 s1 s2 s3 | _, _ => True) := ⟨_, rfl⟩
    obtain ⟨OX, hOX⟩ : ∃ O : Nat → Option (Nat → Int), O = (fun j => match j with | 1 => some f | 3 => some fa | _ => none) := ⟨_, rfl⟩
    have GX0 : Hid (∀ v, GX 0 v ↔ v = vVolume V0 V0 V0 (some ⟨vb, 0, none⟩) n vc) := fun v => by rw [hGX]; exact Iff.rfl
    have OX0 : Hid (OX 0 = none) := by rw [hOX]; rfl
    have GX1 : Hid (∀ v, GX 1 v) := fun v => by rw [hGX]; trivial
    have OX1 : Hid (OX 1 = some f) := by rw [hOX]; rfl
    have GX2 : Hid (∀ v, GX 2 v ↔ v = tv s0 s1 s2 s3) := fun v => by rw [hGX]; exact Iff.rfl
    have OX2 : Hid (OX 2 = none) := by rw [hOX]; rfl
    have GX3 : Hid (∀ v, GX 3 v) := fun v => by rw [hGX]; trivial
    have OX3 : Hid (OX 3 = some fa) := by rw [hOX]; rfl
    have GX4 : Hid (∀ v, GX 4 v) := fun v => by rw [hGX]; trivial
    have OX4 : Hid (OX 4 = none) := by rw [hOX]; rfl
    have GX5 : Hid (∀ v, GX 5 v) := fun v => by rw [hGX]; trivial
    have OX5 : Hid (OX 5 = none) := by rw [hOX]; rfl
    clear hGX hOX
    obtain ⟨PX, hPX⟩ : ∃ P : Nat → World → Prop, P = (fun M wx => ∃ b c, Bx M [.int .i64 V0, .int .i64 V0, .int .i64 V0, .slice (some ⟨b, 0, none⟩) n c] wx ∧ Row b n fa wx) := ⟨_, rfl⟩
    have HPX : Hid (∀ (M : Nat) (wx wy : World), Below wx.heap.size wx wy → PX M wx → PX M wy) := by
      intro M wx wy hb hp
      rw [hPX] at hp ⊢
      obtain ⟨b, c, h1, h2⟩ := hp
      exact ⟨b, c, h1.below hb h1.lt, h2.below hb (h2.lt hn1)⟩
    refine region_opsU (bR 4 5 (.int .i64 0) [.int .i64 0, .int .i64 0, .slice none 0 0] w20) (bF 4 5 w20 V0 n GX OX PX) (by kernel_rfl) (by kernel_rfl) (by kernel_rfl) ?_ ?_ ?_
    · refine ⟨(Below.refl _ _).drew, fun M hM => ?_⟩
      exact Value.noConfusion (Eq.trans (Eq.symm hM) (show _ = undef by kernel_rfl))
    · refine ⟨?_, ?_, ?_, ?_, ?_, ?_, trivial⟩
      · intro u w21 au hau hu hF hp' K hK
        have t3 : au.tmps[3]?.getD undef = .pointer (some ⟨V, 0, none⟩) := by rw [hau.out]; kernel_rfl
        have bx := BV.out.below hF.1 BV.out.lt
        obtain ⟨x0, -⟩ := bx 0 _ rfl
        obtain ⟨x1, -⟩ := bx 1 _ rfl
        obtain ⟨x2, -⟩ := bx 2 _ rfl
        obtain ⟨x3, -⟩ := bx 3 _ rfl
        clear bx
        refine step_plain rfl ?_
        go_simp
        exact hK.out (vVolume V0 V0 V0 (some ⟨vb, 0, none⟩) n vc) _ (bR_up hF (Below.refl _ _) 0 (by omega) (by omega) _) (bF_val 0 (by omega) (by omega) OX0.out ((GX0.out _).2 rfl)) (fun j hj _ h => bF_up hn1 (fun M => HPX.out M _ _ (Below.refl _ _)) (Below.refl _ _) 0 (by omega) (by omega) _ j hj h)
      · intro u w21 au hau hu hF hp' K hK
        have h0 : u 0 = vVolume V0 V0 V0 (some ⟨vb, 0, none⟩) n vc := (GX0.out _).1 (PreF.get hp' 0 (by kernel_rfl)).1
        have t24 : au.tmps[24]?.getD undef = u 0 := by rw [hau.out]; kernel_rfl
        rw [h0] at t24
        have hS : u 5 = undef := (hu.out 5 (by decide) (.inr (by kernel_rfl))).trans (by kernel_rfl)
        have c := cCp w21 ((HRV.out.below hF.1 (HRV.out.lt hn1)).px)
        refine step_plain rfl ?_
        go_simp
        refine c.mono ?_
        rintro e w22 ⟨b9, c9, rfl, hr9, hB9, hb9⟩
        exact hK.out (vVolume V0 V0 V0 (some ⟨b9, 0, none⟩) n c9) _ (bR_up hF hb9 1 (by omega) (by omega) _) (bF_vol 1 (by omega) (by omega) OX1.out GX1.out hF hS hB9 hr9) (fun j hj _ h => bF_up hn1 (fun M => HPX.out M _ _ hb9) hb9 1 (by omega) (by omega) _ j hj h)
      · intro u w21 au hau hu hF hp' K hK
        have t4 : au.tmps[4]?.getD undef = .pointer (some ⟨C, 0, none⟩) := by rw [hau.out]; kernel_rfl
        have bx := BC.out.below hF.1 BC.out.lt
        obtain ⟨x0, -⟩ := bx 0 _ rfl
        obtain ⟨x1, -⟩ := bx 1 _ rfl
        obtain ⟨x2, -⟩ := bx 2 _ rfl
        obtain ⟨x3, -⟩ := bx 3 _ rfl
        clear bx
        refine step_plain rfl ?_
        go_simp
        exact hK.out (tv s0 s1 s2 s3) _ (bR_up hF (Below.refl _ _) 2 (by omega) (by omega) _) (bF_val 2 (by omega) (by omega) OX2.out ((GX2.out _).2 rfl)) (fun j hj _ h => bF_up hn1 (fun M => HPX.out M _ _ (Below.refl _ _)) (Below.refl _ _) 2 (by omega) (by omega) _ j hj h)
      · intro u w21 au hau hu hF hp' K hK
        have hS : u 5 = undef := (hu.out 5 (by decide) (.inr (by kernel_rfl))).trans (by kernel_rfl)
        obtain ⟨b8, c8, h0, r8, -, -⟩ := ((PreF.get hp' 1 (by kernel_rfl)).2.1 f OX1.out).resolve_left (fun h => h hS)
        have t25 : au.tmps[25]?.getD undef = u 1 := by rw [hau.out]; kernel_rfl
        rw [h0] at t25
        have h2 : u 2 = tv s0 s1 s2 s3 := (GX2.out _).1 (PreF.get hp' 2 (by kernel_rfl)).1
        have t26 : au.tmps[26]?.getD undef = u 2 := by rw [hau.out]; kernel_rfl
        rw [h2] at t26
        have c := cTs b8 c8 w21 r8
        refine step_plain rfl ?_
        go_simp
        refine c.mono ?_
        rintro e w22 ⟨b9, c9, rfl, hB9, hr9, hb9⟩
        exact hK.out (vVolume V0 V0 V0 (some ⟨b9, 0, none⟩) n c9) _ (bR_up hF hb9 3 (by omega) (by omega) _) (bF_vol 3 (by omega) (by omega) OX3.out GX3.out hF hS hB9 hr9) (fun j hj _ h => bF_up hn1 (fun M => HPX.out M _ _ hb9) hb9 3 (by omega) (by omega) _ j hj h)
      · intro u w21 au hau hu hF hp' K hK
        refine step_plain rfl ?_
        go_simp
        exact hK.out (.pointer (some ⟨w21.heap.size, 0, none⟩)) _ (bR_al hF (Bx.new [.int .i64 0, .int .i64 0, .int .i64 0, .slice none 0 0] 26 w21)) (bF_ptr (by omega) GX4.out OX4.out hF.1.size) (fun j hj hf h => bF_al hn1 (by omega) _ j hj (fun e => by subst e; exact absurd (Eq.trans (Eq.symm (by kernel_rfl)) hf) Bool.false_ne_true) h)
      · intro u w21 au hau hu hF hp' K hK
        have hS : u 5 = undef := (hu.out 5 (by decide) (.inl rfl)).trans (by kernel_rfl)
        obtain ⟨M, hA, hBM⟩ := (PreF.get hp' 4 (by kernel_rfl)).2.2.1 rfl
        have hbx := (hF.2 M hA hBM).resolve_left (fun h => h hS)
        have t5 : au.tmps[5]?.getD undef = u 4 := by rw [hau.out]; kernel_rfl
        rw [hA] at t5
        obtain ⟨b8, c8, h5, r8, hB8, hM8⟩ := ((PreF.get hp' 3 (by kernel_rfl)).2.1 fa OX3.out).resolve_left (fun h => h hS)
        have HMb := hide (hM8 M hA)
        clear hM8
        have t27 : au.tmps[27]?.getD undef = u 3 := by rw [hau.out]; kernel_rfl
        rw [h5] at t27
        obtain ⟨x0, y0⟩ := hbx 0 _ rfl
        obtain ⟨x1, y1⟩ := hbx 1 _ rfl
        obtain ⟨x2, y2⟩ := hbx 2 _ rfl
        obtain ⟨x3, y3⟩ := hbx 3 _ rfl
        refine step_plain rfl ?_
        go_simp
        exact hK.out (.bool true) _ (bR_st (below_set4 hF.1 hBM _ _ _ _) (by simp [undef])) (bF_done (by omega) GX5.out OX5.out hA hBM (by rw [hPX]; exact ⟨b8, c8, hbx.to4 _ _ _ _, r8.far4 HMb.out _ _ _ _⟩)) (fun j hj _ h => bF_st (by omega) (by simp [undef]) j hj h)
    · intro u w30 hF hall
      obtain ⟨M9, hA, hBM, hp⟩ := (hall 5 (by decide)).2.2.2 rfl
      rw [hPX] at hp
      have HE9 := hide (And.intro hF.1 hp)
      clear hF hall hp hBM
      simp only [rgPut, Act.put, hA]
      clear hA
      go_simp
      go_wp2_with fail
      go_meet
      exact ⟨M9, rfl, HE9.out⟩
  case rest =>
    obtain ⟨MA, rfl, hwA, bA, cA, bxA, rA⟩ := hcut
    obtain ⟨wA, hwc⟩ : ∃ wA, wA = wc := ⟨_, rfl⟩
    rw [← hwc] at hwA bxA rA
    rw [← hwc]
    clear hwc
    have HWA := hide hwA
    have BA := hide bxA
    have RA := hide rA
    clear hwA bxA rA
    have BV' := hide (BV.out.below HWA.out BV.out.lt)
    have BC' := hide (BC.out.below HWA.out BC.out.lt)
    have HRV' := hide (HRV.out.below HWA.out (HRV.out.lt hn1))
    have HWw := hide (HW.out.trans (HWA.out.mono HW.out.size))
    have HTB := hide (HT.out.below HWw.out (Nat.le_refl _))
    clear BV BC HRV HW HWA cTs HT
    go_upto_region 7 with fail
    go_cut [6] (fun sl wc => ∃ M, sl = .pointer (some ⟨M, 0, none⟩) ∧ Below wA.heap.size wA wc ∧ Bx M (cF ⟨(T : Int), 0, 0, 0, 0⟩) wc)
    case first =>
      obtain ⟨GY, hGY⟩ : ∃ G : Nat → Value → Prop, G = (fun j v => match j, v with | 0, v => v = vVolume V0 V0 V0 (some ⟨bA, 0, none⟩) n cA | 1, v => v = vVolume V0 V0 V0 (some ⟨vb, 0, none⟩) n vc | 3, v => v = vF ⟨(T : Int), 0, 0, 0, 0⟩ | _, _ => True) := ⟨_, rfl⟩
      obtain ⟨OY, hOY⟩ : ∃ O : Nat → Option (Nat → Int), O = (fun j => match j with | 2 => some f | _ => none) := ⟨_, rfl⟩
      have GY0 : Hid (∀ v, GY 0 v ↔ v = vVolume V0 V0 V0 (some ⟨bA, 0, none⟩) n cA) := fun v => by rw [hGY]; exact Iff.rfl
      have OY0 : Hid (OY 0 = none) := by rw [hOY]; rfl
      have GY1 : Hid (∀ v, GY 1 v ↔ v = vVolume V0 V0 V0 (some ⟨vb, 0, none⟩) n vc) := fun v => by rw [hGY]; exact Iff.rfl
      have OY1 : Hid (OY 1 = none) := by rw [hOY]; rfl
      have GY2 : Hid (∀ v, GY 2 v) := fun v => by rw [hGY]; trivial
      have OY2 : Hid (OY 2 = some f) := by rw [hOY]; rfl
      have GY3 : Hid (∀ v, GY 3 v ↔ v = vF ⟨(T : Int), 0, 0, 0, 0⟩) := fun v => by rw [hGY]; exact Iff.rfl
      have OY3 : Hid (OY 3 = none) := by rw [hOY]; rfl
      have GY4 : Hid (∀ v, GY 4 v) := fun v => by rw [hGY]; trivial
      have OY4 : Hid (OY 4 = none) := by rw [hOY]; rfl
      have GY5 : Hid (∀ v, GY 5 v) := fun v => by rw [hGY]; trivial
      have OY5 : Hid (OY 5 = none) := by rw [hOY]; rfl
      clear hGY hOY
      obtain ⟨PY, hPY⟩ : ∃ P : Nat → World → Prop, P = (fun M wx => Bx M (cF ⟨(T : Int), 0, 0, 0, 0⟩) wx) := ⟨_, rfl⟩
      have HPY : Hid (∀ (M : Nat) (wx wy : World), Below wx.heap.size wx wy → PY M wx → PY M wy) := by
        intro M wx wy hb hp
        rw [hPY] at hp ⊢
        exact hp.below hb hp.lt
      refine region_opsU (bR 4 5 (.int .i64 0) [.int .i64 0, .int .i64 0, .int .i64 0, .int .i64 0] wA) (bF 4 5 wA V0 n GY OY PY) (by kernel_rfl) (by kernel_rfl) (by kernel_rfl) ?_ ?_ ?_
      · refine ⟨(Below.refl _ _).drew, fun M hM => ?_⟩
        exact Value.noConfusion (Eq.trans (Eq.symm hM) (show _ = undef by kernel_rfl))
      · refine ⟨?_, ?_, ?_, ?_, ?_, ?_, trivial⟩
        · intro u w21 au hau hu hF hp' K hK
          have t5 : au.tmps[5]?.getD undef = .pointer (some ⟨MA, 0, none⟩) := by rw [hau.out]; kernel_rfl
          have bx := BA.out.below hF.1 BA.out.lt
          obtain ⟨x0, -⟩ := bx 0 _ rfl
          obtain ⟨x1, -⟩ := bx 1 _ rfl
          obtain ⟨x2, -⟩ := bx 2 _ rfl
          obtain ⟨x3, -⟩ := bx 3 _ rfl
          clear bx
          refine step_plain rfl ?_
          go_simp
          exact hK.out (vVolume V0 V0 V0 (some ⟨bA, 0, none⟩) n cA) _ (bR_up hF (Below.refl _ _) 0 (by omega) (by omega) _) (bF_val 0 (by omega) (by omega) OY0.out ((GY0.out _).2 rfl)) (fun j hj _ h => bF_up hn1 (fun M => HPY.out M _ _ (Below.refl _ _)) (Below.refl _ _) 0 (by omega) (by omega) _ j hj h)
        · intro u w21 au hau hu hF hp' K hK
          have t3 : au.tmps[3]?.getD undef = .pointer (some ⟨V, 0, none⟩) := by rw [hau.out]; kernel_rfl
          have bx := BV'.out.below hF.1 BV'.out.lt
          obtain ⟨x0, -⟩ := bx 0 _ rfl
          obtain ⟨x1, -⟩ := bx 1 _ rfl
          obtain ⟨x2, -⟩ := bx 2 _ rfl
          obtain ⟨x3, -⟩ := bx 3 _ rfl
          clear bx
          refine step_plain rfl ?_
          go_simp
          exact hK.out (vVolume V0 V0 V0 (some ⟨vb, 0, none⟩) n vc) _ (bR_up hF (Below.refl _ _) 1 (by omega) (by omega) _) (bF_val 1 (by omega) (by omega) OY1.out ((GY1.out _).2 rfl)) (fun j hj _ h => bF_up hn1 (fun M => HPY.out M _ _ (Below.refl _ _)) (Below.refl _ _) 1 (by omega) (by omega) _ j hj h)
        · intro u w21 au hau hu hF hp' K hK
          have h1 : u 1 = vVolume V0 V0 V0 (some ⟨vb, 0, none⟩) n vc := (GY1.out _).1 (PreF.get hp' 1 (by kernel_rfl)).1
          have t29 : au.tmps[29]?.getD undef = u 1 := by rw [hau.out]; kernel_rfl
          rw [h1] at t29
          have hS : u 5 = undef := (hu.out 5 (by decide) (.inr (by kernel_rfl))).trans (by kernel_rfl)
          have c := cCp w21 ((HRV'.out.below hF.1 (HRV'.out.lt hn1)).px)
          refine step_plain rfl ?_
          go_simp
          refine c.mono ?_
          rintro e w22 ⟨b9, c9, rfl, hr9, hB9, hb9⟩
          exact hK.out (vVolume V0 V0 V0 (some ⟨b9, 0, none⟩) n c9) _ (bR_up hF hb9 2 (by omega) (by omega) _) (bF_vol 2 (by omega) (by omega) OY2.out GY2.out hF hS hB9 hr9) (fun j hj _ h => bF_up hn1 (fun M => HPY.out M _ _ hb9) hb9 2 (by omega) (by omega) _ j hj h)
        · intro u w21 au hau hu hF hp' K hK
          have hS : u 5 = undef := (hu.out 5 (by decide) (.inr (by kernel_rfl))).trans (by kernel_rfl)
          obtain ⟨b8, c8, h0, r8, -, -⟩ := ((PreF.get hp' 2 (by kernel_rfl)).2.1 f OY2.out).resolve_left (fun h => h hS)
          have t30 : au.tmps[30]?.getD undef = u 2 := by rw [hau.out]; kernel_rfl
          rw [h0] at t30
          have h0 : u 0 = vVolume V0 V0 V0 (some ⟨bA, 0, none⟩) n cA := (GY0.out _).1 (PreF.get hp' 0 (by kernel_rfl)).1
          have t28 : au.tmps[28]?.getD undef = u 0 := by rw [hau.out]; kernel_rfl
          rw [h0] at t28
          have c := cMt (some ⟨bA, 0, none⟩) cA (some ⟨b8, 0, none⟩) c8 w21 (HTB.out.below hF.1 (Nat.le_refl _)) (RA.out.below hF.1 (RA.out.lt hn1)).px r8.px
          refine step_plain rfl ?_
          go_simp
          refine c.mono ?_
          rintro e w22 ⟨rfl, hb9⟩
          exact hK.out (vF ⟨(T : Int), 0, 0, 0, 0⟩) _ (bR_up hF hb9 3 (by omega) (by omega) _) (bF_val 3 (by omega) (by omega) OY3.out ((GY3.out _).2 rfl)) (fun j hj _ h => bF_up hn1 (fun M => HPY.out M _ _ hb9) hb9 3 (by omega) (by omega) _ j hj h)
        · intro u w21 au hau hu hF hp' K hK
          refine step_plain rfl ?_
          go_simp
          exact hK.out (.pointer (some ⟨w21.heap.size, 0, none⟩)) _ (bR_al hF (Bx.new [.int .i64 0, .int .i64 0, .int .i64 0, .int .i64 0, .int .i64 0] 34 w21)) (bF_ptr (by omega) GY4.out OY4.out hF.1.size) (fun j hj hf h => bF_al hn1 (by omega) _ j hj (fun e => by subst e; exact absurd (Eq.trans (Eq.symm (by kernel_rfl)) hf) Bool.false_ne_true) h)
        · intro u w21 au hau hu hF hp' K hK
          have hS : u 5 = undef := (hu.out 5 (by decide) (.inl rfl)).trans (by kernel_rfl)
          obtain ⟨M, hA, hBM⟩ := (PreF.get hp' 4 (by kernel_rfl)).2.2.1 rfl
          have hbx := (hF.2 M hA hBM).resolve_left (fun h => h hS)
          have t6 : au.tmps[6]?.getD undef = u 4 := by rw [hau.out]; kernel_rfl
          rw [hA] at t6
          have h3 : u 3 = vF ⟨(T : Int), 0, 0, 0, 0⟩ := (GY3.out _).1 (PreF.get hp' 3 (by kernel_rfl)).1
          have t31 : au.tmps[31]?.getD undef = u 3 := by rw [hau.out]; kernel_rfl
          rw [h3] at t31
          obtain ⟨x0, y0⟩ := hbx 0 _ rfl
          obtain ⟨x1, y1⟩ := hbx 1 _ rfl
          obtain ⟨x2, y2⟩ := hbx 2 _ rfl
          obtain ⟨x3, y3⟩ := hbx 3 _ rfl
          obtain ⟨x4, y4⟩ := hbx 4 _ rfl
          refine step_plain rfl ?_
          go_simp
          exact hK.out (.bool true) _ (bR_st (((((hF.1.setCell (p := ⟨M, 0, none⟩) hBM _).setCell (p := ⟨M, 1, none⟩) hBM _).setCell (p := ⟨M, 2, none⟩) hBM _).setCell (p := ⟨M, 3, none⟩) hBM _).setCell (p := ⟨M, 4, none⟩) hBM _) (by simp [undef])) (bF_done (by omega) GY5.out OY5.out hA hBM (by rw [hPY]; exact hbx.to5 _ _ _ _ _)) (fun j hj _ h => bF_st (by omega) (by simp [undef]) j hj h)
      · intro u w30 hF hall
        obtain ⟨M9, hA, hBM, hp⟩ := (hall 5 (by decide)).2.2.2 rfl
        rw [hPY] at hp
        have HE9 := hide (And.intro hF.1 hp)
        clear hF hall hp hBM
        simp only [rgPut, Act.put, hA]
        clear hA
        go_simp
        go_wp2_with fail
        go_meet
        exact ⟨M9, rfl, HE9.out⟩
    case rest =>
      obtain ⟨MF, rfl, hwF, bxF⟩ := hcut
      obtain ⟨wF, hwc⟩ : ∃ wF, wF = wc := ⟨_, rfl⟩
      rw [← hwc] at hwF bxF
      rw [← hwc]
      clear hwc
      have HWF := hide hwF
      have BF := hide bxF
      clear hwF bxF
      have BV := hide (BV'.out.below HWF.out BV'.out.lt)
      have BC := hide (BC'.out.below HWF.out BC'.out.lt)
      have HRV := hide (HRV'.out.below HWF.out (HRV'.out.lt hn1))
      have HW := hide (HWw.out.trans (HWF.out.mono HWw.out.size))
      have HTF := hide (HTB.out.below HWF.out (Nat.le_refl _))
      clear BV' BC' HRV' HWw HWF BA RA cMt HTB
      obtain ⟨y0, -⟩ := BF.out 0 _ rfl
      obtain ⟨y1, -⟩ := BF.out 1 _ rfl
      obtain ⟨y2, -⟩ := BF.out 2 _ rfl
      obtain ⟨y3, -⟩ := BF.out 3 _ rfl
      obtain ⟨y4, -⟩ := BF.out 4 _ rfl
      have hT0 : ¬ (T : Int) < 0 := by omega
      have hT11 : ¬ 11 < (T : Int) := by omega
      go_upto_region 10 with fail
      clear y0 y1 y2 y3 y4
      obtain ⟨H, hH⟩ : ∃ H : Nat → Value → World → Prop, H = (fun j v wx => match j with | 0 => v = vVolume V0 V0 V0 (some ⟨vb, 0, none⟩) n vc | 1 => ∃ b cp, v = vVolume V0 V0 V0 (some ⟨b, 0, none⟩) n cp ∧ Row b n f wx | 2 => ∃ tt tc, v = .slice (some ⟨tt, 0, none⟩) 12 tc ∧ Row tt (12 * 4) (fun k => tbA.getD k 0) wx | 3 => v = .pointer (some ⟨MF, 0, none⟩) | 4 => v = .int .i64 (T : Int) | 5 => ∃ tt, v = .pointer (some ⟨tt, T * 4, none⟩) ∧ Row tt (12 * 4) (fun k => tbA.getD k 0) wx | 6 => v = tv t0 t1 t2 t3 | 7 => ∃ b cp, v = vVolume V0 V0 V0 (some ⟨b, 0, none⟩) n cp ∧ Row b n fT wx | 8 => v = vVolume V0 V0 V0 (some ⟨vb, 0, none⟩) n vc | 9 => v = tv s0 s1 s2 s3 | 10 => ∃ b cp, v = vVolume V0 V0 V0 (some ⟨b, 0, none⟩) n cp ∧ Row b n fa wx | 11 => v = .bool true | 12 => v = .bool true | _ => True) := ⟨_, rfl⟩
      have HUP : Hid (∀ (wx wy : World), Below wx.heap.size wx wy → ∀ j v, H j v wx → H j v wy) := by
        intro wx wy hb j v h
        rw [hH] at h ⊢
        match j, h with
        | 0, h => exact h
        | 1, h => obtain ⟨b, cp, e, hr⟩ := h; exact ⟨b, cp, e, hr.below hb (hr.lt hn1)⟩
        | 2, h => obtain ⟨b, cp, e, hr⟩ := h; exact ⟨b, cp, e, hr.below hb (hr.lt (by omega))⟩
        | 3, h => exact h
        | 4, h => exact h
        | 5, h => obtain ⟨b, e, hr⟩ := h; exact ⟨b, e, hr.below hb (hr.lt (by omega))⟩
        | 6, h => exact h
        | 7, h => obtain ⟨b, cp, e, hr⟩ := h; exact ⟨b, cp, e, hr.below hb (hr.lt hn1)⟩
        | 8, h => exact h
        | 9, h => exact h
        | 10, h => obtain ⟨b, cp, e, hr⟩ := h; exact ⟨b, cp, e, hr.below hb (hr.lt hn1)⟩
        | 11, h => exact h
        | 12, h => exact h
        | _ + 13, _ => trivial
      have H0 : Hid (∀ v wx, H 0 v wx ↔ v = vVolume V0 V0 V0 (some ⟨vb, 0, none⟩) n vc) := fun v wx => by rw [hH]; exact Iff.rfl
      have H1 : Hid (∀ v wx, H 1 v wx ↔ ∃ b cp, v = vVolume V0 V0 V0 (some ⟨b, 0, none⟩) n cp ∧ Row b n f wx) := fun v wx => by rw [hH]; exact Iff.rfl
      have H2 : Hid (∀ v wx, H 2 v wx ↔ ∃ tt tc, v = .slice (some ⟨tt, 0, none⟩) 12 tc ∧ Row tt (12 * 4) (fun k => tbA.getD k 0) wx) := fun v wx => by rw [hH]; exact Iff.rfl
      have H3 : Hid (∀ v wx, H 3 v wx ↔ v = .pointer (some ⟨MF, 0, none⟩)) := fun v wx => by rw [hH]; exact Iff.rfl
      have H4 : Hid (∀ v wx, H 4 v wx ↔ v = .int .i64 (T : Int)) := fun v wx => by rw [hH]; exact Iff.rfl
      have H5 : Hid (∀ v wx, H 5 v wx ↔ ∃ tt, v = .pointer (some ⟨tt, T * 4, none⟩) ∧ Row tt (12 * 4) (fun k => tbA.getD k 0) wx) := fun v wx => by rw [hH]; exact Iff.rfl
      have H6 : Hid (∀ v wx, H 6 v wx ↔ v = tv t0 t1 t2 t3) := fun v wx => by rw [hH]; exact Iff.rfl
      have H7 : Hid (∀ v wx, H 7 v wx ↔ ∃ b cp, v = vVolume V0 V0 V0 (some ⟨b, 0, none⟩) n cp ∧ Row b n fT wx) := fun v wx => by rw [hH]; exact Iff.rfl
      have H8 : Hid (∀ v wx, H 8 v wx ↔ v = vVolume V0 V0 V0 (some ⟨vb, 0, none⟩) n vc) := fun v wx => by rw [hH]; exact Iff.rfl
      have H9 : Hid (∀ v wx, H 9 v wx ↔ v = tv s0 s1 s2 s3) := fun v wx => by rw [hH]; exact Iff.rfl
      have H10 : Hid (∀ v wx, H 10 v wx ↔ ∃ b cp, v = vVolume V0 V0 V0 (some ⟨b, 0, none⟩) n cp ∧ Row b n fa wx) := fun v wx => by rw [hH]; exact Iff.rfl
      have H11 : Hid (∀ v wx, H 11 v wx ↔ v = .bool true) := fun v wx => by rw [hH]; exact Iff.rfl
      have H12 : Hid (∀ v wx, H 12 v wx ↔ v = .bool true) := fun v wx => by rw [hH]; exact Iff.rfl
      clear hH
      refine region_ops (fun w' => Below wF.heap.size wF w') (hF H) (by kernel_rfl) (by kernel_rfl) (by kernel_rfl) (Below.refl _ _).drew ?_ ?_
      · refine ⟨?_, ?_, ?_, ?_, ?_, ?_, ?_, ?_, ?_, ?_, ?_, ?_, ?_, trivial⟩
        · intro u w21 au hau hu hF' hp' K hK
          have t3 : au.tmps[3]?.getD undef = .pointer (some ⟨V, 0, none⟩) := by rw [hau.out]; kernel_rfl
          have bx := BV.out.below hF' BV.out.lt
          obtain ⟨x0, -⟩ := bx 0 _ rfl
          obtain ⟨x1, -⟩ := bx 1 _ rfl
          obtain ⟨x2, -⟩ := bx 2 _ rfl
          obtain ⟨x3, -⟩ := bx 3 _ rfl
          clear bx
          refine step_plain rfl ?_
          go_simp
          exact hK.out (vVolume V0 V0 V0 (some ⟨vb, 0, none⟩) n vc) _ hF' (hF_val 0 ((H0.out _ _).2 rfl)) (fun j hj _ h => hF_up (HUP.out _ _ (Below.refl _ _)) 0 _ j hj h)
        · intro u w21 au hau hu hF' hp' K hK
          have h0 : u 0 = vVolume V0 V0 V0 (some ⟨vb, 0, none⟩) n vc := (H0.out _ _).1 (PreF.get hp' 0 (by kernel_rfl))
          have t60 : au.tmps[60]?.getD undef = u 0 := by rw [hau.out]; kernel_rfl
          rw [h0] at t60
          have c := cCp w21 ((HRV.out.below hF' (HRV.out.lt hn1)).px)
          refine step_plain rfl ?_
          go_simp
          refine c.mono ?_
          rintro e w22 ⟨b9, c9, rfl, hr9, hB9, hb9⟩
          exact hK.out (vVolume V0 V0 V0 (some ⟨b9, 0, none⟩) n c9) _ (hF'.trans (hb9.mono hF'.size)) (hF_val 1 ((H1.out _ _).2 ⟨b9, c9, rfl, hr9⟩)) (fun j hj _ h => hF_up (HUP.out _ _ hb9) 1 _ j hj h)
        · intro u w21 au hau hu hF' hp' K hK
          have c := (implTurns_any w21 (HTF.out.below hF' (Nat.le_refl _))).mono (fun e u hu => hu.row)
          refine step_plain rfl ?_
          go_simp
          refine c.mono ?_
          rintro e w22 ⟨b9, c9, rfl, hB9, hr9, hb9⟩
          exact hK.out (.slice (some ⟨b9, 0, none⟩) 12 c9) _ (hF'.trans (hb9.mono hF'.size)) (hF_val 2 ((H2.out _ _).2 ⟨b9, c9, rfl, hr9⟩)) (fun j hj _ h => hF_up (HUP.out _ _ hb9) 2 _ j hj h)
        · intro u w21 au hau hu hF' hp' K hK
          have t6 : au.tmps[6]?.getD undef = .pointer (some ⟨MF, 0, none⟩) := by rw [hau.out]; kernel_rfl
          refine step_plain rfl ?_
          go_simp
          exact hK.out (.pointer (some ⟨MF, 0, none⟩)) _ hF' (hF_val 3 ((H3.out _ _).2 rfl)) (fun j hj _ h => hF_up (HUP.out _ _ (Below.refl _ _)) 3 _ j hj h)
        · intro u w21 au hau hu hF' hp' K hK
          have h3 : u 3 = .pointer (some ⟨MF, 0, none⟩) := (H3.out _ _).1 (PreF.get hp' 3 (by kernel_rfl))
          have t63 : au.tmps[63]?.getD undef = u 3 := by rw [hau.out]; kernel_rfl
          rw [h3] at t63
          have bx := BF.out.below hF' BF.out.lt
          obtain ⟨x0, -⟩ := bx 0 _ rfl
          clear bx
          refine step_plain rfl ?_
          go_simp
          exact hK.out (.int .i64 (T : Int)) _ hF' (hF_val 4 ((H4.out _ _).2 rfl)) (fun j hj _ h => hF_up (HUP.out _ _ (Below.refl _ _)) 4 _ j hj h)
        · intro u w21 au hau hu hF' hp' K hK
          obtain ⟨b8, c8, h2, r8⟩ := (H2.out _ _).1 (PreF.get hp' 2 (by kernel_rfl))
          have t62 : au.tmps[62]?.getD undef = u 2 := by rw [hau.out]; kernel_rfl
          rw [h2] at t62
          have h4 : u 4 = .int .i64 (T : Int) := (H4.out _ _).1 (PreF.get hp' 4 (by kernel_rfl))
          have t64 : au.tmps[64]?.getD undef = u 4 := by rw [hau.out]; kernel_rfl
          rw [h4] at t64
          have hT12 : (T : Int) < 12 := by omega
          refine step_plain rfl ?_
          go_simp
          exact hK.out (.pointer (some ⟨b8, T * 4, none⟩)) _ hF' (hF_val 5 ((H5.out _ _).2 ⟨b8, rfl, r8⟩)) (fun j hj _ h => hF_up (HUP.out _ _ (Below.refl _ _)) 5 _ j hj h)
        · intro u w21 au hau hu hF' hp' K hK
          obtain ⟨b8, h5, r8⟩ := (H5.out _ _).1 (PreF.get hp' 5 (by kernel_rfl))
          have t65 : au.tmps[65]?.getD undef = u 5 := by rw [hau.out]; kernel_rfl
          rw [h5] at t65
          obtain ⟨e0, e1, e2, e3⟩ := HTT.out
          have x0 : w21.cell? ⟨b8, T * 4, none⟩ = some (.int .i64 t0) := by rw [e0]; exact (r8 (T * 4) (by omega)).1
          have x1 : w21.cell? ⟨b8, T * 4 + 1, none⟩ = some (.int .i64 t1) := by rw [e1]; exact (r8 (T * 4 + 1) (by omega)).1
          have x2 : w21.cell? ⟨b8, T * 4 + 2, none⟩ = some (.int .i64 t2) := by rw [e2]; exact (r8 (T * 4 + 2) (by omega)).1
          have x3 : w21.cell? ⟨b8, T * 4 + 3, none⟩ = some (.int .i64 t3) := by rw [e3]; exact (r8 (T * 4 + 3) (by omega)).1
          clear e0 e1 e2 e3
          refine step_plain rfl ?_
          go_simp
          exact hK.out (tv t0 t1 t2 t3) _ hF' (hF_val 6 ((H6.out _ _).2 rfl)) (fun j hj _ h => hF_up (HUP.out _ _ (Below.refl _ _)) 6 _ j hj h)
        · intro u w21 au hau hu hF' hp' K hK
          obtain ⟨b8, c8, h1, r8⟩ := (H1.out _ _).1 (PreF.get hp' 1 (by kernel_rfl))
          have t61 : au.tmps[61]?.getD undef = u 1 := by rw [hau.out]; kernel_rfl
          rw [h1] at t61
          have h6 : u 6 = tv t0 t1 t2 t3 := (H6.out _ _).1 (PreF.get hp' 6 (by kernel_rfl))
          have t66 : au.tmps[66]?.getD undef = u 6 := by rw [hau.out]; kernel_rfl
          rw [h6] at t66
          have c := cTT b8 c8 w21 r8
          refine step_plain rfl ?_
          go_simp
          refine c.mono ?_
          rintro e w22 ⟨b9, c9, rfl, hB9, hr9, hb9⟩
          exact hK.out (vVolume V0 V0 V0 (some ⟨b9, 0, none⟩) n c9) _ (hF'.trans (hb9.mono hF'.size)) (hF_val 7 ((H7.out _ _).2 ⟨b9, c9, rfl, hr9⟩)) (fun j hj _ h => hF_up (HUP.out _ _ hb9) 7 _ j hj h)
        · intro u w21 au hau hu hF' hp' K hK
          have t3 : au.tmps[3]?.getD undef = .pointer (some ⟨V, 0, none⟩) := by rw [hau.out]; kernel_rfl
          have bx := BV.out.below hF' BV.out.lt
          obtain ⟨x0, -⟩ := bx 0 _ rfl
          obtain ⟨x1, -⟩ := bx 1 _ rfl
          obtain ⟨x2, -⟩ := bx 2 _ rfl
          obtain ⟨x3, -⟩ := bx 3 _ rfl
          clear bx
          refine step_plain rfl ?_
          go_simp
          exact hK.out (vVolume V0 V0 V0 (some ⟨vb, 0, none⟩) n vc) _ hF' (hF_val 8 ((H8.out _ _).2 rfl)) (fun j hj _ h => hF_up (HUP.out _ _ (Below.refl _ _)) 8 _ j hj h)
        · intro u w21 au hau hu hF' hp' K hK
          have t4 : au.tmps[4]?.getD undef = .pointer (some ⟨C, 0, none⟩) := by rw [hau.out]; kernel_rfl
          have bx := BC.out.below hF' BC.out.lt
          obtain ⟨x0, -⟩ := bx 0 _ rfl
          obtain ⟨x1, -⟩ := bx 1 _ rfl
          obtain ⟨x2, -⟩ := bx 2 _ rfl
          obtain ⟨x3, -⟩ := bx 3 _ rfl
          clear bx
          refine step_plain rfl ?_
          go_simp
          exact hK.out (tv s0 s1 s2 s3) _ hF' (hF_val 9 ((H9.out _ _).2 rfl)) (fun j hj _ h => hF_up (HUP.out _ _ (Below.refl _ _)) 9 _ j hj h)
        · intro u w21 au hau hu hF' hp' K hK
          have h8 : u 8 = vVolume V0 V0 V0 (some ⟨vb, 0, none⟩) n vc := (H8.out _ _).1 (PreF.get hp' 8 (by kernel_rfl))
          have t68 : au.tmps[68]?.getD undef = u 8 := by rw [hau.out]; kernel_rfl
          rw [h8] at t68
          have h9 : u 9 = tv s0 s1 s2 s3 := (H9.out _ _).1 (PreF.get hp' 9 (by kernel_rfl))
          have t69 : au.tmps[69]?.getD undef = u 9 := by rw [hau.out]; kernel_rfl
          rw [h9] at t69
          have c := cSs w21 ((HRV.out.below hF' (HRV.out.lt hn1)).px)
          refine step_plain rfl ?_
          go_simp
          refine c.mono ?_
          rintro e w22 ⟨b9, c9, rfl, hB9, hr9, hb9⟩
          exact hK.out (vVolume V0 V0 V0 (some ⟨b9, 0, none⟩) n c9) _ (hF'.trans (hb9.mono hF'.size)) (hF_val 10 ((H10.out _ _).2 ⟨b9, c9, rfl, hr9⟩)) (fun j hj _ h => hF_up (HUP.out _ _ hb9) 10 _ j hj h)
        · intro u w21 au hau hu hF' hp' K hK
          obtain ⟨b7, c7, h7, r7⟩ := (H7.out _ _).1 (PreF.get hp' 7 (by kernel_rfl))
          have t67 : au.tmps[67]?.getD undef = u 7 := by rw [hau.out]; kernel_rfl
          rw [h7] at t67
          obtain ⟨b6, c6, h10, r6⟩ := (H10.out _ _).1 (PreF.get hp' 10 (by kernel_rfl))
          have t70 : au.tmps[70]?.getD undef = u 10 := by rw [hau.out]; kernel_rfl
          rw [h10] at t70
          have c := sameVolume_any V0 V0 V0 (some ⟨b7, 0, none⟩) (some ⟨b6, 0, none⟩) n c7 c6 fT fa HSM.out hl w21 r7.px r6.px
          refine step_plain rfl ?_
          go_simp
          refine c.mono ?_
          rintro e w22 ⟨rfl, hb9⟩
          exact hK.out (.bool true) _ (hF'.trans (hb9.mono hF'.size)) (hF_val 11 ((H11.out _ _).2 rfl)) (fun j hj _ h => hF_up (HUP.out _ _ hb9) 11 _ j hj h)
        · intro u w21 au hau hu hF' hp' K hK
          have h11 : u 11 = .bool true := (H11.out _ _).1 (PreF.get hp' 11 (by kernel_rfl))
          have t71 : au.tmps[71]?.getD undef = u 11 := by rw [hau.out]; kernel_rfl
          rw [h11] at t71
          refine step_plain rfl ?_
          go_simp
          exact hK.out (.bool true) _ hF' (hF_val 12 ((H12.out _ _).2 rfl)) (fun j hj _ h => hF_up (HUP.out _ _ (Below.refl _ _)) 12 _ j hj h)
      · intro u w30 hF' hall
        have h12 : u 12 = .bool true := (H12.out _ _).1 (hall 12 (by decide))
        have HE := hide (HW.out.trans (hF'.mono HW.out.size))
        clear hF' hall
        simp only [rgPut, Act.put, h12]
        go_simp
        go_wp2_with fail
        go_ret
        exact ⟨rfl, HE.out⟩

end Go.Proofs.YtkgkdhocmglklaaDoor
