/- The law on Match, walked. -/
import Derived.Test.YtncaekmjpfjneaaDoorMts
import Derived.Test.YtncaekmjpfjneaaDoorMtj
import Derived.Test.YtncaekmjpfjneaaDoorRVol
import Derived.Deep.RegionHeld3
import Derived.Deep.DrawnRows
import Derived.Deep.DeepCutAuto
namespace Go.Proofs.YtncaekmjpfjneaaDoor
open Go.RowKit

theorem eqFit_any (R : FT) (w : World) : Calls Tryd.prog 12 #[vF R, vF R] w fun e w' => e = .returned (.bool true) ∧ Below w.heap.size w w' := by
  obtain ⟨R0, R1, R2, R3, R4⟩ := R
  have HB : Hid (Below w.heap.size w ((w.alloc (.cells #[.int .i64 R0, .int .i64 R1, .int .i64 R2, .int .i64 R3, .int .i64 R4] 32)).alloc (.cells #[.int .i64 R0, .int .i64 R1, .int .i64 R2, .int .i64 R3, .int .i64 R4] 32))) := (bnew _ _).alloc (by simp) _
  have q0 : (R0 != R0) = false := by simp
  have q1 : (R1 != R1) = false := by simp
  have q2 : (R2 != R2) = false := by simp
  have q3 : (R3 != R3) = false := by simp
  have q4 : (R4 != R4) = false := by simp
  go_enter Tryd.func12, Tryd.ntmps12
  go_wp2_with fail
  go_ret
  exact ⟨rfl, HB.out⟩
/-- what each operation leaves: two copies, an answer, a box of five -/
def mqF (wB : World) (G : Nat → Value → Prop) (V0 : Nat → Value) (n0 : Nat) (f0 : Nat → Int) (V1 : Nat → Value) (n1 : Nat) (f1 : Nat → Int) (R : FT) (j : Nat) (u : Nat → Value) (w : World) : Prop :=
  G j (u j) ∧ (j = 1 → u 7 ≠ undef ∨ ∃ b, u 1 = V0 b ∧ Px (some ⟨b, 0, none⟩) n0 f0 w) ∧ (j = 3 → u 7 ≠ undef ∨ ∃ b, u 3 = V1 b ∧ Px (some ⟨b, 0, none⟩) n1 f1 w) ∧ (j = 6 → ∃ M, u 6 = .pointer (some ⟨M, 0, none⟩) ∧ wB.heap.size ≤ M) ∧ (j = 7 → ∃ M, u 6 = .pointer (some ⟨M, 0, none⟩) ∧ wB.heap.size ≤ M ∧ Bx M (cF R) w)
theorem mqF_up {wB : World} {G : Nat → Value → Prop} {V0 : Nat → Value} {n0 : Nat} {f0 : Nat → Int} {V1 : Nat → Value} {n1 : Nat} {f1 : Nat → Int} {R : FT} {u : Nat → Value} {w w' : World} (hb : Below w.heap.size w w') (i : Nat) (hi : i < 6) (v : Value) (j : Nat) (hj : j ≠ i) (h : mqF wB G V0 n0 f0 V1 n1 f1 R j u w) : mqF wB G V0 n0 f0 V1 n1 f1 R j (upU u i v) w' := by
  have e7 : upU u i v 7 = u 7 := upU_other u v (by omega)
  have e6 : upU u i v 6 = u 6 := upU_other u v (by omega)
  obtain ⟨h1, h2, h3, h4, h5⟩ := h
  refine ⟨by rw [upU_other u v hj]; exact h1, fun e => ?_, fun e => ?_, fun e => ?_, fun e => ?_⟩
  · rw [e7, upU_other u v (show 1 ≠ i from fun e' => hj (e.trans e'))]
    exact (h2 e).imp id fun ⟨b, e', hp⟩ => ⟨b, e', hp.below hb⟩
  · rw [e7, upU_other u v (show 3 ≠ i from fun e' => hj (e.trans e'))]
    exact (h3 e).imp id fun ⟨b, e', hp⟩ => ⟨b, e', hp.below hb⟩
  · rw [e6]; exact h4 e
  · obtain ⟨M, a1, a2, a3⟩ := h5 e
    exact ⟨M, by rw [e6]; exact a1, a2, a3.below hb a3.lt⟩
theorem mqF_val {wB : World} {G : Nat → Value → Prop} {V0 : Nat → Value} {n0 : Nat} {f0 : Nat → Int} {V1 : Nat → Value} {n1 : Nat} {f1 : Nat → Int} {R : FT} {u : Nat → Value} {w : World} (j : Nat) (hj : j < 6) (h1 : j ≠ 1) (h3 : j ≠ 3) {v : Value} (h : G j v) : mqF wB G V0 n0 f0 V1 n1 f1 R j (upU u j v) w :=
  ⟨by rw [upU_same]; exact h, fun e => absurd e h1, fun e => absurd e h3, fun e => by omega, fun e => by omega⟩
theorem mqF_al {wB : World} {G : Nat → Value → Prop} {V0 : Nat → Value} {n0 : Nat} {f0 : Nat → Int} {V1 : Nat → Value} {n1 : Nat} {f1 : Nat → Int} {R : FT} {u : Nat → Value} {w : World} (t : TypeId) (v : Value) (j : Nat) (hj : j ≠ 6) (h7 : j ≠ 7) (h : mqF wB G V0 n0 f0 V1 n1 f1 R j u w) :
    mqF wB G V0 n0 f0 V1 n1 f1 R j (upU u 6 v) (w.alloc (.cells #[.int .i64 0, .int .i64 0, .int .i64 0, .int .i64 0, .int .i64 0] t)) := by
  have hb := bnew w (.cells #[.int .i64 0, .int .i64 0, .int .i64 0, .int .i64 0, .int .i64 0] t)
  have e7 : upU u 6 v 7 = u 7 := upU_other u v (by omega)
  have e1 : upU u 6 v 1 = u 1 := upU_other u v (by omega)
  have e3 : upU u 6 v 3 = u 3 := upU_other u v (by omega)
  obtain ⟨h1, h2, h3, h4, h5⟩ := h
  refine ⟨by rw [upU_other _ _ hj]; exact h1, fun e => ?_, fun e => ?_, fun e => absurd e hj, fun e => absurd e h7⟩
  · rw [e7, e1]; exact (h2 e).imp id fun ⟨b, e', hp⟩ => ⟨b, e', hp.below hb⟩
  · rw [e7, e3]; exact (h3 e).imp id fun ⟨b, e', hp⟩ => ⟨b, e', hp.below hb⟩
theorem mqF_st {wB : World} {G : Nat → Value → Prop} {V0 : Nat → Value} {n0 : Nat} {f0 : Nat → Int} {V1 : Nat → Value} {n1 : Nat} {f1 : Nat → Int} {R : FT} {u : Nat → Value} {w w' : World} {v : Value} (hv : v ≠ undef) (j : Nat) (hj : j ≠ 7) (h : mqF wB G V0 n0 f0 V1 n1 f1 R j u w) : mqF wB G V0 n0 f0 V1 n1 f1 R j (upU u 7 v) w' := by
  have e6 : upU u 7 v 6 = u 6 := upU_other u v (by omega)
  obtain ⟨h1, h2, h3, h4, h5⟩ := h
  exact ⟨by rw [upU_other _ _ hj]; exact h1, fun e => .inl (by rw [upU_same]; exact hv), fun e => .inl (by rw [upU_same]; exact hv), fun e => by rw [e6]; exact h4 e, fun e => absurd e hj⟩

set_option maxRecDepth 100000 in
set_option maxHeartbeats 4000000 in
theorem fnExactMatch_walk (X0 Y0 Z0 : Int) (a0 : Option Addr) (n0 cap0 : Nat) (f0 : Nat → Int) (hl0 : n0 ≤ maxLen) (X1 Y1 Z1 : Int) (a1 : Option Addr) (n1 cap1 : Nat) (f1 : Nat → Int) (hl1 : n1 ≤ maxLen) (x2 : Int) (w : World) (h0 : Px a0 (n0) f0 w) (h1 : Px a1 (n1) f1 w) (hT : Tbl w) :
    Calls Tryd.prog 4 #[vVolume X0 Y0 Z0 a0 n0 cap0, vVolume X1 Y1 Z1 a1 n1 cap1, .int .i64 x2] w fun e w' => e = .returned (.bool true) ∧ Below w.heap.size w w' := by
  unfold maxLen at hl0 hl1
  have HS0 := hide (((St.start w).box [.int .i64 X0, .int .i64 Y0, .int .i64 Z0, .slice a0 n0 cap0] 24).box' [.int .i64 X1, .int .i64 Y1, .int .i64 Z1, .slice a1 n1 cap1] 24 (b := w.heap.size + 1) (by simp))
  have HP0 := hide h0
  have HP1 := hide h1
  have HTB := hide hT
  clear hT
  clear h0 h1
  have hz0 := szVolume_any X0 Y0 Z0 a0 n0 cap0 (1048576) (by omega) (by omega) (by omega)
  by_cases hb0 : (1048576 : Int) < n0
  · rw [if_pos hb0] at hz0
    clear hb0 hl0 hl1
    go_enter Tryd.func4, Tryd.ntmps4
    go_wp2_with fail
    refine (hz0 _).mono ?_
    rintro e wz0 ⟨rfl, hb⟩
    have HZ0 := hide (HS0.out.next hb)
    clear hb
    have HB := hide HZ0.out.below
    go_wp2_with fail
    go_ret
    exact ⟨rfl, HB.out⟩
  rw [if_neg hb0] at hz0
  have hn0 : ¬ (1048576 - (n0 : Int) : Int) < 0 := by omega
  have hz1 := szVolume_any X1 Y1 Z1 a1 n1 cap1 (1048576 - (n0 : Int)) (by omega) (by omega) (by omega)
  by_cases hb1 : (1048576 - (n0 : Int) : Int) < n1
  · rw [if_pos hb1] at hz1
    clear hb1 hl0 hl1
    go_enter Tryd.func4, Tryd.ntmps4
    go_wp2_with fail
    refine (hz0 _).mono ?_
    rintro e wz0 ⟨rfl, hb⟩
    have HZ0 := hide (HS0.out.next hb)
    clear hb
    obtain ⟨i0, i1, i2, i3⟩ := HZ0.out.im4 0 rfl
    go_wp2_with fail
    refine (hz1 _).mono ?_
    rintro e wz1 ⟨rfl, hb⟩
    have HZ1 := hide (HZ0.out.next hb)
    clear hb
    have HB := hide HZ1.out.below
    go_wp2_with fail
    go_ret
    exact ⟨rfl, HB.out⟩
  rw [if_neg hb1] at hz1
  have hn1 : ¬ (1048576 - (n0 : Int) - (n1 : Int) : Int) < 0 := by omega
  have hL0 : n0 ≤ 1048576 := by omega
  have hL1 : n1 ≤ 1048576 := by omega
  have hN : n0 + n1 ≤ 1048576 := by omega
  have cT0 := fun w' h => toVolume_any X0 Y0 Z0 a0 n0 cap0 f0 hL0 w' h
  have cA0 := fun b b' w' h h' => eqVolume_any X0 Y0 Z0 (some ⟨b, 0, none⟩) (some ⟨b', 0, none⟩) n0 n0 n0 f0 hL0 w' h h'
  have cT1 := fun w' h => toVolume_any X1 Y1 Z1 a1 n1 cap1 f1 hL1 w' h
  have cA1 := fun b b' w' h h' => eqVolume_any X1 Y1 Z1 (some ⟨b, 0, none⟩) (some ⟨b', 0, none⟩) n1 n1 n1 f1 hL1 w' h h'
  have cS := fun b0 b1 w' h0 h1 => specMatch_any X0 Y0 Z0 b0 n0 n0 f0 hL0 X1 Y1 Z1 b1 n1 n1 f1 hL1 x2 w' h0 h1
  have cI := fun b0 b1 w' (hb : Below w.heap.size w w') h0 h1 => implMatch_any X0 Y0 Z0 b0 n0 n0 f0 hL0 X1 Y1 Z1 b1 n1 n1 f1 hL1 x2 w' (HTB.out.below hb (Nat.le_refl _)) h0 h1
  generalize matV X0 Y0 Z0 n0 f0 X1 Y1 Z1 n1 f1 x2 = R at *
  clear hl0 hl1 hN
  have cE := eqFit_any R
  go_enter Tryd.func4, Tryd.ntmps4
  go_wp2_with fail
  refine (hz0 _).mono ?_
  rintro e v1 ⟨rfl, hb⟩
  have HS1 := hide (HS0.out.next hb)
  clear HS0 hb hz0
  obtain ⟨i0, i1, i2, i3⟩ := HS1.out.im4 0 rfl
  go_wp2_with fail
  refine (hz1 _).mono ?_
  rintro e v2 ⟨rfl, hb⟩
  have HS2 := hide (HS1.out.next hb)
  clear HS1 hb hz1 i0 i1 i2 i3
  obtain ⟨i0, i1, i2, i3⟩ := HS2.out.im4 1 rfl
  obtain ⟨j0, j1, j2, j3⟩ := HS2.out.im4 0 rfl
  have BA : Hid (Bx w.heap.size [.int .i64 X0, .int .i64 Y0, .int .i64 Z0, .slice a0 n0 cap0] v2) := fun j v hv => ⟨HS2.out.cell 1 rfl j hv, HS2.out.free 1 rfl j hv⟩
  have BB : Hid (Bx (w.heap.size + 1) [.int .i64 X1, .int .i64 Y1, .int .i64 Z1, .slice a1 n1 cap1] v2) := fun j v hv => ⟨HS2.out.cell 0 rfl j hv, HS2.out.free 0 rfl j hv⟩
  have HPA := hide (HP0.out.below HS2.out.below)
  have HPB := hide (HP1.out.below HS2.out.below)
  clear i0 i1 i2 i3 j0 j1 j2 j3
  go_upto_region 8 with fail
  go_cut [8] (fun sl wc => ∃ M, sl = .pointer (some ⟨M, 0, none⟩) ∧ Below v2.heap.size v2 wc ∧ Bx M (cF R) wc)
  case first =>
    obtain ⟨G, hG⟩ : ∃ G : Nat → Value → Prop, G = (fun j v => match j, v with | 0, v => v = vVolume X0 Y0 Z0 a0 n0 cap0 | 2, v => v = vVolume X1 Y1 Z1 a1 n1 cap1 | 4, v => v = .int .i64 x2 | 5, v => v = vF R | _, _ => True) := ⟨_, rfl⟩
    have G0 : Hid (∀ v, G 0 v ↔ v = vVolume X0 Y0 Z0 a0 n0 cap0) := fun v => by rw [hG]; exact Iff.rfl
    have G1 : Hid (∀ v, G 1 v) := fun v => by rw [hG]; trivial
    have G2 : Hid (∀ v, G 2 v ↔ v = vVolume X1 Y1 Z1 a1 n1 cap1) := fun v => by rw [hG]; exact Iff.rfl
    have G3 : Hid (∀ v, G 3 v) := fun v => by rw [hG]; trivial
    have G4 : Hid (∀ v, G 4 v ↔ v = .int .i64 x2) := fun v => by rw [hG]; exact Iff.rfl
    have G5 : Hid (∀ v, G 5 v ↔ v = vF R) := fun v => by rw [hG]; exact Iff.rfl
    have G6 : Hid (∀ v, G 6 v ∧ G 7 v) := fun v => by rw [hG]; exact ⟨trivial, trivial⟩
    clear hG
    refine region_opsU (mkR v2) (mqF v2 G (fun b => vVolume X0 Y0 Z0 (some ⟨b, 0, none⟩) n0 n0) n0 f0 (fun b => vVolume X1 Y1 Z1 (some ⟨b, 0, none⟩) n1 n1) n1 f1 R) (by kernel_rfl) (by kernel_rfl) (by kernel_rfl) ?_ ?_ ?_
    · refine ⟨(Below.refl _ _).drew, fun M hM hMB => ?_⟩
      exact Value.noConfusion (Eq.trans (Eq.symm hM) (show _ = undef by kernel_rfl))
    · refine ⟨?_, ?_, ?_, ?_, ?_, ?_, ?_, ?_, trivial⟩
      · intro u w21 au hau hu hF hp' K hK
        have t3 : au.tmps[3]?.getD undef = .pointer (some ⟨w.heap.size, 0, none⟩) := by rw [hau.out]; kernel_rfl
        have bx := BA.out.below hF.1 BA.out.lt
        obtain ⟨x0', -⟩ := bx 0 _ rfl
        obtain ⟨x1', -⟩ := bx 1 _ rfl
        obtain ⟨x2', -⟩ := bx 2 _ rfl
        obtain ⟨x3', -⟩ := bx 3 _ rfl
        clear bx
        refine step_plain rfl ?_
        go_simp
        exact hK.out (vVolume X0 Y0 Z0 a0 n0 cap0) _ (mkR_up hF (Below.refl _ _) 0 (by omega) _) (mqF_val 0 (by omega) (by omega) (by omega) ((G0.out _).2 rfl)) (fun j hj _ h => mqF_up (Below.refl _ _) 0 (by omega) _ j hj h)
      · intro u w21 au hau hu hF hp' K hK
        have h0 : u 0 = vVolume X0 Y0 Z0 a0 n0 cap0 := (G0.out _).1 (PreF.get hp' 0 (by kernel_rfl)).1
        have t22 : au.tmps[22]?.getD undef = u 0 := by rw [hau.out]; kernel_rfl
        rw [h0] at t22
        have c := cT0 w21 (HPA.out.below hF.1)
        refine step_plain rfl ?_
        go_simp
        refine c.mono ?_
        rintro e w22 ⟨b9, rfl, hB9, hr9, hb9⟩
        exact hK.out (vVolume X0 Y0 Z0 (some ⟨b9, 0, none⟩) n0 n0) _ (mkR_up hF hb9 1 (by omega) _) ⟨G1.out _, fun _ => .inr ⟨b9, upU_same _ _ _, hr9.px⟩, fun e => by omega, fun e => by omega, fun e => by omega⟩ (fun j hj _ h => mqF_up hb9 1 (by omega) _ j hj h)
      · intro u w21 au hau hu hF hp' K hK
        have t4 : au.tmps[4]?.getD undef = .pointer (some ⟨w.heap.size + 1, 0, none⟩) := by rw [hau.out]; kernel_rfl
        have bx := BB.out.below hF.1 BB.out.lt
        obtain ⟨x0', -⟩ := bx 0 _ rfl
        obtain ⟨x1', -⟩ := bx 1 _ rfl
        obtain ⟨x2', -⟩ := bx 2 _ rfl
        obtain ⟨x3', -⟩ := bx 3 _ rfl
        clear bx
        refine step_plain rfl ?_
        go_simp
        exact hK.out (vVolume X1 Y1 Z1 a1 n1 cap1) _ (mkR_up hF (Below.refl _ _) 2 (by omega) _) (mqF_val 2 (by omega) (by omega) (by omega) ((G2.out _).2 rfl)) (fun j hj _ h => mqF_up (Below.refl _ _) 2 (by omega) _ j hj h)
      · intro u w21 au hau hu hF hp' K hK
        have h2 : u 2 = vVolume X1 Y1 Z1 a1 n1 cap1 := (G2.out _).1 (PreF.get hp' 2 (by kernel_rfl)).1
        have t24 : au.tmps[24]?.getD undef = u 2 := by rw [hau.out]; kernel_rfl
        rw [h2] at t24
        have c := cT1 w21 (HPB.out.below hF.1)
        refine step_plain rfl ?_
        go_simp
        refine c.mono ?_
        rintro e w22 ⟨b9, rfl, hB9, hr9, hb9⟩
        exact hK.out (vVolume X1 Y1 Z1 (some ⟨b9, 0, none⟩) n1 n1) _ (mkR_up hF hb9 3 (by omega) _) ⟨G3.out _, fun e => by omega, fun _ => .inr ⟨b9, upU_same _ _ _, hr9.px⟩, fun e => by omega, fun e => by omega⟩ (fun j hj _ h => mqF_up hb9 3 (by omega) _ j hj h)
      · intro u w21 au hau hu hF hp' K hK
        have t2 : au.tmps[2]?.getD undef = .int .i64 x2 := by rw [hau.out]; kernel_rfl
        refine step_plain rfl ?_
        go_simp
        exact hK.out (.int .i64 x2) _ (mkR_up hF (Below.refl _ _) 4 (by omega) _) (mqF_val 4 (by omega) (by omega) (by omega) ((G4.out _).2 rfl)) (fun j hj _ h => mqF_up (Below.refl _ _) 4 (by omega) _ j hj h)
      · intro u w21 au hau hu hF hp' K hK
        have h4 : u 4 = .int .i64 x2 := (G4.out _).1 (PreF.get hp' 4 (by kernel_rfl)).1
        have t26 : au.tmps[26]?.getD undef = u 4 := by rw [hau.out]; kernel_rfl
        rw [h4] at t26
        have h7 : u 7 = undef := (hu.out 7 (by decide) (.inr (by kernel_rfl))).trans (by kernel_rfl)
        obtain ⟨b8, h1', p8⟩ := ((PreF.get hp' 1 (by kernel_rfl)).2.1 rfl).resolve_left (fun h => h h7)
        obtain ⟨b9, h3', p9⟩ := ((PreF.get hp' 3 (by kernel_rfl)).2.2.1 rfl).resolve_left (fun h => h h7)
        have t23 : au.tmps[23]?.getD undef = u 1 := by rw [hau.out]; kernel_rfl
        rw [h1'] at t23
        have t25 : au.tmps[25]?.getD undef = u 3 := by rw [hau.out]; kernel_rfl
        rw [h3'] at t25
        have c := cS (some ⟨b8, 0, none⟩) (some ⟨b9, 0, none⟩) w21 p8 p9
        refine step_plain rfl ?_
        go_simp
        refine c.mono ?_
        rintro e w22 ⟨rfl, hb9⟩
        exact hK.out (vF R) _ (mkR_up hF hb9 5 (by omega) _) (mqF_val 5 (by omega) (by omega) (by omega) ((G5.out _).2 rfl)) (fun j hj _ h => mqF_up hb9 5 (by omega) _ j hj h)
      · intro u w21 au hau hu hF hp' K hK
        refine step_plain rfl ?_
        go_simp
        exact hK.out (.pointer (some ⟨w21.heap.size, 0, none⟩)) _ (mkR_al hF _) ⟨(G6.out _).1, fun e => by omega, fun e => by omega, fun _ => ⟨_, upU_same _ _ _, hF.1.size⟩, fun e => by omega⟩ (fun j hj hf h => mqF_al _ _ j hj (fun e => by subst e; exact absurd (Eq.trans (Eq.symm (by kernel_rfl)) hf) Bool.false_ne_true) h)
      · intro u w21 au hau hu hF hp' K hK
        have h7 : u 7 = undef := (hu.out 7 (by decide) (.inl rfl)).trans (by kernel_rfl)
        obtain ⟨M, h6, hMB⟩ := (PreF.get hp' 6 (by kernel_rfl)).2.2.2.1 rfl
        have h5 : u 5 = vF R := (G5.out _).1 (PreF.get hp' 5 (by kernel_rfl)).1
        have t27 : au.tmps[27]?.getD undef = u 5 := by rw [hau.out]; kernel_rfl
        rw [h5] at t27
        have hbx := (hF.2 M h6 hMB).resolve_left (fun h => h h7)
        have t8 : au.tmps[8]?.getD undef = u 6 := by rw [hau.out]; kernel_rfl
        rw [h6] at t8
        obtain ⟨x0', y0'⟩ := hbx 0 _ rfl
        obtain ⟨x1', y1'⟩ := hbx 1 _ rfl
        obtain ⟨x2', y2'⟩ := hbx 2 _ rfl
        obtain ⟨x3', y3'⟩ := hbx 3 _ rfl
        obtain ⟨x4', y4'⟩ := hbx 4 _ rfl
        refine step_plain rfl ?_
        go_simp
        exact hK.out (.bool true) _ (mkR_st hF hMB _ _ _ _ _ (by simp [undef])) ⟨(G6.out _).2, fun e => by omega, fun e => by omega, fun e => by omega, fun _ => ⟨M, (upU_other _ _ (by omega)).trans h6, hMB, hbx.to5 _ _ _ _ _⟩⟩ (fun j hj _ h => mqF_st (by simp [undef]) j hj h)
    · intro u w30 hF hall
      obtain ⟨M9, h6, hBM, bx⟩ := (hall 7 (by decide)).2.2.2.2 rfl
      have HE9 := hide (And.intro hF.1 bx)
      clear hF hall bx hBM
      simp only [rgPut, Act.put, h6]
      clear h6
      go_simp
      go_wp2_with fail
      go_meet
      exact ⟨M9, rfl, HE9.out⟩
  case rest =>
    obtain ⟨M9, rfl, hw9, bx9⟩ := hcut
    have HS3 := hide (HS2.out.next hw9)
    have BM3 := hide bx9
    clear HS2 hw9 bx9 cS BA BB HPA HPB
    obtain ⟨i0, i1, i2, i3⟩ := HS3.out.im4 1 rfl
    go_wp2_with fail
    refine (cT0 _ (HP0.out.below HS3.out.below)).mono ?_
    rintro e v3 ⟨b4q, rfl, h2, hr, hb⟩
    have HS4 := hide (HS3.out.own hb hr.v (.inr h2))
    have BM4 := hide (BM3.out.below hb BM3.out.lt)
    clear HS3 BM3 hb hr h2 i0 i1 i2 i3
    have HS5 := hide (HS4.out.box [.int .i64 X0, .int .i64 Y0, .int .i64 Z0, .slice (some ⟨b4q, 0, none⟩) n0 n0] 27)
    have BM5 := hide (BM4.out.below (bnew _ (.cells [.int .i64 X0, .int .i64 Y0, .int .i64 Z0, .slice (some ⟨b4q, 0, none⟩) n0 n0].toArray 27)) BM4.out.lt)
    generalize hx : World.alloc _ (.cells [.int .i64 X0, .int .i64 Y0, .int .i64 Z0, .slice (some ⟨b4q, 0, none⟩) n0 n0].toArray 27) = v4 at HS5 BM5
    have hy : World.alloc _ (.cells #[.int .i64 X0, .int .i64 Y0, .int .i64 Z0, .slice (some ⟨b4q, 0, none⟩) n0 n0] 27) = v4 := hx
    clear hx HS4 BM4
    obtain ⟨i0, i1, i2, i3⟩ := HS5.out.im4 1 rfl
    go_wp2_with fail
    refine (cT1 _ (HP1.out.below HS5.out.below)).mono ?_
    rintro e v5 ⟨b5q, rfl, h2, hr, hb⟩
    have HS6 := hide (HS5.out.own hb hr.v (.inr h2))
    have BM6 := hide (BM5.out.below hb BM5.out.lt)
    clear HS5 BM5 hb hr h2 i0 i1 i2 i3
    have HS7 := hide (HS6.out.box [.int .i64 X1, .int .i64 Y1, .int .i64 Z1, .slice (some ⟨b5q, 0, none⟩) n1 n1] 27)
    have BM7 := hide (BM6.out.below (bnew _ (.cells [.int .i64 X1, .int .i64 Y1, .int .i64 Z1, .slice (some ⟨b5q, 0, none⟩) n1 n1].toArray 27)) BM6.out.lt)
    generalize hx : World.alloc _ (.cells [.int .i64 X1, .int .i64 Y1, .int .i64 Z1, .slice (some ⟨b5q, 0, none⟩) n1 n1].toArray 27) = v6 at HS7 BM7
    have hy : World.alloc _ (.cells #[.int .i64 X1, .int .i64 Y1, .int .i64 Z1, .slice (some ⟨b5q, 0, none⟩) n1 n1] 27) = v6 := hx
    clear hx HS6 BM6
    obtain ⟨i0, i1, i2, i3⟩ := HS7.out.im4 1 rfl
    obtain ⟨j0, j1, j2, j3⟩ := HS7.out.im4 0 rfl
    have p0 := (HS7.out.nthO 1 rfl).px
    have p1 := (HS7.out.nthO 0 rfl).px
    go_wp2_with fail
    refine (cI _ _ _ HS7.out.below p0 p1).mono ?_
    rintro e v7 ⟨rfl, hb⟩
    have HS7b := hide (HS7.out.next hb)
    have BM7b := hide (BM7.out.below hb BM7.out.lt)
    clear HS7 BM7 hb p0 p1 i0 i1 i2 i3 j0 j1 j2 j3
    obtain ⟨R0, R1, R2, R3, R4⟩ := R
    have HS8 := hide (HS7b.out.box (cF ⟨R0, R1, R2, R3, R4⟩) 32)
    have BM8 := hide (BM7b.out.below (bnew _ (.cells (cF ⟨R0, R1, R2, R3, R4⟩).toArray 32)) BM7b.out.lt)
    generalize hx : World.alloc _ (.cells (cF ⟨R0, R1, R2, R3, R4⟩).toArray 32) = v8 at HS8 BM8
    have hy : World.alloc _ (.cells #[.int .i64 R0, .int .i64 R1, .int .i64 R2, .int .i64 R3, .int .i64 R4] 32) = v8 := hx
    clear hx HS7b BM7b
    obtain ⟨i0, i1, i2, i3, i4⟩ := HS8.out.im5 0 rfl
    obtain ⟨j0, -⟩ := BM8.out 0 _ rfl
    obtain ⟨j1, -⟩ := BM8.out 1 _ rfl
    obtain ⟨j2, -⟩ := BM8.out 2 _ rfl
    obtain ⟨j3, -⟩ := BM8.out 3 _ rfl
    obtain ⟨j4, -⟩ := BM8.out 4 _ rfl
    go_wp2_with fail
    refine (cE _).mono ?_
    rintro e v9 ⟨rfl, hb⟩
    have HS8c := hide (HS8.out.next hb)
    clear HS8 BM8 hb i0 i1 i2 i3 i4 j0 j1 j2 j3 j4 cE cI
    obtain ⟨i0, i1, i2, i3⟩ := HS8c.out.im4 4 rfl
    obtain ⟨j0, j1, j2, j3⟩ := HS8c.out.im4 2 rfl
    go_upto_region 14 with fail
    go_region_with (first
      | (go_at_call 7; (with_reducible refine (cT0 _ (HP0.out.below HS8c.out.drew.below)).mono ?_); rintro e wq ⟨b3, rfl, -, hr, hb⟩; have HQ := hide (HS8c.out.drew.next hb); obtain ⟨k0, k1, k2, k3⟩ := HQ.out.im4 2 rfl)
      | (go_at_call 9; (with_reducible refine (cA0 _ _ _ (HQ.out.nthO 1 rfl).px hr.px).mono ?_); rintro e wp ⟨rfl, hb11⟩))
    all_goals
      have HS9 := hide (HQ.out.next hb11)
      clear hb hr hb11 HQ HS8c k0 k1 k2 k3 i0 i1 i2 i3 j0 j1 j2 j3
      obtain ⟨i0, i1, i2, i3⟩ := HS9.out.im4 3 rfl
      obtain ⟨j0, j1, j2, j3⟩ := HS9.out.im4 1 rfl
      go_upto_region 16 with fail
      go_region_with (first
        | (go_at_call 7; (with_reducible refine (cT1 _ (HP1.out.below HS9.out.drew.below)).mono ?_); rintro e wq ⟨b3, rfl, -, hr, hb⟩; have HQ := hide (HS9.out.drew.next hb); obtain ⟨k0, k1, k2, k3⟩ := HQ.out.im4 1 rfl)
        | (go_at_call 9; (with_reducible refine (cA1 _ _ _ (HQ.out.nthO 0 rfl).px hr.px).mono ?_); rintro e wp ⟨rfl, hb11⟩))
      all_goals
        have HS10 := hide (HQ.out.next hb11)
        clear hb hr hb11 HQ HS9 k0 k1 k2 k3 i0 i1 i2 i3 j0 j1 j2 j3
        have HB := hide HS10.out.below
        clear HS10
        go_wp2_with fail
        go_ret
        exact ⟨rfl, HB.out⟩

end Go.Proofs.YtncaekmjpfjneaaDoor
