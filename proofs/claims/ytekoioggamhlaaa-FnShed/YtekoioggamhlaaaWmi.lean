/- Watershed, the program: the whole. -/
import Derived.Test.YtekoioggamhlaaaWmp
import Derived.Test.YtekoioggamhlaaaGry
import Derived.Test.YtekoioggamhlaaaCln
import Derived.Test.YtekoioggamhlaaaG8w
import Derived.Deep.RegionHeld3
namespace Go.Proofs.Ytekoioggamhlaaa
open Go.RowKit

set_option maxRecDepth 100000 in
set_option maxHeartbeats 1000000 in
theorem sameSize_any (W H : Int) (a : Option Addr) (n cap : Nat) (W' H' : Int) (a' : Option Addr) (n' cap' : Nat) (w : World) :
    Calls Try.prog 23 #[im W H a n cap, im W' H' a' n' cap'] w fun e w' => e = .returned (.bool (decide (W = W') && decide (H = H'))) ∧ Below w.heap.size w w' := by
  have HB : Hid (∀ o o', Below w.heap.size w ((w.alloc o).alloc o')) := fun o o' => (bnew _ _).alloc (by simp) _
  by_cases h1 : W = W'
  · have q1 : (W == W') = true := by simp [h1]
    have HH : Hid ((H == H') = decide (H = H')) := by show _ = _; by_cases h : H = H' <;> simp [h]
    rw [decide_eq_true h1, Bool.true_and]
    clear h1
    go_enter Try.func23, Try.ntmps23
    go_wp2_with fail
    go_ret
    exact ⟨by rw [← HH.out]; rfl, HB.out _ _⟩
  · have q1 : (W == W') = false := by simp [h1]
    rw [decide_eq_false h1, Bool.false_and]
    clear h1
    go_enter Try.func23, Try.ntmps23
    go_wp2_with fail
    go_ret
    exact ⟨rfl, HB.out _ _⟩

theorem drew_trans {w w3 w4 : World} (h : Below w.heap.size w w3) (hb : Below w3.drew.heap.size w3.drew w4) : Below w.heap.size w w4 := h.drew.trans (hb.mono h.size)
/-- are a grey image and its seeds right -/
def shdB (W H : Int) (n : Nat) (f : Nat → Int) (W' H' : Int) (n' : Nat) (g : Nat → Int) : Bool := gryB W H n f 255 && (gryB W' H' n' g 255 && (decide (W = W') && decide (H = H')))
/-- whose each pixel is -/
noncomputable def shdV (W H : Int) (n : Nat) (f g : Nat → Int) : Nat → Int := shd n f g (fun p => besL W H p)
theorem gryB_ok {W H : Int} {n : Nat} {f : Nat → Int} {most : Int} (h : gryB W H n f most = true) : okB W H n f = true ∧ (1 ≤ W ∧ W ≤ 64) ∧ (1 ≤ H ∧ H ≤ 64) ∧ (n : Int) = W * H ∧ 1 ≤ n ∧ n ≤ 4096 ∧ (∀ k, k < n → 0 ≤ f k ∧ f k ≤ most) := by
  obtain ⟨h1, h2, h3⟩ := gryB_parts h
  obtain ⟨q1, q2, q3, _⟩ := okB_parts h1
  have := prod_bounds q1 q2
  exact ⟨h1, side_bounds q1, side_bounds q2, q3, by omega, h2, h3⟩

set_option maxRecDepth 100000 in
set_option maxHeartbeats 4000000 in
theorem implWatershed_any (W H : Int) (a : Option Addr) (n cap : Nat) (f : Nat → Int) (hl : n ≤ 1048576) (W' H' : Int) (a' : Option Addr) (n' cap' : Nat) (g : Nat → Int) (hl' : n' ≤ 1048576) (w : World) (h : Px a n f w) (h' : Px a' n' g w) :
    Calls Try.prog 8 #[im W H a n cap, im W' H' a' n' cap'] w (ImR (pickI (shdB W H n f W' H' n' g) W) (pickI (shdB W H n f W' H' n' g) H) (pickN (shdB W H n f W' H' n' g) n) (shdV W H n f g) w) := by
  have HS0 := hide ((((St.start w).box [.int .i64 W, .int .i64 H, .slice a n cap] 26).box' [.int .i64 W', .int .i64 H', .slice a' n' cap'] 26 (b := w.heap.size + 1) (by simp)).box' [.int .i64 0, .int .i64 0, .slice none 0 0] 26 (b := w.heap.size + 2) (by simp))
  have c0 := fun w' h => isImageOf_any W H 255 a n cap f hl w' h
  have c1 := fun w' h => isImageOf_any W' H' 255 a' n' cap' g hl' w' h
  have c2 := fun w' => sameSize_any W H a n cap W' H' a' n' cap' w'
  have HP := hide h
  have HP' := hide h'
  clear h h'
  unfold shdB
  have HNN : Hid (gryB W H n f 255 = true → gryB W' H' n' g 255 = true → (decide (W = W') && decide (H = H')) = true → n' = n ∧ ((1 ≤ W ∧ W ≤ 64) ∧ (1 ≤ H ∧ H ≤ 64) ∧ (n : Int) = W * H ∧ 1 ≤ n ∧ n ≤ 4096)) := fun h1 h2 h3 => by
    obtain ⟨-, x1, x2, x3, x4, x5, -⟩ := gryB_ok h1
    obtain ⟨-, y1, y2, y3, -⟩ := gryB_ok h2
    rw [Bool.and_eq_true, decide_eq_true_eq, decide_eq_true_eq] at h3
    rw [← h3.1, ← h3.2] at y3
    exact ⟨by omega, x1, x2, x3, x4, x5⟩
  generalize gryB W H n f 255 = q1 at *
  generalize gryB W' H' n' g 255 = q2 at *
  generalize (decide (W = W') && decide (H = H')) = q3 at *
  obtain ⟨i0, i1, i2⟩ := HS0.out.im3 2 rfl
  have x0 := HP.out.below HS0.out.below
  cases q1
  · rw [Bool.false_and, pickI_f, pickI_f, pickN_f]
    clear HNN HP HP' c1 c2
    go_enter Try.func8, Try.ntmps8
    go_wp2_with fail
    refine (c0 _ x0).mono ?_
    rintro e w1 ⟨rfl, hb⟩
    have HS1 := hide (HS0.out.next hb)
    obtain ⟨z0, z1, z2⟩ := HS1.out.im3 0 rfl
    obtain ⟨e0, e1, e2⟩ := HS1.out.fr3 0 rfl
    clear hb HS0 c0 x0 i0 i1 i2
    go_wp2_with fail
    exact bodyPost_ret (v := im 0 0 none 0 0) (by simp [results, Try.results8, go_sem, z0, z1, z2]) rfl ((HS1.out.fill3 _ _ _).imN _)
  rw [Bool.true_and]
  go_enter Try.func8, Try.ntmps8
  go_wp2_with fail
  refine (c0 _ x0).mono ?_
  rintro e w1 ⟨rfl, hb⟩
  have HS1 := hide (HS0.out.next hb)
  clear hb HS0 c0 x0 i0 i1 i2
  obtain ⟨j0, j1, j2⟩ := HS1.out.im3 1 rfl
  have x1 := HP'.out.below HS1.out.below
  cases q2
  · rw [Bool.false_and, pickI_f, pickI_f, pickN_f]
    clear HNN HP HP' c2
    go_wp2_with fail
    refine (c1 _ x1).mono ?_
    rintro e w2 ⟨rfl, hb⟩
    have HS2 := hide (HS1.out.next hb)
    obtain ⟨z0, z1, z2⟩ := HS2.out.im3 0 rfl
    obtain ⟨e0, e1, e2⟩ := HS2.out.fr3 0 rfl
    clear hb HS1 c1 x1 j0 j1 j2
    go_wp2_with fail
    exact bodyPost_ret (v := im 0 0 none 0 0) (by simp [results, Try.results8, go_sem, z0, z1, z2]) rfl ((HS2.out.fill3 _ _ _).imN _)
  rw [Bool.true_and]
  go_wp2_with fail
  refine (c1 _ x1).mono ?_
  rintro e w2 ⟨rfl, hb⟩
  have HS2 := hide (HS1.out.next hb)
  clear hb HS1 c1 x1 j0 j1 j2
  obtain ⟨i0, i1, i2⟩ := HS2.out.im3 2 rfl
  obtain ⟨j0, j1, j2⟩ := HS2.out.im3 1 rfl
  cases q3
  · rw [pickI_f, pickI_f, pickN_f]
    clear HNN HP HP'
    go_wp2_with fail
    refine (c2 _).mono ?_
    rintro e w3 ⟨rfl, hb⟩
    have HS3 := hide (HS2.out.next hb)
    obtain ⟨z0, z1, z2⟩ := HS3.out.im3 0 rfl
    obtain ⟨e0, e1, e2⟩ := HS3.out.fr3 0 rfl
    clear hb HS2 c2 i0 i1 i2 j0 j1 j2
    go_wp2_with fail
    exact bodyPost_ret (v := im 0 0 none 0 0) (by simp [results, Try.results8, go_sem, z0, z1, z2]) rfl ((HS3.out.fill3 _ _ _).imN _)
  rw [pickI_t, pickI_t, pickN_t]
  obtain ⟨rfl, hW, hH, hn, hn1, hn4⟩ := HNN.out (by trivial) (by trivial) (by trivial)
  go_wp2_with fail
  refine (c2 _).mono ?_
  rintro e w3 ⟨rfl, hb⟩
  have HS3 := hide (HS2.out.next hb)
  clear hb HS2 c2 i0 i1 i2 j0 j1 j2 HNN
  obtain ⟨b0, o0, rfl, -⟩ := HP.out.at (k := 0) (by omega)
  obtain ⟨b1, o1, rfl, -⟩ := HP'.out.at (k := 0) (by omega)
  have hcl : ∀ w', Below w.heap.size w w' → ∀ k, k < n' → w'.cell? ⟨b1, o1 + k, none⟩ = some (.int .i64 (g k)) := fun w' hb k hk => by
    obtain ⟨b9, o9, e9, h9⟩ := (HP'.out.below hb).at hk
    cases e9; exact h9
  have HCL := hide hcl
  clear hcl
  have cP := fun w' => pictureOf_any W H (some ⟨b0, o0, none⟩) n' cap w'
  have cC := fun w' h => clone_any b1 o1 n' cap' g (by omega) w' h
  unfold LsR at cC
  have HW3 : Hid (Below w.heap.size w w3) := HS3.out.below
  obtain ⟨i0, i1, i2⟩ := HS3.out.im3 2 rfl
  obtain ⟨-, -, j2⟩ := HS3.out.im3 1 rfl
  have SKd : Hid (w3.drew.cell? ⟨w.heap.size, 0, none⟩ = some (.int .i64 W) ∧ w3.drew.cell? ⟨w.heap.size, 1, none⟩ = some (.int .i64 H) ∧ w3.drew.cell? ⟨w.heap.size, 2, none⟩ = some (.slice (some ⟨b0, o0, none⟩) n' cap) ∧ w3.drew.cell? ⟨w.heap.size + 1, 2, none⟩ = some (.slice (some ⟨b1, o1, none⟩) n' cap')) := ⟨i0, i1, i2, j2⟩
  have hup : ∀ wx wy : World, Below wx.heap.size wx wy → (wx.cell? ⟨w.heap.size, 0, none⟩ = some (.int .i64 W) ∧ wx.cell? ⟨w.heap.size, 1, none⟩ = some (.int .i64 H) ∧ wx.cell? ⟨w.heap.size, 2, none⟩ = some (.slice (some ⟨b0, o0, none⟩) n' cap) ∧ wx.cell? ⟨w.heap.size + 1, 2, none⟩ = some (.slice (some ⟨b1, o1, none⟩) n' cap')) → (wy.cell? ⟨w.heap.size, 0, none⟩ = some (.int .i64 W) ∧ wy.cell? ⟨w.heap.size, 1, none⟩ = some (.int .i64 H) ∧ wy.cell? ⟨w.heap.size, 2, none⟩ = some (.slice (some ⟨b0, o0, none⟩) n' cap) ∧ wy.cell? ⟨w.heap.size + 1, 2, none⟩ = some (.slice (some ⟨b1, o1, none⟩) n' cap')) := fun wx wy hb h =>
    ⟨(hb.cell (World.block_lt_of_cell? wx _ h.1)).trans h.1, (hb.cell (World.block_lt_of_cell? wx _ h.2.1)).trans h.2.1, (hb.cell (World.block_lt_of_cell? wx _ h.2.2.1)).trans h.2.2.1, (hb.cell (World.block_lt_of_cell? wx _ h.2.2.2)).trans h.2.2.2⟩
  have HUP := hide hup
  clear hup
  have SK3 : Hid (w3.cell? ⟨w.heap.size, 0, none⟩ = some (.int .i64 W) ∧ w3.cell? ⟨w.heap.size, 1, none⟩ = some (.int .i64 H) ∧ w3.cell? ⟨w.heap.size, 2, none⟩ = some (.slice (some ⟨b0, o0, none⟩) n' cap) ∧ w3.cell? ⟨w.heap.size + 1, 2, none⟩ = some (.slice (some ⟨b1, o1, none⟩) n' cap')) := SKd
  clear SKd
  go_upto_region 3 with fail
  clear i0 i1 i2 j2
  go_cut [5] (fun s wc => ∃ Q, s = .pointer (some ⟨Q, 0, none⟩) ∧ w3.heap.size ≤ Q ∧ FlB w3 W H (.slice (some ⟨b0, o0, none⟩) n' cap) n' g Q wc ∧ Below w3.heap.size w3 wc)
  case first =>
    obtain ⟨G, hG⟩ : ∃ G : Nat → Value → Prop, G = (fun j v => match j with | 0 => v = im W H (some ⟨b0, o0, none⟩) n' cap | 1 => v = im W H (some ⟨b0, o0, none⟩) n' cap | 2 => v = .pointer (some ⟨w.heap.size + 1, 2, none⟩) | 3 => v = (.slice (some ⟨b1, o1, none⟩) n' cap') | _ => True) := ⟨_, rfl⟩
    have G0 : Hid (∀ v, G 0 v ↔ v = im W H (some ⟨b0, o0, none⟩) n' cap) := fun v => by rw [hG]; exact Iff.rfl
    have G1 : Hid (∀ v, G 1 v ↔ v = im W H (some ⟨b0, o0, none⟩) n' cap) := fun v => by rw [hG]; exact Iff.rfl
    have G2 : Hid (∀ v, G 2 v ↔ v = .pointer (some ⟨w.heap.size + 1, 2, none⟩)) := fun v => by rw [hG]; exact Iff.rfl
    have G3 : Hid (∀ v, G 3 v ↔ v = (.slice (some ⟨b1, o1, none⟩) n' cap')) := fun v => by rw [hG]; exact Iff.rfl
    have G4 : Hid (∀ v, G 4 v) := fun v => by rw [hG]; trivial
    have G5 : Hid (∀ v, G 5 v) := fun v => by rw [hG]; trivial
    have G6 : Hid (∀ v, G 6 v) := fun v => by rw [hG]; trivial
    have G7 : Hid (∀ v, G 7 v) := fun v => by rw [hG]; trivial
    clear hG
    obtain ⟨pv, hpv⟩ : ∃ pv : Nat → Option OwnP, pv = (fun j => match j with | 4 => some (lsP n' g) | 5 => some (flP W H (.slice (some ⟨b0, o0, none⟩) n' cap) n' g) | _ => none) := ⟨_, rfl⟩
    have O0 : Hid (pv 0 = none) := by rw [hpv]; exact rfl
    have O1 : Hid (pv 1 = none) := by rw [hpv]; exact rfl
    have O2 : Hid (pv 2 = none) := by rw [hpv]; exact rfl
    have O3 : Hid (pv 3 = none) := by rw [hpv]; exact rfl
    have O4 : Hid (pv 4 = some (lsP n' g)) := by rw [hpv]; exact rfl
    have O5 : Hid (pv 5 = some (flP W H (.slice (some ⟨b0, o0, none⟩) n' cap) n' g)) := by rw [hpv]; exact rfl
    have O6 : Hid (pv 6 = none) := by rw [hpv]; exact rfl
    have O7 : Hid (pv 7 = none) := by rw [hpv]; exact rfl
    have HST : Hid (∀ j p, pv j = some p → Stab p) := by
      intro j p hp
      rw [hpv] at hp
      dsimp only at hp
      split at hp <;> cases hp
      · exact lsP_st _ _
      · exact flP_st _ _ _ _ _
    clear hpv
    obtain ⟨PP, hPX⟩ : ∃ P : Nat → World → Prop, P = (FlB w3 W H (.slice (some ⟨b0, o0, none⟩) n' cap) n' g) := ⟨_, rfl⟩
    have HPX : Hid (∀ (Q : Nat) (wx wy : World), Below wx.heap.size wx wy → PP Q wx → PP Q wy) := by
      intro Q wx wy hb hp
      rw [hPX] at hp ⊢
      exact hp.below (by omega) hb
    have HPY : Hid (PP = FlB w3 W H (.slice (some ⟨b0, o0, none⟩) n' cap) n' g) := hPX
    clear hPX
    refine region_opsV (bR 6 7 (.int .i64 0) [.int .i64 0, .slice none 0 0, .slice none 0 0, .slice none 0 0, .int .i64 0] w3) (kF 6 7 w3 G pv PP) (by kernel_rfl) (by kernel_rfl) (by kernel_rfl) (by kernel_rfl) ?_ ?_ ?_
    · refine ⟨(Below.refl _ _).drew, fun B hB hBB => ?_⟩
      have h := hB.symm.trans (show _ = undef by kernel_rfl)
      simp [undef] at h
    · refine ⟨?_, ?_, ?_, ?_, ?_, ?_, ?_, ?_, trivial⟩
      · intro u w21 au hsl hel hu hF hp' K hK
        have t2 : au.tmps[2]?.getD undef = .pointer (some ⟨w.heap.size, 0, none⟩) := (hel.out 2 (by kernel_rfl)).trans (by kernel_rfl)
        obtain ⟨xa, xb, xc, xd⟩ := HUP.out w3 w21 hF.1 SK3.out
        refine step_plain rfl ?_
        go_simp
        exact hK.out (im W H (some ⟨b0, o0, none⟩) n' cap) _ (bR_up hF (Below.refl _ _) 0 (by omega) (by omega) _) (kF_val 0 (by omega) (by omega) O0.out ((G0.out _).2 rfl)) (fun j hj hf h => kF_up HST.out (fun M hM => HPX.out M _ _ (Below.refl _ _) hM) (Below.refl _ _) 0 (by omega) (by omega) _ j hj h)
      · intro u w21 au hsl hel hu hF hp' K hK
        have h0 : u 0 = im W H (some ⟨b0, o0, none⟩) n' cap := (G0.out _).1 (PreF.get hp' 0 (by kernel_rfl)).1
        have t23 : au.tmps[23]?.getD undef = u 0 := hsl.out 0 23 (by kernel_rfl)
        rw [h0] at t23
        have cc := cP w21
        refine step_plain rfl ?_
        go_simp
        refine cc.mono ?_
        rintro e w22 ⟨rfl, hb9⟩
        exact hK.out (im W H (some ⟨b0, o0, none⟩) n' cap) _ (bR_up hF hb9 1 (by omega) (by omega) _) (kF_val 1 (by omega) (by omega) O1.out ((G1.out _).2 rfl)) (fun j hj hf h => kF_up HST.out (fun M hM => HPX.out M _ _ hb9 hM) hb9 1 (by omega) (by omega) _ j hj h)
      · intro u w21 au hsl hel hu hF hp' K hK
        have t3 : au.tmps[3]?.getD undef = .pointer (some ⟨w.heap.size + 1, 0, none⟩) := (hel.out 3 (by kernel_rfl)).trans (by kernel_rfl)
        refine step_plain rfl ?_
        go_simp
        exact hK.out (.pointer (some ⟨w.heap.size + 1, 2, none⟩)) _ (bR_up hF (Below.refl _ _) 2 (by omega) (by omega) _) (kF_val 2 (by omega) (by omega) O2.out ((G2.out _).2 rfl)) (fun j hj hf h => kF_up HST.out (fun M hM => HPX.out M _ _ (Below.refl _ _) hM) (Below.refl _ _) 2 (by omega) (by omega) _ j hj h)
      · intro u w21 au hsl hel hu hF hp' K hK
        have h2 : u 2 = .pointer (some ⟨w.heap.size + 1, 2, none⟩) := (G2.out _).1 (PreF.get hp' 2 (by kernel_rfl)).1
        have t25 : au.tmps[25]?.getD undef = u 2 := hsl.out 2 25 (by kernel_rfl)
        rw [h2] at t25
        obtain ⟨xa, xb, xc, xd⟩ := HUP.out w3 w21 hF.1 SK3.out
        refine step_plain rfl ?_
        go_simp
        exact hK.out (.slice (some ⟨b1, o1, none⟩) n' cap') _ (bR_up hF (Below.refl _ _) 3 (by omega) (by omega) _) (kF_val 3 (by omega) (by omega) O3.out ((G3.out _).2 rfl)) (fun j hj hf h => kF_up HST.out (fun M hM => HPX.out M _ _ (Below.refl _ _) hM) (Below.refl _ _) 3 (by omega) (by omega) _ j hj h)
      · intro u w21 au hsl hel hu hF hp' K hK
        have hS : u 7 = undef := (hu.out 7 (by decide) (.inr (by kernel_rfl))).trans (by kernel_rfl)
        have h3 : u 3 = (.slice (some ⟨b1, o1, none⟩) n' cap') := (G3.out _).1 (PreF.get hp' 3 (by kernel_rfl)).1
        have t26 : au.tmps[26]?.getD undef = u 3 := hsl.out 3 26 (by kernel_rfl)
        rw [h3] at t26
        have cc := cC w21 (HCL.out w21 (HW3.out.trans (hF.1.mono HW3.out.size)))
        refine step_plain rfl ?_
        go_simp
        refine cc.mono ?_
        rintro e w22 ⟨q0, q1, q2, rfl, q3, q4, hb9⟩
        exact hK.out (.slice q0 n' q1) _ (bR_up hF hb9 4 (by omega) (by omega) _) (kF_own 4 (by omega) (by omega) O4.out (G4.out _) (gB.newL hF hS q1 q3 q4)) (fun j hj hf h => kF_up HST.out (fun M hM => HPX.out M _ _ hb9 hM) hb9 4 (by omega) (by omega) _ j hj h)
      · intro u w21 au hsl hel hu hF hp' K hK
        have hS : u 7 = undef := (hu.out 7 (by decide) (.inr (by kernel_rfl))).trans (by kernel_rfl)
        have h1 : u 1 = im W H (some ⟨b0, o0, none⟩) n' cap := (G1.out _).1 (PreF.get hp' 1 (by kernel_rfl)).1
        have t24 : au.tmps[24]?.getD undef = u 1 := hsl.out 1 24 (by kernel_rfl)
        rw [h1] at t24
        obtain ⟨bs4, hbs4, ⟨A4, C4, B4, e4, o4, m4⟩, hap4⟩ := ((PreF.get hp' 4 (by kernel_rfl)).2.1 _ O4.out).resolve_left (fun hx => hx hS)
        have t27 : au.tmps[27]?.getD undef = u 4 := hsl.out 4 27 (by kernel_rfl)
        rw [e4] at t27
        refine step_plain rfl ?_
        go_simp
        exact hK.out (flV W H (.slice (some ⟨b0, o0, none⟩) n' cap) A4 n' C4) _ (bR_up hF (Below.refl _ _) 5 (by omega) (by omega) _) (kF_own 5 (by omega) (by omega) O5.out (G5.out _) ⟨bs4, hbs4, ⟨A4, C4, B4, rfl, o4, m4⟩, hap4⟩) (fun j hj hf h => kF_up HST.out (fun M hM => HPX.out M _ _ (Below.refl _ _) hM) (Below.refl _ _) 5 (by omega) (by omega) _ j hj h)
      · intro u w21 au hsl hel hu hF hp' K hK
        refine step_plain rfl ?_
        go_simp
        exact hK.out (.pointer (some ⟨w21.heap.size, 0, none⟩)) _ (bR_al hF (Bx.new [.int .i64 0, .int .i64 0, .slice none 0 0, .slice none 0 0, .slice none 0 0, .int .i64 0] 56 w21)) (kF_ptr (by omega) (G6.out) O6.out hF.1.size) (fun j hj hf h => kF_al HST.out (by omega) _ j hj (fun e => by subst e; exact absurd (Eq.trans (Eq.symm (by kernel_rfl)) hf) Bool.false_ne_true) h)
      · intro u w21 au hsl hel hu hF hp' K hK
        have hS : u 7 = undef := (hu.out 7 (by decide) (.inl rfl)).trans (by kernel_rfl)
        obtain ⟨bs5, hbs5, ⟨A5, C5, B5, e5, o5, m5⟩, hap5⟩ := ((PreF.get hp' 5 (by kernel_rfl)).2.1 _ O5.out).resolve_left (fun hx => hx hS)
        have t28 : au.tmps[28]?.getD undef = u 5 := hsl.out 5 28 (by kernel_rfl)
        rw [e5] at t28
        obtain ⟨Q, hQ, hQB⟩ := (PreF.get hp' 6 (by kernel_rfl)).2.2.1 rfl
        have t5 : au.tmps[5]?.getD undef = .pointer (some ⟨Q, 0, none⟩) := (hsl.out 6 5 (by kernel_rfl)).trans hQ
        have hx := (hF.2 Q hQ hQB).resolve_left (fun hx => hx hS)
        obtain ⟨y0, z0⟩ := hx 0 _ rfl
        obtain ⟨y1, z1⟩ := hx 1 _ rfl
        obtain ⟨y2, z2⟩ := hx 2 _ rfl
        obtain ⟨y3, z3⟩ := hx 3 _ rfl
        obtain ⟨y4, z4⟩ := hx 4 _ rfl
        obtain ⟨y5, z5⟩ := hx 5 _ rfl
        refine step_plain rfl ?_
        go_simp
        exact hK.out (.bool true) _ (bR_st (below_set6g hF.1 hQB _ _ _ _ _ _) (by simp [undef])) (kF_done (by omega) (G7.out) O7.out hQ hQB (by rw [HPY.out]; exact FlB.stored (A := 6) (u := u) (by omega) o5 m5 hbs5 hap5 hQ hx)) (fun j hj hf h => kF_st (by omega) (by simp [undef]) j hj h)
    · intro u w30 hF hall
      obtain ⟨Q, hQ, hQB, hP⟩ := (hall 7 (by decide)).2.2.2 rfl
      rw [HPY.out] at hP
      have HE := hide (And.intro hP (And.intro hF.1 hQB))
      clear hF hall hP
      simp only [rgPut, Act.put, hQ]
      clear hQ hQB
      go_simp
      go_wp2_with fail
      go_meet
      exact ⟨Q, rfl, HE.out.2.2, HE.out.1, HE.out.2.1⟩
  case rest =>
    obtain ⟨bf, rfl, hbf, hFl, hb4⟩ := hcut
    have HB4 := hide (HW3.out.trans (hb4.mono HW3.out.size))
    have HS4 := hide (HS3.out.next hb4)
    obtain ⟨bo, capo, hX, hR, hne, hbo⟩ := hFl
    have hz3 : w.heap.size + 2 < w3.heap.size := World.block_lt_of_cell? w3 _ (HS3.out.im3 0 rfl).1
    have hz4 := hb4.size
    have hl0 : b0 < w.heap.size := by
      obtain ⟨b, off, e, hlt⟩ := HP.out.lt (by omega)
      cases e; exact hlt
    have hl1 : b1 < w.heap.size := by
      obtain ⟨b, off, e, hlt⟩ := HP'.out.lt (by omega)
      cases e; exact hlt
    obtain ⟨nb, hnbE⟩ : ∃ nb : Nat → List Int, nb = (fun p : Nat => besL W H (p : Int)) := ⟨_, rfl⟩
    have hnb : ∀ p, p < n' → ∀ x ∈ nb p, x.toNat < n' := fun p hp x hx => by
      rw [hnbE] at hx
      have := besL_in hn hW.1 hp x hx
      omega
    have HNB := hide hnb
    have HSD := hide (sd_all (o := g) hnb)
    have HSE := hide (fun F => shd_eq (n := n') (im := f) (o := g) hnb (F := F))
    have HSV : Hid (shdV W H n' f g = shd n' f g nb) := by show _ = _; rw [hnbE]; rfl
    have hfl4 : bf < wc.heap.size := World.block_lt_of_cell? wc ⟨bf, 0, none⟩ (hX 0 _ rfl).1
    have hfo4 : bo < wc.heap.size := Row.lt' hR (show 0 < n' by omega)
    have HPc := hide (HP.out.below HB4.out)
    have HLT : Hid (b0 < w.heap.size ∧ b1 < w.heap.size ∧ w.heap.size + 2 < w3.heap.size ∧ w3.heap.size ≤ wc.heap.size ∧ w3.heap.size ≤ bf ∧ w3.heap.size ≤ bo ∧ bf < wc.heap.size ∧ bo < wc.heap.size ∧ bo ≠ bf ∧ n' ≤ 4096 ∧ 1 ≤ n') := ⟨hl0, hl1, hz3, hz4, hbf, hbo, hfl4, hfo4, hne, hn4, hn1⟩
    have HMA : Hid (∀ (s : Ws) (p : Nat) (wr : World), p < n' → s.o p ≠ 0 → WsI n' s → s.c + fr0 n' s.o ≤ n' → KpS (fun y => y = bf ∨ y = bo ∨ wc.heap.size ≤ y) wc wr → Fld f W H (some ⟨b0, o0, none⟩) n' cap bo capo bf wc.heap.size s wr →
        Calls Try.prog 26 #[.pointer (some ⟨bf, 0, none⟩), .int .i64 p] wr fun e w' => e = .returned (.tuple #[]) ∧
          KpS (fun y => y = bf ∨ y = bo ∨ wc.heap.size ≤ y) wc w' ∧ Fld f W H (some ⟨b0, o0, none⟩) n' cap bo capo bf wc.heap.size (msL p s (nb p)) w') := fun s p wr hp hop hi hcn hk hfd => by
      refine (meetAround_any f W H (some ⟨b0, o0, none⟩) n' cap bo capo bf wc.heap.size s p hp hop hi hcn hn hW.1 hW.2 hH.1 hH.2 hn4 hfl4 hfo4 (fun z off e => by cases e; exact ⟨by omega, by omega, by omega⟩) hne wr hfd (hk.px (fun b off e h => by cases e; rcases h with h | h | h <;> omega) HPc.out) hk.size).mono ?_
      rintro e w' ⟨rfl, h1, h2⟩
      rw [hnbE]
      exact ⟨rfl, hk.thenS h1 (fun x _ h => h), h2⟩
    have HF0 : Hid (Fld f W H (some ⟨b0, o0, none⟩) n' cap bo capo bf wc.heap.size (sd g nb 0) wc) := ⟨.slice none 0 0, [], hX, hR, World.ownsRow_nil _ _ _ _, hpI_nil, by simp [itms, sd, ws0]⟩
    have HKX : Hid (∀ wr, KpS (fun y => y = bf ∨ y = bo ∨ wc.heap.size ≤ y) wc wr → Below w3.heap.size w3 wr) := fun wr hk => hb4.trans (hk.below (fun b hb => by rcases hb with h | h | h <;> omega) (by omega))
    have HKW : Hid (∀ wr, KpS (fun y => y = bf ∨ y = bo ∨ wc.heap.size ≤ y) wc wr → Below w.heap.size w wr) := fun wr hk => HB4.out.trans (hk.below (fun b hb => by rcases hb with h | h | h <;> omega) (by omega))
    have j2 := (HS4.out.im3 1 rfl).2.2
    clear cP cC HUP SK3 HP HP' hX hR hne hbo hz3 hz4 hl0 hl1 hnb hfl4 hfo4 hb4 hbf HW3 hnbE hl hl' hW hH hn
    go_wp2_with fail
    clear j2
    go_loopw [6, 7, 32] (fun _ _ i wr => ∃ k : Nat, k ≤ n' ∧ i = .int .i64 k ∧ Fld f W H (some ⟨b0, o0, none⟩) n' cap bo capo bf wc.heap.size (sd g nb k) wr ∧ KpS (fun y => y = bf ∨ y = bo ∨ wc.heap.size ≤ y) wc wr) (fun _ _ i _ => n' - (intOf i).toNat)
    case atStart => exact ⟨0, by omega, rfl, HF0.out, KpS.refl _ _⟩
    case round =>
      obtain ⟨k, hk, rfl, hfd, hkp⟩ := hrel
      clear HF0
      have HFd := hide hfd
      have HKp := hide hkp
      clear hfd hkp
      by_cases hlt : k < n'
      · have y0 := HCL.out wr (HKW.out wr HKp.out) k hlt
        obtain ⟨s1, s2, s3, s4⟩ := HSD.out k (by omega)
        by_cases hg : g k = 0
        · rw [hg] at y0
          have HE : Hid (sd g nb (k + 1) = sd g nb k) := by show (if _ then _ else _) = _; rw [if_neg (fun h => h hg)]
          clear s1 s2 s3 s4 hg
          go_wp2_with fail
          exact ⟨⟨k + 1, by omega, rfl, by rw [HE.out]; exact HFd.out, HKp.out⟩, by simp [intOf]; omega⟩
        · have cS := HMA.out (sd g nb k) k wr hlt (by rw [s4 k hg]; exact hg) s1 (by have := fr0_le n' g; omega) HKp.out HFd.out
          have HE : Hid (sd g nb (k + 1) = msL k (sd g nb k) (nb k)) := by show (if _ then _ else _) = _; rw [if_pos hg]
          have qf : (g k == 0) = false := by simp only [beq_eq_false_iff_ne, ne_eq]; exact hg
          clear s1 s2 s3 s4 hg
          generalize g k = y at *
          go_wp2_with fail
          refine cS.mono ?_
          rintro e w5 ⟨rfl, h1, h2⟩
          have H1 := hide h1
          have H2 := hide h2
          clear cS h1 h2 y0
          go_wp2_with fail
          exact ⟨⟨k + 1, by omega, rfl, by rw [HE.out]; exact H2.out, H1.out⟩, by simp [intOf]; omega⟩
      · obtain rfl : k = n' := by omega
        go_wp2_with fail
        obtain ⟨s1, s2, s3, s4⟩ := HSD.out k (by omega)
        have HI := hide s1
        have HC : Hid ((sd g nb k).c + fr0 k (sd g nb k).o ≤ k) := by show _ ≤ _; have := fr0_le k g; omega
        clear s1 s2 s3 s4 HSD HCL
        go_loopg [] (pot k (sd g nb k)) (fun gk wr => ∃ s, gk = pot k s ∧ Fld f W H (some ⟨b0, o0, none⟩) k cap bo capo bf wc.heap.size s wr ∧ WsI k s ∧ s.c + fr0 k s.o ≤ k ∧ (∀ F, Wrun f nb s F → Wrun f nb (sd g nb k) F) ∧ KpS (fun y => y = bf ∨ y = bo ∨ wc.heap.size ≤ y) wc wr)
        case atStart => exact ⟨_, rfl, HFd.out, HI.out, HC.out, fun _ h => h, HKp.out⟩
        case round =>
          obtain ⟨s, rfl, hfd, hi, hc, hw, hk⟩ := hrel
          clear HFd HI HC HKp
          obtain ⟨v, L, hX, hR, hO, hH, hP⟩ := hfd
          have HX := hide hX
          have HR := hide hR
          have HO := hide hO
          have HH := hide hH
          have HP := hide hP
          have HI := hide hi
          have HC := hide hc
          have HW := hide hw
          have HK := hide hk
          have hlL := itms_len hi hP
          clear hX hR hO hH hP hi hc hw hk
          obtain ⟨av, capv, rfl⟩ := own_form3 HO.out
          have x4 := (HX.out 4 _ rfl).1
          rcases Nat.eq_zero_or_pos L.length with hL | hL
          · have HWn : Hid (s.W = []) := by
              have h := HP.out.length_eq
              rw [hL] at h
              unfold itms at h
              rw [List.length_map] at h
              exact List.eq_nil_of_length_eq_zero h.symm
            have HF : Hid (s.o = shdV W H k f g) := by
              show _ = _
              rw [HSV.out]
              exact HSE.out _ (HW.out _ (Wrun.done s HWn.out))
            rw [hL] at x4
            have x3 := (HX.out 3 _ rfl).1
            have HS6 := hide (HS3.out.next (HKX.out wr HK.out))
            obtain ⟨i0, i1, i2⟩ := HS6.out.im3 2 rfl
            obtain ⟨z0, z1, z2⟩ := HS6.out.im3 0 rfl
            obtain ⟨e0, e1, e2⟩ := HS6.out.fr3 0 rfl
            go_wp2_with fail
            have HS7 := HS6.out.fill3 (.int .i64 W) (.int .i64 H) (.slice (some ⟨bo, 0, none⟩) k capo)
            have hq : bo ≠ w.heap.size + 2 := by have := HLT.out; omega
            have hR7 := (((HR.out.set (p := ⟨w.heap.size + 2, 0, none⟩) (Ne.symm hq) (.int .i64 W)).set (p := ⟨w.heap.size + 2, 1, none⟩) (Ne.symm hq) (.int .i64 H)).set (p := ⟨w.heap.size + 2, 2, none⟩) (Ne.symm hq) (.slice (some ⟨bo, 0, none⟩) k capo))
            rw [HF.out] at hR7
            exact bodyPost_ret (v := im W H (some ⟨bo, 0, none⟩) k capo) (by simp [results, Try.results8, go_sem, z0, z1, z2]) rfl ⟨some ⟨bo, 0, none⟩, capo, bo, rfl, .inr ⟨rfl, hR7⟩, .inr (by have := HLT.out; omega), HS7.below⟩
          · have hvb : ∀ x, (Value.slice av L.length capv).ownBlock = some x → wc.heap.size ≤ x := owns_ge HO.out
            have cT := take_any bf 4 (flC W H (.slice (some ⟨b0, o0, none⟩) k cap) bo k capo (.slice av L.length capv) s.c) (.slice av L.length capv) rfl L wc.heap.size wr HX.out HO.out
              (fun h => by have := hvb _ h; have := HLT.out; omega) (by have := HLT.out; omega) hL HH.out
            have HVB := hide hvb
            have HTK : Hid (∀ L', L.Perm (gI L 0 :: L') → ∃ b, gI L 0 = itm f s b ∧ Fst f s b ∧ L'.Perm (itms f (tk s b))) := fun L' hp => itms_take HP.out hp (fun y hy => by
              obtain ⟨i, hi, rfl⟩ := List.mem_iff_getElem.1 hy
              have h := hpI_root HH.out i hi
              have e := gI_at hi
              rw [List.getElem?_eq_getElem hi] at e
              rw [Option.some.inj e]
              exact h)
            have hlp : 0 < (L.length : Int) := by omega
            have q : (decide ((L.length : Int) > 0)) = true := by simp; omega
            clear hvb
            obtain ⟨r, hr⟩ : ∃ r, gI L 0 = r := ⟨_, rfl⟩
            rw [hr] at cT HTK
            clear hr
            obtain ⟨r1, r2, r3⟩ := r
            rw [show vW (r1, r2, r3) = .agg #[.int .i64 r1, .int .i64 r2, .int .i64 r3] from rfl] at cT
            obtain ⟨N, hN⟩ : ∃ N, L.length = N := ⟨_, rfl⟩
            have HN := hide hN
            have HO2 := hide HO.out
            rw [hN] at x4 cT hlL hL hlp q HVB HO2
            clear hN HO
            go_wp2_with fail
            refine cT.mono ?_
            rintro e w5 ⟨rfl, v', L', hp', hh', hx', ho', hk', hv'⟩
            obtain ⟨b, hb, hF, hP'⟩ := HTK.out L' hp'
            have hb3 : r3 = (b : Int) := (Prod.mk.inj (Prod.mk.inj hb).2).2
            subst hb3
            have hbk : b < k := HI.out.lt b hF.1
            have hKr : KpS (fun y => y = bf ∨ y = bo ∨ wc.heap.size ≤ y) wc w5 := HK.out.thenS hk' (fun x _ h => by
              rcases h with h | h
              · exact .inl h
              · exact .inr (.inr (HVB.out x h)))
            have hRr : Row bo k s.o w5 := HR.out.sameH (hk'.block bo (HR.out.lt' (by have := HLT.out; omega)) (fun h => by
              have hl := HLT.out
              rcases h with h | h
              · omega
              · have := HVB.out _ h; omega))
            have hfd : Fld f W H (some ⟨b0, o0, none⟩) k cap bo capo bf wc.heap.size (tk s b) w5 := ⟨v', L', hx', hRr, ho', hh', hP'⟩
            have cS := HMA.out (tk s b) b w5 hbk (HI.out.own b hF.1) HI.out.tk HC.out hKr hfd
            have HM := hide (msL_all (n := k) (p := b) (nb b) (tk s b) HI.out.tk (HI.out.own b hF.1) (HNB.out b hbk))
            have HT := hide (tk_pot (n := k) hF.1)
            have HW' : Hid (∀ F, Wrun f nb (msL b (tk s b) (nb b)) F → Wrun f nb (sd g nb k) F) := fun F h => HW.out F (Wrun.step s b F hF h)
            have HC' : Hid ((tk s b).c + fr0 k (tk s b).o ≤ k) := HC.out
            clear cT hp' hh' hx' ho' hk' hv' hb hF hP' hKr hRr hfd HTK HX HR HH HP x4 HN HO2 HW HC HI HK
            have ff : ∀ wz, (Instr.field 59 (.agg #[.int .i64 r1, .int .i64 r2, .int .i64 (b : Int)]) 2).run Try.prog wz = .ok (.int .i64 (b : Int)) wz := fun _ => rfl
            go_wp2_with fail
            refine cS.mono ?_
            rintro e w6 ⟨rfl, h1, h2⟩
            have H1 := hide h1
            have H2 := hide h2
            clear cS h1 h2
            go_wp2_with fail
            go_roundg (pot k (msL b (tk s b) (nb b)))
            case measure => have := HM.out.2.2.1; have := HT.out; omega
            case rel => exact ⟨_, rfl, H2.out, HM.out.1, by have := HM.out.2.2.2.1; have := HC'.out; omega, HW'.out, H1.out⟩

end Go.Proofs.Ytekoioggamhlaaa
