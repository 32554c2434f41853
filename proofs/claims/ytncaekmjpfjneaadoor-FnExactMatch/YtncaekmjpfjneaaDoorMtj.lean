/- The best fit: the program. -/
import Derived.Test.YtncaekmjpfjneaaDoorMtk
import Derived.Test.YtncaekmjpfjneaaDoorTni
namespace Go.Proofs.YtncaekmjpfjneaaDoor
open Go.RowKit

set_option maxRecDepth 100000 in
set_option maxHeartbeats 8000000 in
theorem implMatch_any (X Y Z : Int) (a : Option Addr) (n cap : Nat) (f : Nat → Int) (hl : n ≤ 1048576) (X' Y' Z' : Int) (a' : Option Addr) (n' cap' : Nat) (f' : Nat → Int) (hl' : n' ≤ 1048576) (r : Int) (w : World) (hTb : Tbl w) (h : Px a n f w) (h' : Px a' n' f' w) :
    Calls Tryd.prog 11 #[vVolume X Y Z a n cap, vVolume X' Y' Z' a' n' cap', .int .i64 r] w fun e w' => e = .returned (vF (matV X Y Z n f X' Y' Z' n' f' r)) ∧ Below w.heap.size w w' := by
  have HS0 := hide ((((St.start w).box [.int .i64 X, .int .i64 Y, .int .i64 Z, .slice a n cap] 27).box' [.int .i64 X', .int .i64 Y', .int .i64 Z', .slice a' n' cap'] 27 (b := w.heap.size + 1) (by simp)).box' [.int .i64 0, .int .i64 0, .int .i64 0, .int .i64 0, .int .i64 0] 32 (b := w.heap.size + 2) (by simp))
  have HP0 := hide h
  have HQ0 := hide h'
  have HTB := hide hTb
  have cL := fun w' hw hw' => areLikeCubes_any X Y Z a n cap f hl X' Y' Z' a' n' cap' f' hl' w' hw hw'
  have cI := fun w' => within_any r 0 2 w'
  clear h h' hTb
  obtain ⟨i0, i1, i2, i3⟩ := HS0.out.im4 2 rfl
  obtain ⟨j0, j1, j2, j3⟩ := HS0.out.im4 1 rfl
  go_enter Tryd.func11, Tryd.ntmps11
  go_wp2_with fail
  refine (cL _ (HP0.out.below HS0.out.below) (HQ0.out.below HS0.out.below)).mono ?_
  rintro e w1 ⟨rfl, hb⟩
  have HS1 := hide (HS0.out.next hb)
  clear hb HS0 cL i0 i1 i2 i3 j0 j1 j2 j3
  cases hlik : likB X Y Z n f X' Y' Z' n' f'
  · have HV := hide (mat_no (r := r) (show (likB X Y Z n f X' Y' Z' n' f' && inB r 0 2) = false by rw [hlik]; rfl))
    obtain ⟨g0, g1, g2, g3, g4⟩ := HS1.out.im5 0 rfl
    obtain ⟨d0, d1, d2, d3, d4⟩ := HS1.out.fr5 0 rfl
    have HE := hide (HS1.out.fill5 (L1 := []) (.int .i64 (-1)) (.int .i64 0) (.int .i64 0) (.int .i64 0) (.int .i64 (-1))).below
    clear HS1 hlik
    go_wp2_with fail
    exact bodyPost_ret (v := vF .no) (by simp [results, Tryd.results11, go_sem, g0, g1, g2, g3, g4, FT.no]) rfl ⟨by rw [HV.out], HE.out⟩
  go_wp2_with fail
  refine (cI _).mono ?_
  rintro e w2 ⟨rfl, h1⟩
  obtain rfl := h1.symm
  cases hin : inB r 0 2
  · have HV := hide (mat_no (r := r) (show (likB X Y Z n f X' Y' Z' n' f' && inB r 0 2) = false by rw [hlik, hin]; rfl))
    obtain ⟨g0, g1, g2, g3, g4⟩ := HS1.out.im5 0 rfl
    obtain ⟨d0, d1, d2, d3, d4⟩ := HS1.out.fr5 0 rfl
    have HE := hide (HS1.out.fill5 (L1 := []) (.int .i64 (-1)) (.int .i64 0) (.int .i64 0) (.int .i64 0) (.int .i64 (-1))).below
    clear HS1 hlik hin
    go_wp2_with fail
    exact bodyPost_ret (v := vF .no) (by simp [results, Tryd.results11, go_sem, g0, g1, g2, g3, g4, FT.no]) rfl ⟨by rw [HV.out], HE.out⟩
  have HV := hide (mat_yes (r := r) (show (likB X Y Z n f X' Y' Z' n' f' && inB r 0 2) = true by rw [hlik, hin]; rfl))
  have hr := inB_iffF.1 hin
  clear hin cI
  obtain ⟨hcA, hcB, hXX, hX6⟩ := lik_parts hlik
  obtain ⟨ea1, ea2, hX, hnX, hn2⟩ := cubB_parts hcA
  obtain ⟨eb1, eb2, -, hnX', -⟩ := cubB_parts hcB
  subst ea1 ea2 hXX eb1 eb2
  obtain rfl : n = n' := by omega
  have hn1 := cub_posF hcA
  have hfA := cub_in hcA
  obtain ⟨m, hm⟩ : ∃ m : Nat, (m : Int) = 2 * r + 1 := ⟨(2 * r + 1).toNat, by omega⟩
  have hm' : (2 * r + 1).toNat = m := by omega
  rw [hm'] at HV
  have HM := hide hm
  have HM1 : Hid (1 ≤ m) := by show _ ≤ _; omega
  clear hm hm' hlik hX6 hnX'
  have HFB : Hid (∀ T, T < 12 → ∀ k, k < n → -4095 ≤ tvs (tgT (tqT T) X) f' n k ∧ tvs (tgT (tqT T) X) f' n k ≤ 4095) := fun T hT => cub_in (cub_turnF (tq_ok T hT) hcB)
  have HCT : Hid (∀ T, T < 12 → ∀ a9 c9 w', Px a9 n f' w' → Calls Tryd.prog 24 #[vVolume X X X a9 n c9, tv (tbA.getD (T * 4) 0) (tbA.getD (T * 4 + 1) 0) (tbA.getD (T * 4 + 2) 0) (tbA.getD (T * 4 + 3) 0)] w' fun e w'' => ∃ b' cp', e = .returned (vVolume X X X (some ⟨b', 0, none⟩) n cp') ∧ Row b' n (tvs (tgT (tqT T) X) f' n) w'' ∧ Below w'.heap.size w' w'') := fun T hT a9 c9 w' hw => turnI_any X n f' hcB _ _ _ _ (tq_ok T hT) a9 c9 w' hw
  have HCB : Hid (∀ T, T < 12 → ∀ a9 c9 w', Px a n f w' → Px a9 n (tvs (tgT (tqT T) X) f' n) w' → Calls Tryd.prog 26 #[vVolume X X X a n cap, vVolume X X X a9 n c9, .int .i64 r] w' fun e w'' => e = .returned (vF (bx (mtC f f' X n T) 0 r m .z0 m)) ∧ Below w'.heap.size w' w'') := fun T hT a9 c9 w' hw hw' => bestShift_any X a n cap f a9 c9 _ hX hnX hn2 hfA (HFB.out T hT) r hr m HM.out w' hw hw'
  have HG : Hid (∀ T, T < 12 → ∀ x y z, 0 ≤ mtC f f' X n T x y z) := fun T hT x y z => (cst_bd hX hnX hfA (HFB.out T hT) x y z n (Nat.le_refl _)).1
  clear hcA hcB hfA HFB hnX hn2
  generalize mtC f f' X n = co at *
  have HS2 := hide (HS1.out.box (cF ⟨-1, 0, 0, 0, 0⟩) 32)
  go_upto_region 4 with fail
  generalize hw2 : w1.alloc (.cells (cF ⟨-1, 0, 0, 0, 0⟩).toArray 32) = w2 at HS2
  have hw2' : w1.alloc (.cells #[.int .i64 (-1), .int .i64 0, .int .i64 0, .int .i64 0, .int .i64 0] 32) = w2 := hw2
  try rw [hw2']
  clear hw2 hw2' HS1
  generalize w1.heap.size = Q at *
  have HR := hide (tb_range (HTB.out.below HS2.out.below (Nat.le_refl _)))
  have HIX : Hid (∀ T : Nat, T < 12 → ∀ w', (Instr.index 49 (.agg (ints tbA).toArray) (.int .i64 (T : Int))).run Tryd.prog w' = .ok (tv (tbA.getD (T * 4) 0) (tbA.getD (T * 4 + 1) 0) (tbA.getD (T * 4 + 2) 0) (tbA.getD (T * 4 + 3) 0)) w') := fun T hT w' => by
    have := tb_index T hT w'
    rw [Nat.mul_comm 4 T] at this
    exact this
  have HU := hide tb_info
  generalize hST : ints tbA = ST at HR HIX HU
  clear hST
  go_wp2_with (refine wpList_load_mid rfl 49 (.global 0) rfl 0 0 rfl ST _ HR.out tb_under rfl HU.out ?_)
  generalize ST.toArray = TA at *
  clear HR HU
  go_wp2_with fail
  go_loopw [23, 10] (fun s p wr => ∃ T : Nat, T ≤ 12 ∧ s = .int .i64 (T : Int) ∧ (∀ M, p = .pointer (some ⟨M, 0, none⟩) → M < wr.heap.size) ∧ St w [(Q, cF (mB co r m T)), (w.heap.size + 2, [.int .i64 0, .int .i64 0, .int .i64 0, .int .i64 0, .int .i64 0]), (w.heap.size + 1, [.int .i64 X, .int .i64 X, .int .i64 X, .slice a' n cap']), (w.heap.size, [.int .i64 X, .int .i64 X, .int .i64 X, .slice a n cap])] [] wr) (fun s _ _ => (12 - intOf s).toNat)
  case atStart => exact ⟨0, by omega, rfl, fun M hM => (by cases hM), HS2.out⟩
  case round =>
    obtain ⟨T, hT, rfl, hold, hs⟩ := hrel
    clear HS2
    have HS := hide hs
    by_cases hTl : T < 12
    · have hix := HIX.out T hTl
      have cT := HCT.out T hTl
      obtain ⟨t0, ht0⟩ : ∃ t0, t0 = tbA.getD (T * 4) 0 := ⟨_, rfl⟩
      obtain ⟨t1, ht1⟩ : ∃ t1, t1 = tbA.getD (T * 4 + 1) 0 := ⟨_, rfl⟩
      obtain ⟨t2, ht2⟩ : ∃ t2, t2 = tbA.getD (T * 4 + 2) 0 := ⟨_, rfl⟩
      obtain ⟨t3, ht3⟩ : ∃ t3, t3 = tbA.getD (T * 4 + 3) 0 := ⟨_, rfl⟩
      rw [← ht0, ← ht1, ← ht2, ← ht3] at hix cT
      clear ht0 ht1 ht2 ht3
      have HBN := hide (bnew wr (.cells #[.int .i64 t0, .int .i64 t1, .int .i64 t2, .int .i64 t3] 41))
      have BT : Hid (Bx wr.heap.size [.int .i64 t0, .int .i64 t1, .int .i64 t2, .int .i64 t3] (wr.alloc (.cells #[.int .i64 t0, .int .i64 t1, .int .i64 t2, .int .i64 t3] 41))) := Bx.new [.int .i64 t0, .int .i64 t1, .int .i64 t2, .int .i64 t3] 41 wr
      have HOLD : Hid (∀ M, u10 = .pointer (some ⟨M, 0, none⟩) → M < (wr.alloc (.cells #[.int .i64 t0, .int .i64 t1, .int .i64 t2, .int .i64 t3] 41)).heap.size) := fun M hM => by have := hold M hM; simp; omega
      clear hold hs
      go_upto_region 7 with fail
      generalize hwX : wr.alloc (.cells #[.int .i64 t0, .int .i64 t1, .int .i64 t2, .int .i64 t3] 41) = wX at *
      clear hwX
      have HSX := hide (HS.out.next HBN.out)
      clear HBN HS
      generalize wr.heap.size = P9 at *
      have BA : Hid (Bx w.heap.size [.int .i64 X, .int .i64 X, .int .i64 X, .slice a n cap] wX) := fun j v hv => ⟨HSX.out.cell 3 rfl j hv, HSX.out.free 3 rfl j hv⟩
      have BB : Hid (Bx (w.heap.size + 1) [.int .i64 X, .int .i64 X, .int .i64 X, .slice a' n cap'] wX) := fun j v hv => ⟨HSX.out.cell 2 rfl j hv, HSX.out.free 2 rfl j hv⟩
      have HP := hide (HP0.out.below HSX.out.below)
      have HQ := hide (HQ0.out.below HSX.out.below)
      obtain ⟨R, hR⟩ : ∃ R, R = bx (co T) 0 r m .z0 m := ⟨_, rfl⟩
      have HSTEP := hide (mB_step HG.out hTl r HM1.out hR.symm)
      obtain ⟨ft, hft⟩ : ∃ ft, ft = tvs (tgT (tqT T) X) f' n := ⟨_, rfl⟩
      have cB := HCB.out T hTl
      rw [← hft] at cT cB
      rw [← hR] at cB
      clear hft hR hix
      obtain ⟨G, hG⟩ : ∃ G : Nat → Value → Prop, G = (fun j v => match j, v with | 0, v => v = vVolume X X X a n cap | 1, v => v = vVolume X X X a' n cap' | 2, v => v = tv t0 t1 t2 t3 | 4, v => v = .int .i64 r | 5, v => v = vF R | _, _ => True) := ⟨_, rfl⟩
      have G0 : Hid (∀ v, G 0 v ↔ v = vVolume X X X a n cap) := fun v => by rw [hG]; exact Iff.rfl
      have G1 : Hid (∀ v, G 1 v ↔ v = vVolume X X X a' n cap') := fun v => by rw [hG]; exact Iff.rfl
      have G2 : Hid (∀ v, G 2 v ↔ v = tv t0 t1 t2 t3) := fun v => by rw [hG]; exact Iff.rfl
      have G3 : Hid (∀ v, G 3 v) := fun v => by rw [hG]; trivial
      have G4 : Hid (∀ v, G 4 v ↔ v = .int .i64 r) := fun v => by rw [hG]; exact Iff.rfl
      have G5 : Hid (∀ v, G 5 v ↔ v = vF R) := fun v => by rw [hG]; exact Iff.rfl
      have G6 : Hid (∀ v, G 6 v ∧ G 7 v) := fun v => by rw [hG]; exact ⟨trivial, trivial⟩
      clear hG
      refine region_opsU (mkR wX) (mkF wX X n G ft R) (by kernel_rfl) (by kernel_rfl) (by kernel_rfl) ?_ ?_ ?_
      · refine ⟨(Below.refl _ _).drew, fun M hM hMB => ?_⟩
        have := HOLD.out M (Eq.trans (Eq.symm (by kernel_rfl)) hM)
        omega
      · refine ⟨?_, ?_, ?_, ?_, ?_, ?_, ?_, ?_, trivial⟩
        · intro u w21 au hau hu hF hp' K hK
          have t3 : au.tmps[3]?.getD undef = .pointer (some ⟨w.heap.size, 0, none⟩) := by rw [hau.out]; kernel_rfl
          have bx := BA.out.below hF.1 BA.out.lt
          obtain ⟨x0, -⟩ := bx 0 _ rfl
          obtain ⟨x1, -⟩ := bx 1 _ rfl
          obtain ⟨x2, -⟩ := bx 2 _ rfl
          obtain ⟨x3, -⟩ := bx 3 _ rfl
          clear bx
          refine step_plain rfl ?_
          go_simp
          exact hK.out (vVolume X X X a n cap) _ (mkR_up hF (Below.refl _ _) 0 (by omega) _) (mkF_val 0 (by omega) (by omega) ((G0.out _).2 rfl)) (fun j hj _ h => mkF_up hn1 (Below.refl _ _) 0 (by omega) _ j hj h)
        · intro u w21 au hau hu hF hp' K hK
          have t4 : au.tmps[4]?.getD undef = .pointer (some ⟨w.heap.size + 1, 0, none⟩) := by rw [hau.out]; kernel_rfl
          have bx := BB.out.below hF.1 BB.out.lt
          obtain ⟨x0, -⟩ := bx 0 _ rfl
          obtain ⟨x1, -⟩ := bx 1 _ rfl
          obtain ⟨x2, -⟩ := bx 2 _ rfl
          obtain ⟨x3, -⟩ := bx 3 _ rfl
          clear bx
          refine step_plain rfl ?_
          go_simp
          exact hK.out (vVolume X X X a' n cap') _ (mkR_up hF (Below.refl _ _) 1 (by omega) _) (mkF_val 1 (by omega) (by omega) ((G1.out _).2 rfl)) (fun j hj _ h => mkF_up hn1 (Below.refl _ _) 1 (by omega) _ j hj h)
        · intro u w21 au hau hu hF hp' K hK
          have t9 : au.tmps[9]?.getD undef = .pointer (some ⟨P9, 0, none⟩) := by rw [hau.out]; kernel_rfl
          have bx := BT.out.below hF.1 BT.out.lt
          obtain ⟨x0, -⟩ := bx 0 _ rfl
          obtain ⟨x1, -⟩ := bx 1 _ rfl
          obtain ⟨x2, -⟩ := bx 2 _ rfl
          obtain ⟨x3, -⟩ := bx 3 _ rfl
          clear bx
          refine step_plain rfl ?_
          go_simp
          exact hK.out (tv t0 t1 t2 t3) _ (mkR_up hF (Below.refl _ _) 2 (by omega) _) (mkF_val 2 (by omega) (by omega) ((G2.out _).2 rfl)) (fun j hj _ h => mkF_up hn1 (Below.refl _ _) 2 (by omega) _ j hj h)
        · intro u w21 au hau hu hF hp' K hK
          have h1 : u 1 = vVolume X X X a' n cap' := (G1.out _).1 (PreF.get hp' 1 (by kernel_rfl)).1
          have t28 : au.tmps[28]?.getD undef = u 1 := by rw [hau.out]; kernel_rfl
          rw [h1] at t28
          have h2 : u 2 = tv t0 t1 t2 t3 := (G2.out _).1 (PreF.get hp' 2 (by kernel_rfl)).1
          have t29 : au.tmps[29]?.getD undef = u 2 := by rw [hau.out]; kernel_rfl
          rw [h2] at t29
          have c := cT a' cap' w21 (HQ.out.below hF.1)
          refine step_plain rfl ?_
          go_simp
          refine c.mono ?_
          rintro e w22 ⟨b9, c9, rfl, hr9, hb9⟩
          exact hK.out (vVolume X X X (some ⟨b9, 0, none⟩) n c9) _ (mkR_up hF hb9 3 (by omega) _) ⟨G3.out _, fun _ => .inr ⟨b9, c9, upU_same _ _ _, hr9⟩, fun e => by omega, fun e => by omega⟩ (fun j hj _ h => mkF_up hn1 hb9 3 (by omega) _ j hj h)
        · intro u w21 au hau hu hF hp' K hK
          have t2 : au.tmps[2]?.getD undef = .int .i64 r := by rw [hau.out]; kernel_rfl
          refine step_plain rfl ?_
          go_simp
          exact hK.out (.int .i64 r) _ (mkR_up hF (Below.refl _ _) 4 (by omega) _) (mkF_val 4 (by omega) (by omega) ((G4.out _).2 rfl)) (fun j hj _ h => mkF_up hn1 (Below.refl _ _) 4 (by omega) _ j hj h)
        · intro u w21 au hau hu hF hp' K hK
          have h0 : u 0 = vVolume X X X a n cap := (G0.out _).1 (PreF.get hp' 0 (by kernel_rfl)).1
          have t27 : au.tmps[27]?.getD undef = u 0 := by rw [hau.out]; kernel_rfl
          rw [h0] at t27
          have h4 : u 4 = .int .i64 r := (G4.out _).1 (PreF.get hp' 4 (by kernel_rfl)).1
          have t31 : au.tmps[31]?.getD undef = u 4 := by rw [hau.out]; kernel_rfl
          rw [h4] at t31
          have h7 : u 7 = undef := (hu.out 7 (by decide) (.inr (by kernel_rfl))).trans (by kernel_rfl)
          obtain ⟨b8, c8, h3, r8⟩ := ((PreF.get hp' 3 (by kernel_rfl)).2.1 rfl).resolve_left (fun h => h h7)
          have t30 : au.tmps[30]?.getD undef = u 3 := by rw [hau.out]; kernel_rfl
          rw [h3] at t30
          have c := cB (some ⟨b8, 0, none⟩) c8 w21 (HP.out.below hF.1) r8.px
          refine step_plain rfl ?_
          go_simp
          refine c.mono ?_
          rintro e w22 ⟨rfl, hb9⟩
          exact hK.out (vF R) _ (mkR_up hF hb9 5 (by omega) _) (mkF_val 5 (by omega) (by omega) ((G5.out _).2 rfl)) (fun j hj _ h => mkF_up hn1 hb9 5 (by omega) _ j hj h)
        · intro u w21 au hau hu hF hp' K hK
          refine step_plain rfl ?_
          go_simp
          exact hK.out (.pointer (some ⟨w21.heap.size, 0, none⟩)) _ (mkR_al hF _) ⟨(G6.out _).1, fun e => by omega, fun _ => ⟨_, upU_same _ _ _, hF.1.size⟩, fun e => by omega⟩ (fun j hj hf h => mkF_al hn1 _ _ j hj (fun e => by subst e; exact absurd (Eq.trans (Eq.symm (by kernel_rfl)) hf) Bool.false_ne_true) h)
        · intro u w21 au hau hu hF hp' K hK
          have h7 : u 7 = undef := (hu.out 7 (by decide) (.inl rfl)).trans (by kernel_rfl)
          obtain ⟨M, h6, hMB⟩ := (PreF.get hp' 6 (by kernel_rfl)).2.2.1 rfl
          have h5 : u 5 = vF R := (G5.out _).1 (PreF.get hp' 5 (by kernel_rfl)).1
          have t32 : au.tmps[32]?.getD undef = u 5 := by rw [hau.out]; kernel_rfl
          rw [h5] at t32
          have hbx := (hF.2 M h6 hMB).resolve_left (fun h => h h7)
          have t10 : au.tmps[10]?.getD undef = u 6 := by rw [hau.out]; kernel_rfl
          rw [h6] at t10
          obtain ⟨x0, y0⟩ := hbx 0 _ rfl
          obtain ⟨x1, y1⟩ := hbx 1 _ rfl
          obtain ⟨x2, y2⟩ := hbx 2 _ rfl
          obtain ⟨x3, y3⟩ := hbx 3 _ rfl
          obtain ⟨x4, y4⟩ := hbx 4 _ rfl
          refine step_plain rfl ?_
          go_simp
          exact hK.out (.bool true) _ (mkR_st hF hMB _ _ _ _ _ (by simp [undef])) ⟨(G6.out _).2, fun e => by omega, fun e => by omega, fun _ => ⟨M, (upU_other _ _ (by omega)).trans h6, hMB, hbx.to5 _ _ _ _ _⟩⟩ (fun j hj _ h => mkF_st (by simp [undef]) j hj h)
      · intro u w30 hF hall
        obtain ⟨M9, h6, hBM, bx⟩ := (hall 7 (by decide)).2.2.2 rfl
        have HF30 := hide hF.1
        have BX := hide bx
        have HBM := hide hBM
        clear hF hall bx hBM G0 G1 G2 G3 G4 G5 G6
        simp only [rgPut, Act.put, h6]
        clear h6
        go_simp
        have HS9 := hide (HSX.out.next HF30.out)
        have hQX : Q < wX.heap.size := World.block_lt_of_cell? _ _ (HSX.out.im5 0 rfl).1
        have HQM : Hid (M9 ≠ Q) := by have := HBM.out; show _ ≠ _; omega
        have HLT : Hid (∀ M, (Value.pointer (some ⟨M9, 0, none⟩)) = .pointer (some ⟨M, 0, none⟩) → M < w30.heap.size) := fun M hM => by cases hM; exact BX.out.lt
        obtain ⟨x0, -⟩ := BX.out 0 _ rfl
        obtain ⟨x1, -⟩ := BX.out 1 _ rfl
        obtain ⟨x2, -⟩ := BX.out 2 _ rfl
        obtain ⟨x3, -⟩ := BX.out 3 _ rfl
        obtain ⟨x4, -⟩ := BX.out 4 _ rfl
        clear HSX hQX BA BB BT HP HQ cT cB HF30 HOLD
        generalize mB co r m T = S at *
        obtain ⟨S0, S1, S2, S3, S4⟩ := S
        obtain ⟨R0, R1, R2, R3, R4⟩ := R
        obtain ⟨b0, b1, b2, b3, b4⟩ := HS9.out.im5 0 rfl
        obtain ⟨d0, d1, d2, d3, d4⟩ := HS9.out.fr5 0 rfl
        have HLT2 : Hid (∀ v0 v1 v2 v3 v4 v5, M9 < ((set5 w30 Q v0 v1 v2 v3 v4).setCell ⟨Q, 0, none⟩ v5).heap.size) := fun _ _ _ _ _ _ => by have := BX.out.lt; simpa using this
        have HFL := hide (St.fill (L1 := []) (HS9.out.fill5 (L1 := []) (.int .i64 R0) (.int .i64 R1) (.int .i64 R2) (.int .i64 R3) (.int .i64 R4)) 0 (.int .i64 (T : Int)))
        by_cases hc : S0 < 0
        · have HB : Hid (mB co r m (T + 1) = ⟨(T : Int), R1, R2, R3, R4⟩) := HSTEP.out.trans (if_pos (.inl hc))
          go_wp2_with fail
          exact ⟨⟨T + 1, by omega, by simp, fun M hM => (by cases hM; exact HLT2.out _ _ _ _ _ _), by rw [HB.out]; exact HFL.out⟩, by simp [intOf] <;> omega⟩
        · by_cases hl9 : R4 < S4
          · have HB : Hid (mB co r m (T + 1) = ⟨(T : Int), R1, R2, R3, R4⟩) := HSTEP.out.trans (if_pos (.inr hl9))
            go_wp2_with fail
            exact ⟨⟨T + 1, by omega, by simp, fun M hM => (by cases hM; exact HLT2.out _ _ _ _ _ _), by rw [HB.out]; exact HFL.out⟩, by simp [intOf] <;> omega⟩
          · have HB : Hid (mB co r m (T + 1) = ⟨S0, S1, S2, S3, S4⟩) := HSTEP.out.trans (if_neg (by simp; omega))
            go_wp2_with fail
            exact ⟨⟨T + 1, by omega, by simp, HLT.out, by rw [HB.out]; exact HS9.out⟩, by simp [intOf] <;> omega⟩
    · obtain rfl : T = 12 := by omega
      rw [mB_all] at HS
      clear hs hold
      generalize hRR : bt co r m 12 = R at HS
      rw [hRR] at HV
      clear hRR
      obtain ⟨R0, R1, R2, R3, R4⟩ := R
      obtain ⟨b0, b1, b2, b3, b4⟩ := HS.out.im5 0 rfl
      obtain ⟨g0, g1, g2, g3, g4⟩ := HS.out.im5 1 rfl
      obtain ⟨d0, d1, d2, d3, d4⟩ := HS.out.fr5 1 rfl
      have HE := hide (HS.out.fill5 (L1 := [_]) (.int .i64 R0) (.int .i64 R1) (.int .i64 R2) (.int .i64 R3) (.int .i64 R4)).below
      clear HS
      go_wp2_with fail
      exact bodyPost_ret (v := vF ⟨R0, R1, R2, R3, R4⟩) (by simp [results, Tryd.results11, go_sem, g0, g1, g2, g3, g4]) rfl ⟨by rw [HV.out], HE.out⟩

end Go.Proofs.YtncaekmjpfjneaaDoor
