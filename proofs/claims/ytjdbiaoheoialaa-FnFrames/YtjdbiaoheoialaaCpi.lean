/- Compose: the program. -/
import Derived.Test.YtjdbiaoheoialaaBhn
import Derived.Test.YtjdbiaoheoialaaCpn
namespace Go.Proofs.Ytjdbiaoheoialaa
open Go.RowKit

/-- a region of which one operation alone stores, the last -/
def bhR (K : Nat) (wB : World) (u : Nat → Value) (w : World) : Prop := u K = undef → Below wB.heap.size wB w
def bhF (K : Nat) (G : Nat → Value → Prop) (P : World → Prop) (j : Nat) (u : Nat → Value) (w : World) : Prop := G j (u j) ∧ (j = K → P w)
theorem bhR_up {K : Nat} {wB : World} {u : Nat → Value} {w w' : World} (h : bhR K wB u w) (hb : Below w.heap.size w w') (i : Nat) (hi : K ≠ i) (v : Value) : bhR K wB (upU u i v) w' := by
  intro h0
  rw [upU_other u v hi] at h0
  have h1 := h h0
  exact h1.trans (hb.mono h1.size)
theorem bhF_up {K : Nat} {G : Nat → Value → Prop} {P : World → Prop} {u : Nat → Value} {w w' : World} (i : Nat) (v : Value) (j : Nat) (hj : j ≠ i) (hK : j ≠ K) (h : bhF K G P j u w) : bhF K G P j (upU u i v) w' :=
  ⟨by rw [upU_other u v hj]; exact h.1, fun e => absurd e hK⟩
theorem bhF_val {K : Nat} {G : Nat → Value → Prop} {P : World → Prop} {u : Nat → Value} {w : World} (j : Nat) (hK : j ≠ K) {v : Value} (h : G j v) : bhF K G P j (upU u j v) w :=
  ⟨by rw [upU_same]; exact h, fun e => absurd e hK⟩
theorem bx_far {b p k : Nat} {cs : List Value} {w : World} (h : Bx b cs w) (hp : p ≠ b) (x : Value) : Bx b cs (w.setCell ⟨p, k, none⟩ x) := fun j v hv =>
  ⟨by rw [World.cell?_setCell_other _ _ _ _ (by intro e; exact hp (congrArg Addr.block e))]; exact (h j v hv).1, by simpa using (h j v hv).2⟩
theorem bx_drew {b : Nat} {cs : List Value} {w : World} (h : Bx b cs w) (hl : b < w.heap.size) : Bx b cs w.drew := h.below (Below.refl _ _).drew hl
theorem column_at (A : Nat → Int) {k : Nat} (hk : k < 3) (w : World) : Calls Try.prog 38 #[mat9 A, .int .i64 (k : Int)] w fun e w' => e = .returned (vec3 (colF A k)) ∧ Below w.heap.size w w' := by
  match k, hk with
  | 0, _ => exact column0_any A w
  | 1, _ => exact column1_any A w
  | 2, _ => exact column2_any A w

set_option maxRecDepth 100000 in
set_option maxHeartbeats 8000000 in
theorem behind_any (M T : Nat → Int) (D : Int) (L S : Nat → Int) (E : Int) (bD : 1 ≤ D ∧ D ≤ 1000000) (bM : ∀ i, i < 9 → -1000000 ≤ M i ∧ M i ≤ 1000000) (bT : ∀ i, i < 3 → -1000000 ≤ T i ∧ T i ≤ 1000000) (bE : 1 ≤ E ∧ E ≤ 1000000) (bL : ∀ i, i < 9 → -1000000 ≤ L i ∧ L i ≤ 1000000) (bS : ∀ i, i < 3 → -1000000 ≤ S i ∧ S i ≤ 1000000) (w : World) :
    Calls Try.prog 22 #[mapV M T D, mapV L S E] w fun e w' => e = .returned (mapV (bhM M L) (bhT M T S E) (D * E)) ∧ Below w.heap.size w w' := by
  have hDE := mul_b6 (show -1000000 ≤ D ∧ D ≤ 1000000 by omega) (show -1000000 ≤ E ∧ E ≤ 1000000 by omega)
  obtain ⟨DE, hde⟩ : ∃ x, x = D * E := ⟨_, rfl⟩
  have eDE : IntKind.i64.wrap (D * E) = DE := by rw [IntKind.wrap_i64, ← hde]; rw [← hde] at hDE; omega
  rw [← hde]
  have HS0 := hide (((((St.start w).box (c13 M T D) 48).box' (c13 L S E) 48 (b := w.heap.size + 1) (by simp)).box' (c13 (fun _ => 0) (fun _ => 0) 0) 48 (b := w.heap.size + 2) (by simp)).box' (c13 (fun _ => 0) (fun _ => 0) DE) 48 (b := w.heap.size + 3) (by simp))
  have cT := fun k (hk : k < 3) wx => times_any M (colF L k) (fun i hi => by
    obtain ⟨g0, g1, g2⟩ := (timF_b bM (colF_b bL hk) hi).1
    unfold timF
    omega) wx
  have cS := fun wx => times_any M S (fun i hi => by
    obtain ⟨g0, g1, g2⟩ := (timF_b bM bS hi).1
    unfold timF
    omega) wx
  have cV := fun wx => vscaled_any T E (fun k hk => by
    have := mul_b6 (bT k hk) (show -1000000 ≤ E ∧ E ≤ 1000000 by omega)
    omega) wx
  have cP := fun wx => vplus_any (timF M S) (fun k => T k * E) (fun k hk => by
    have := mul_b6 (bT k hk) (show -1000000 ≤ E ∧ E ≤ 1000000 by omega)
    have := (timF_b bM bS hk).2
    omega) wx
  clear hDE hde bD bM bT bE bL bS
  unfold mapV
  go_enter Try.func22, Try.ntmps22
  go_upto_region 2 with fail
  obtain ⟨w4, hw4⟩ : ∃ w4, w4 = (((w.alloc (.cells #[.int .i64 (M 0), .int .i64 (M 1), .int .i64 (M 2), .int .i64 (M 3), .int .i64 (M 4), .int .i64 (M 5), .int .i64 (M 6), .int .i64 (M 7), .int .i64 (M 8), .int .i64 (T 0), .int .i64 (T 1), .int .i64 (T 2), .int .i64 D] 48)).alloc (.cells #[.int .i64 (L 0), .int .i64 (L 1), .int .i64 (L 2), .int .i64 (L 3), .int .i64 (L 4), .int .i64 (L 5), .int .i64 (L 6), .int .i64 (L 7), .int .i64 (L 8), .int .i64 (S 0), .int .i64 (S 1), .int .i64 (S 2), .int .i64 E] 48)).alloc (.cells #[.int .i64 0, .int .i64 0, .int .i64 0, .int .i64 0, .int .i64 0, .int .i64 0, .int .i64 0, .int .i64 0, .int .i64 0, .int .i64 0, .int .i64 0, .int .i64 0, .int .i64 0] 48)).alloc (.cells #[.int .i64 0, .int .i64 0, .int .i64 0, .int .i64 0, .int .i64 0, .int .i64 0, .int .i64 0, .int .i64 0, .int .i64 0, .int .i64 0, .int .i64 0, .int .i64 0, .int .i64 DE] 48) := ⟨_, rfl⟩
  have HS4 : Hid (St w [(w.heap.size + 3, c13 (fun _ => 0) (fun _ => 0) DE), (w.heap.size + 2, c13 (fun _ => 0) (fun _ => 0) 0), (w.heap.size + 1, c13 L S E), (w.heap.size, c13 M T D)] [] w4) := by rw [hw4]; exact HS0.out
  rw [← hw4]
  clear hw4 HS0
  have BM : Hid (Bx w.heap.size (c13 M T D) w4) := HS4.out.bxAt 3 rfl
  have BL : Hid (Bx (w.heap.size + 1) (c13 L S E) w4) := HS4.out.bxAt 2 rfl
  have BR : Hid (Bx (w.heap.size + 1 + 1) (c13 (fun _ => 0) (fun _ => 0) 0) w4) := HS4.out.bxAt 1 rfl
  have BO : Hid (Bx (w.heap.size + 1 + 1 + 1) (c13 (fun _ => 0) (fun _ => 0) DE) w4) := HS4.out.bxAt 0 rfl
  have HW := hide HS4.out.below
  clear HS4
  generalize hq3 : w.heap.size + 1 + 1 + 1 = Q3 at *
  generalize hq2 : w.heap.size + 1 + 1 = Q2 at *
  generalize hq1 : w.heap.size + 1 = Q1 at *
  have HQ : Hid (Q1 = w.heap.size + 1 ∧ Q2 = w.heap.size + 2 ∧ Q3 = w.heap.size + 3) := ⟨by omega, by omega, by omega⟩
  clear hq1 hq2 hq3
  go_wp2_with fail
  go_loopw [7, 14] (fun p i wr => ∃ k : Nat, (∀ B, p = .pointer (some ⟨B, 0, none⟩) → B < wr.heap.size) ∧ k ≤ 3 ∧ i = .int .i64 k ∧ Bx w.heap.size (c13 M T D) wr ∧ Bx Q1 (c13 L S E) wr ∧ Bx Q2 (c13 (fun _ => 0) (fun _ => 0) 0) wr ∧ Bx Q3 (c13 (bhK M L k) (fun _ => 0) DE) wr ∧ Below w.heap.size w wr) (fun _ i _ => 3 - (intOf i).toNat)
  case atStart => exact ⟨0, fun B h => by simp [undef] at h, by omega, rfl, BM.out, BL.out, BR.out, by rw [bhK_0]; exact BO.out, HW.out⟩
  case round =>
    obtain ⟨k, hp7, hk, rfl, hbm, hbl, hbr, hbo, hbw⟩ := hrel
    have HP7 := hide hp7
    clear hp7
    have HBM := hide hbm
    have HBL := hide hbl
    have HBR := hide hbr
    have HBO := hide hbo
    have HBW := hide hbw
    clear hbm hbl hbr hbo hbw BM BL BR BO HW
    by_cases hlt : k < 3
    · have hki : (k : Int) < 3 := by omega
      go_upto_region 5 with fail

      obtain ⟨w5, hw5⟩ : ∃ w5, w5 = wr := ⟨_, rfl⟩
      rw [← hw5] at HBM HBL HBR HBO HBW HP7
      rw [← hw5]
      clear hw5
      have cC := fun wx => column_at L hlt wx
      have cK := fun wx => cT k hlt wx
      obtain ⟨Y0, hY0⟩ : ∃ x, x = timF M (colF L k) 0 := ⟨_, rfl⟩
      obtain ⟨Y1, hY1⟩ : ∃ x, x = timF M (colF L k) 1 := ⟨_, rfl⟩
      obtain ⟨Y2, hY2⟩ : ∃ x, x = timF M (colF L k) 2 := ⟨_, rfl⟩
      have hv3 : vec3 (timF M (colF L k)) = .agg #[.int .i64 Y0, .int .i64 Y1, .int .i64 Y2] := by rw [hY0, hY1, hY2]; rfl
      rw [hv3] at cK
      have HY : Hid (Y0 = timF M (colF L k) 0 ∧ Y1 = timF M (colF L k) 1 ∧ Y2 = timF M (colF L k) 2) := ⟨hY0, hY1, hY2⟩
      clear hY0 hY1 hY2 hv3 cT eDE cS cV cP
      have HLM := hide HBM.out.lt
      have HLL := hide HBL.out.lt
      obtain ⟨G, hG⟩ : ∃ G : Nat → Value → Prop, G = (fun j v => match j with | 0 => v = .pointer (some ⟨w.heap.size, 0, none⟩) | 1 => v = mat9 M | 2 => v = .pointer (some ⟨Q1, 0, none⟩) | 3 => v = mat9 L | 4 => v = .int .i64 (k : Int) | 5 => v = vec3 (colF L k) | 6 => v = .agg #[.int .i64 Y0, .int .i64 Y1, .int .i64 Y2] | _ => True) := ⟨_, rfl⟩
      have G0 : Hid (∀ v, G 0 v ↔ v = .pointer (some ⟨w.heap.size, 0, none⟩)) := fun v => by rw [hG]; exact Iff.rfl
      have G1 : Hid (∀ v, G 1 v ↔ v = mat9 M) := fun v => by rw [hG]; exact Iff.rfl
      have G2 : Hid (∀ v, G 2 v ↔ v = .pointer (some ⟨Q1, 0, none⟩)) := fun v => by rw [hG]; exact Iff.rfl
      have G3 : Hid (∀ v, G 3 v ↔ v = mat9 L) := fun v => by rw [hG]; exact Iff.rfl
      have G4 : Hid (∀ v, G 4 v ↔ v = .int .i64 (k : Int)) := fun v => by rw [hG]; exact Iff.rfl
      have G5 : Hid (∀ v, G 5 v ↔ v = vec3 (colF L k)) := fun v => by rw [hG]; exact Iff.rfl
      have G6 : Hid (∀ v, G 6 v ↔ v = .agg #[.int .i64 Y0, .int .i64 Y1, .int .i64 Y2]) := fun v => by rw [hG]; exact Iff.rfl
      have G7 : Hid (∀ v, G 7 v) := fun v => by rw [hG]; trivial
      have G8 : Hid (∀ v, G 8 v) := fun v => by rw [hG]; trivial
      clear hG
      obtain ⟨PX, hPX⟩ : ∃ P : Nat → World → Prop, P = (fun q wx => Bx q [.int .i64 Y0, .int .i64 Y1, .int .i64 Y2] wx) := ⟨_, rfl⟩
      have HPX : Hid (∀ (q : Nat) (wx wy : World), Below wx.heap.size wx wy → PX q wx → PX q wy) := by
        intro q wx wy hb hp
        rw [hPX] at hp ⊢
        exact hp.below hb hp.lt
      refine region_opsU (bR 7 8 (.int .i64 0) [.int .i64 0, .int .i64 0] w5) (bG 7 8 w5 G PX) (by kernel_rfl) (by kernel_rfl) (by kernel_rfl) ?_ ?_ ?_
      · refine ⟨(Below.refl _ _).drew, fun B hB hBB => ?_⟩
        have h7 := HP7.out B hB
        exact absurd h7 (by omega)
      · refine ⟨?_, ?_, ?_, ?_, ?_, ?_, ?_, ?_, ?_, trivial⟩
        · intro u w21 au hau hu hF hp' K hK
          have t2 : au.tmps[2]?.getD undef = .pointer (some ⟨w.heap.size, 0, none⟩) := by rw [hau.out]; kernel_rfl
          refine step_plain rfl ?_
          go_simp
          exact hK.out (.pointer (some ⟨w.heap.size, 0, none⟩)) _ (bR_up hF (Below.refl _ _) 0 (by omega) (by omega) _) (bG_val 0 (by omega) (by omega) ((G0.out _).2 rfl)) (fun j hj _ h => bG_up (fun M => HPX.out M _ _ (Below.refl _ _)) 0 (by omega) _ j hj h)
        · intro u w21 au hau hu hF hp' K hK
          have h0 : u 0 = .pointer (some ⟨w.heap.size, 0, none⟩) := (G0.out _).1 (PreF.get hp' 0 (by kernel_rfl)).1
          have t17 : au.tmps[17]?.getD undef = u 0 := by rw [hau.out]; kernel_rfl
          rw [h0] at t17
          have bx := HBM.out.below hF.1 HLM.out
          obtain ⟨x0, -⟩ := bx 0 _ rfl
          obtain ⟨x1, -⟩ := bx 1 _ rfl
          obtain ⟨x2, -⟩ := bx 2 _ rfl
          obtain ⟨x3, -⟩ := bx 3 _ rfl
          obtain ⟨x4, -⟩ := bx 4 _ rfl
          obtain ⟨x5, -⟩ := bx 5 _ rfl
          obtain ⟨x6, -⟩ := bx 6 _ rfl
          obtain ⟨x7, -⟩ := bx 7 _ rfl
          obtain ⟨x8, -⟩ := bx 8 _ rfl
          clear bx
          refine step_plain rfl ?_
          go_simp
          exact hK.out (mat9 M) _ (bR_up hF (Below.refl _ _) 1 (by omega) (by omega) _) (bG_val 1 (by omega) (by omega) ((G1.out _).2 rfl)) (fun j hj _ h => bG_up (fun M => HPX.out M _ _ (Below.refl _ _)) 1 (by omega) _ j hj h)
        · intro u w21 au hau hu hF hp' K hK
          have t3 : au.tmps[3]?.getD undef = .pointer (some ⟨Q1, 0, none⟩) := by rw [hau.out]; kernel_rfl
          refine step_plain rfl ?_
          go_simp
          exact hK.out (.pointer (some ⟨Q1, 0, none⟩)) _ (bR_up hF (Below.refl _ _) 2 (by omega) (by omega) _) (bG_val 2 (by omega) (by omega) ((G2.out _).2 rfl)) (fun j hj _ h => bG_up (fun M => HPX.out M _ _ (Below.refl _ _)) 2 (by omega) _ j hj h)
        · intro u w21 au hau hu hF hp' K hK
          have h2 : u 2 = .pointer (some ⟨Q1, 0, none⟩) := (G2.out _).1 (PreF.get hp' 2 (by kernel_rfl)).1
          have t19 : au.tmps[19]?.getD undef = u 2 := by rw [hau.out]; kernel_rfl
          rw [h2] at t19
          have bx := HBL.out.below hF.1 HLL.out
          obtain ⟨x0, -⟩ := bx 0 _ rfl
          obtain ⟨x1, -⟩ := bx 1 _ rfl
          obtain ⟨x2, -⟩ := bx 2 _ rfl
          obtain ⟨x3, -⟩ := bx 3 _ rfl
          obtain ⟨x4, -⟩ := bx 4 _ rfl
          obtain ⟨x5, -⟩ := bx 5 _ rfl
          obtain ⟨x6, -⟩ := bx 6 _ rfl
          obtain ⟨x7, -⟩ := bx 7 _ rfl
          obtain ⟨x8, -⟩ := bx 8 _ rfl
          clear bx
          refine step_plain rfl ?_
          go_simp
          exact hK.out (mat9 L) _ (bR_up hF (Below.refl _ _) 3 (by omega) (by omega) _) (bG_val 3 (by omega) (by omega) ((G3.out _).2 rfl)) (fun j hj _ h => bG_up (fun M => HPX.out M _ _ (Below.refl _ _)) 3 (by omega) _ j hj h)
        · intro u w21 au hau hu hF hp' K hK
          have t6 : au.tmps[6]?.getD undef = .int .i64 (k : Int) := by rw [hau.out]; kernel_rfl
          refine step_plain rfl ?_
          go_simp
          exact hK.out (.int .i64 (k : Int)) _ (bR_up hF (Below.refl _ _) 4 (by omega) (by omega) _) (bG_val 4 (by omega) (by omega) ((G4.out _).2 rfl)) (fun j hj _ h => bG_up (fun M => HPX.out M _ _ (Below.refl _ _)) 4 (by omega) _ j hj h)
        · intro u w21 au hau hu hF hp' K hK
          have h3 : u 3 = mat9 L := (G3.out _).1 (PreF.get hp' 3 (by kernel_rfl)).1
          have t20 : au.tmps[20]?.getD undef = u 3 := by rw [hau.out]; kernel_rfl
          rw [h3] at t20
          have h4 : u 4 = .int .i64 (k : Int) := (G4.out _).1 (PreF.get hp' 4 (by kernel_rfl)).1
          have t21 : au.tmps[21]?.getD undef = u 4 := by rw [hau.out]; kernel_rfl
          rw [h4] at t21
          have c := cC w21
          refine step_plain rfl ?_
          go_simp
          refine c.mono ?_
          rintro e w22 ⟨rfl, hb9⟩
          exact hK.out (vec3 (colF L k)) _ (bR_up hF hb9 5 (by omega) (by omega) _) (bG_val 5 (by omega) (by omega) ((G5.out _).2 rfl)) (fun j hj _ h => bG_up (fun M => HPX.out M _ _ hb9) 5 (by omega) _ j hj h)
        · intro u w21 au hau hu hF hp' K hK
          have h1 : u 1 = mat9 M := (G1.out _).1 (PreF.get hp' 1 (by kernel_rfl)).1
          have t18 : au.tmps[18]?.getD undef = u 1 := by rw [hau.out]; kernel_rfl
          rw [h1] at t18
          have h5 : u 5 = vec3 (colF L k) := (G5.out _).1 (PreF.get hp' 5 (by kernel_rfl)).1
          have t22 : au.tmps[22]?.getD undef = u 5 := by rw [hau.out]; kernel_rfl
          rw [h5] at t22
          have c := cK w21
          refine step_plain rfl ?_
          go_simp
          refine c.mono ?_
          rintro e w22 ⟨rfl, hb9⟩
          exact hK.out (.agg #[.int .i64 Y0, .int .i64 Y1, .int .i64 Y2]) _ (bR_up hF hb9 6 (by omega) (by omega) _) (bG_val 6 (by omega) (by omega) ((G6.out _).2 rfl)) (fun j hj _ h => bG_up (fun M => HPX.out M _ _ hb9) 6 (by omega) _ j hj h)
        · intro u w21 au hau hu hF hp' K hK
          refine step_plain rfl ?_
          go_simp
          exact hK.out (.pointer (some ⟨w21.heap.size, 0, none⟩)) _ (bR_al hF (Bx.new [.int .i64 0, .int .i64 0, .int .i64 0] 46 w21)) (bG_ptr (by omega) G7.out hF.1.size) (fun j hj hf h => bG_al j hj (fun e => by subst e; exact absurd (Eq.trans (Eq.symm (by kernel_rfl)) hf) Bool.false_ne_true) h)
        · intro u w21 au hau hu hF hp' K hK
          have hS : u 8 = undef := (hu.out 8 (by decide) (.inl rfl)).trans (by kernel_rfl)
          obtain ⟨q, hA, hBM⟩ := (PreF.get hp' 7 (by kernel_rfl)).2.1 rfl
          have hbx := (hF.2 q hA hBM).resolve_left (fun h => h hS)
          have t7 : au.tmps[7]?.getD undef = u 7 := by rw [hau.out]; kernel_rfl
          rw [hA] at t7
          have h6 : u 6 = .agg #[.int .i64 Y0, .int .i64 Y1, .int .i64 Y2] := (G6.out _).1 (PreF.get hp' 6 (by kernel_rfl)).1
          have t23 : au.tmps[23]?.getD undef = u 6 := by rw [hau.out]; kernel_rfl
          rw [h6] at t23
          obtain ⟨x0, y0⟩ := hbx 0 _ rfl
          obtain ⟨x1, y1⟩ := hbx 1 _ rfl
          obtain ⟨x2, y2⟩ := hbx 2 _ rfl
          refine step_plain rfl ?_
          go_simp
          exact hK.out (.bool true) _ (bR_st (((hF.1.setCell (p := ⟨q, 0, none⟩) hBM _).setCell (p := ⟨q, 1, none⟩) hBM _).setCell (p := ⟨q, 2, none⟩) hBM _) (by simp [undef])) (bG_done (by omega) G8.out hA hBM (by rw [hPX]; exact ((hbx.set 0 (.int .i64 Y0)).set 1 (.int .i64 Y1)).set 2 (.int .i64 Y2))) (fun j hj _ h => bG_st (by omega) j hj h)
      · intro u w30 hF hall
        obtain ⟨M9, hA, hBM, hp⟩ := (hall 8 (by decide)).2.2 rfl
        rw [hPX] at hp
        have hb := hF.1
        have HBM6 := hide (HBM.out.below hb HBM.out.lt)
        have HBL6 := hide (HBL.out.below hb HBL.out.lt)
        have HBR6 := hide (HBR.out.below hb HBR.out.lt)
        have HBO6 := hide (HBO.out.below hb HBO.out.lt)
        have HBW6 := hide (HBW.out.trans (hb.mono HBW.out.size))
        have HY6 := hide hp
        have HM9 : Hid (Q3 < M9) := Nat.lt_of_lt_of_le HBO.out.lt hBM
        simp only [rgPut, Act.put, hA]
        clear hF hall hp hBM hb hA HBM HBL HBR HBO HBW HPX hPX PX cC cK HLM HLL G0 G1 G2 G3 G4 G5 G6 G7 G8
        go_simp
        have hcol := c13_col M L (fun _ => 0) DE hlt
        rw [← HY.out.1, ← HY.out.2.1, ← HY.out.2.2] at hcol
        have HCOL := hide hcol
        clear hcol
        have hle3 : w.heap.size ≤ Q3 := by
          have h := HQ.out
          omega
        have hN9 : Q3 ≠ M9 := by
          have h := HM9.out
          omega
        by_cases hk0 : k = 0
        · subst hk0
          obtain ⟨v0, -⟩ := HY6.out 0 _ rfl
          obtain ⟨v1, -⟩ := HY6.out 1 _ rfl
          obtain ⟨v2, -⟩ := HY6.out 2 _ rfl
          obtain ⟨x0, y0⟩ := HBO6.out 0 _ rfl
          obtain ⟨x3, y3⟩ := HBO6.out 3 _ rfl
          obtain ⟨x6, y6⟩ := HBO6.out 6 _ rfl
          obtain ⟨w31, hw31⟩ : ∃ w31, w31 = (((w30.setCell ⟨Q3, 0, none⟩ (.int .i64 Y0)).setCell ⟨Q3, 3, none⟩ (.int .i64 Y1)).setCell ⟨Q3, 6, none⟩ (.int .i64 Y2)).drew := ⟨_, rfl⟩
          have HBOn : Hid (Bx Q3 (c13 (bhK M L (0 + 1)) (fun _ => 0) DE) w31) := by
            have h := ((HBO6.out.set 0 (.int .i64 Y0)).set 3 (.int .i64 Y1)).set 6 (.int .i64 Y2)
            have hc := HCOL.out
            simp only [Nat.reduceAdd, Nat.add_zero] at hc
            rw [hc] at h
            rw [hw31]
            exact bx_drew h h.lt
          have HBWn : Hid (Below w.heap.size w w31) := by rw [hw31]; exact (((HBW6.out.setCell (p := ⟨Q3, 0, none⟩) hle3 _).setCell (p := ⟨Q3, 3, none⟩) hle3 _).setCell (p := ⟨Q3, 6, none⟩) hle3 _).drew
          have HBMn : Hid (Bx w.heap.size (c13 M T D) w31) := by
            have h := HQ.out
            have h' := bx_far (k := 6) (bx_far (k := 3) (bx_far (k := 0) HBM6.out (show Q3 ≠ w.heap.size by omega) (.int .i64 Y0)) (show Q3 ≠ w.heap.size by omega) (.int .i64 Y1)) (show Q3 ≠ w.heap.size by omega) (.int .i64 Y2)
            rw [hw31]
            exact bx_drew h' h'.lt
          have HBLn : Hid (Bx Q1 (c13 L S E) w31) := by
            have h := HQ.out
            have h' := bx_far (k := 6) (bx_far (k := 3) (bx_far (k := 0) HBL6.out (show Q3 ≠ Q1 by omega) (.int .i64 Y0)) (show Q3 ≠ Q1 by omega) (.int .i64 Y1)) (show Q3 ≠ Q1 by omega) (.int .i64 Y2)
            rw [hw31]
            exact bx_drew h' h'.lt
          have HBRn : Hid (Bx Q2 (c13 (fun _ => 0) (fun _ => 0) 0) w31) := by
            have h := HQ.out
            have h' := bx_far (k := 6) (bx_far (k := 3) (bx_far (k := 0) HBR6.out (show Q3 ≠ Q2 by omega) (.int .i64 Y0)) (show Q3 ≠ Q2 by omega) (.int .i64 Y1)) (show Q3 ≠ Q2 by omega) (.int .i64 Y2)
            rw [hw31]
            exact bx_drew h' h'.lt
          have HPn : Hid (∀ B, Value.pointer (some ⟨M9, 0, none⟩) = .pointer (some ⟨B, 0, none⟩) → B < w31.heap.size) := by
            intro B h
            cases h
            have h' := bx_far (k := 6) (bx_far (k := 3) (bx_far (k := 0) HY6.out hN9 (.int .i64 Y0)) hN9 (.int .i64 Y1)) hN9 (.int .i64 Y2)
            rw [hw31]
            exact (bx_drew h' h'.lt).lt
          clear HBM6 HBL6 HBR6 HBO6 HBW6 HY6 HCOL
          go_upto_region 6 with fail
          go_region
          all_goals
            rw [← hw31]
            clear hw31
            go_wp2_with fail
            exact ⟨⟨0 + 1, HPn.out, by omega, by simp, HBMn.out, HBLn.out, HBRn.out, HBOn.out, HBWn.out⟩, by simp [intOf]⟩
        by_cases hk1 : k = 1
        · subst hk1
          obtain ⟨v0, -⟩ := HY6.out 0 _ rfl
          obtain ⟨v1, -⟩ := HY6.out 1 _ rfl
          obtain ⟨v2, -⟩ := HY6.out 2 _ rfl
          obtain ⟨x1, y1⟩ := HBO6.out 1 _ rfl
          obtain ⟨x4, y4⟩ := HBO6.out 4 _ rfl
          obtain ⟨x7, y7⟩ := HBO6.out 7 _ rfl
          obtain ⟨w31, hw31⟩ : ∃ w31, w31 = (((w30.setCell ⟨Q3, 1, none⟩ (.int .i64 Y0)).setCell ⟨Q3, 4, none⟩ (.int .i64 Y1)).setCell ⟨Q3, 7, none⟩ (.int .i64 Y2)).drew := ⟨_, rfl⟩
          have HBOn : Hid (Bx Q3 (c13 (bhK M L (1 + 1)) (fun _ => 0) DE) w31) := by
            have h := ((HBO6.out.set 1 (.int .i64 Y0)).set 4 (.int .i64 Y1)).set 7 (.int .i64 Y2)
            have hc := HCOL.out
            simp only [Nat.reduceAdd] at hc
            rw [hc] at h
            rw [hw31]
            exact bx_drew h h.lt
          have HBWn : Hid (Below w.heap.size w w31) := by rw [hw31]; exact (((HBW6.out.setCell (p := ⟨Q3, 1, none⟩) hle3 _).setCell (p := ⟨Q3, 4, none⟩) hle3 _).setCell (p := ⟨Q3, 7, none⟩) hle3 _).drew
          have HBMn : Hid (Bx w.heap.size (c13 M T D) w31) := by
            have h := HQ.out
            have h' := bx_far (k := 7) (bx_far (k := 4) (bx_far (k := 1) HBM6.out (show Q3 ≠ w.heap.size by omega) (.int .i64 Y0)) (show Q3 ≠ w.heap.size by omega) (.int .i64 Y1)) (show Q3 ≠ w.heap.size by omega) (.int .i64 Y2)
            rw [hw31]
            exact bx_drew h' h'.lt
          have HBLn : Hid (Bx Q1 (c13 L S E) w31) := by
            have h := HQ.out
            have h' := bx_far (k := 7) (bx_far (k := 4) (bx_far (k := 1) HBL6.out (show Q3 ≠ Q1 by omega) (.int .i64 Y0)) (show Q3 ≠ Q1 by omega) (.int .i64 Y1)) (show Q3 ≠ Q1 by omega) (.int .i64 Y2)
            rw [hw31]
            exact bx_drew h' h'.lt
          have HBRn : Hid (Bx Q2 (c13 (fun _ => 0) (fun _ => 0) 0) w31) := by
            have h := HQ.out
            have h' := bx_far (k := 7) (bx_far (k := 4) (bx_far (k := 1) HBR6.out (show Q3 ≠ Q2 by omega) (.int .i64 Y0)) (show Q3 ≠ Q2 by omega) (.int .i64 Y1)) (show Q3 ≠ Q2 by omega) (.int .i64 Y2)
            rw [hw31]
            exact bx_drew h' h'.lt
          have HPn : Hid (∀ B, Value.pointer (some ⟨M9, 0, none⟩) = .pointer (some ⟨B, 0, none⟩) → B < w31.heap.size) := by
            intro B h
            cases h
            have h' := bx_far (k := 7) (bx_far (k := 4) (bx_far (k := 1) HY6.out hN9 (.int .i64 Y0)) hN9 (.int .i64 Y1)) hN9 (.int .i64 Y2)
            rw [hw31]
            exact (bx_drew h' h'.lt).lt
          clear HBM6 HBL6 HBR6 HBO6 HBW6 HY6 HCOL
          go_upto_region 6 with fail
          go_region
          all_goals
            rw [← hw31]
            clear hw31
            go_wp2_with fail
            exact ⟨⟨1 + 1, HPn.out, by omega, by simp, HBMn.out, HBLn.out, HBRn.out, HBOn.out, HBWn.out⟩, by simp [intOf]⟩
        obtain rfl : k = 2 := by omega
        obtain ⟨v0, -⟩ := HY6.out 0 _ rfl
        obtain ⟨v1, -⟩ := HY6.out 1 _ rfl
        obtain ⟨v2, -⟩ := HY6.out 2 _ rfl
        obtain ⟨x2, y2⟩ := HBO6.out 2 _ rfl
        obtain ⟨x5, y5⟩ := HBO6.out 5 _ rfl
        obtain ⟨x8, y8⟩ := HBO6.out 8 _ rfl
        obtain ⟨w31, hw31⟩ : ∃ w31, w31 = (((w30.setCell ⟨Q3, 2, none⟩ (.int .i64 Y0)).setCell ⟨Q3, 5, none⟩ (.int .i64 Y1)).setCell ⟨Q3, 8, none⟩ (.int .i64 Y2)).drew := ⟨_, rfl⟩
        have HBOn : Hid (Bx Q3 (c13 (bhK M L (2 + 1)) (fun _ => 0) DE) w31) := by
          have h := ((HBO6.out.set 2 (.int .i64 Y0)).set 5 (.int .i64 Y1)).set 8 (.int .i64 Y2)
          have hc := HCOL.out
          simp only [Nat.reduceAdd] at hc
          rw [hc] at h
          rw [hw31]
          exact bx_drew h h.lt
        have HBWn : Hid (Below w.heap.size w w31) := by rw [hw31]; exact (((HBW6.out.setCell (p := ⟨Q3, 2, none⟩) hle3 _).setCell (p := ⟨Q3, 5, none⟩) hle3 _).setCell (p := ⟨Q3, 8, none⟩) hle3 _).drew
        have HBMn : Hid (Bx w.heap.size (c13 M T D) w31) := by
          have h := HQ.out
          have h' := bx_far (k := 8) (bx_far (k := 5) (bx_far (k := 2) HBM6.out (show Q3 ≠ w.heap.size by omega) (.int .i64 Y0)) (show Q3 ≠ w.heap.size by omega) (.int .i64 Y1)) (show Q3 ≠ w.heap.size by omega) (.int .i64 Y2)
          rw [hw31]
          exact bx_drew h' h'.lt
        have HBLn : Hid (Bx Q1 (c13 L S E) w31) := by
          have h := HQ.out
          have h' := bx_far (k := 8) (bx_far (k := 5) (bx_far (k := 2) HBL6.out (show Q3 ≠ Q1 by omega) (.int .i64 Y0)) (show Q3 ≠ Q1 by omega) (.int .i64 Y1)) (show Q3 ≠ Q1 by omega) (.int .i64 Y2)
          rw [hw31]
          exact bx_drew h' h'.lt
        have HBRn : Hid (Bx Q2 (c13 (fun _ => 0) (fun _ => 0) 0) w31) := by
          have h := HQ.out
          have h' := bx_far (k := 8) (bx_far (k := 5) (bx_far (k := 2) HBR6.out (show Q3 ≠ Q2 by omega) (.int .i64 Y0)) (show Q3 ≠ Q2 by omega) (.int .i64 Y1)) (show Q3 ≠ Q2 by omega) (.int .i64 Y2)
          rw [hw31]
          exact bx_drew h' h'.lt
        have HPn : Hid (∀ B, Value.pointer (some ⟨M9, 0, none⟩) = .pointer (some ⟨B, 0, none⟩) → B < w31.heap.size) := by
          intro B h
          cases h
          have h' := bx_far (k := 8) (bx_far (k := 5) (bx_far (k := 2) HY6.out hN9 (.int .i64 Y0)) hN9 (.int .i64 Y1)) hN9 (.int .i64 Y2)
          rw [hw31]
          exact (bx_drew h' h'.lt).lt
        clear HBM6 HBL6 HBR6 HBO6 HBW6 HY6 HCOL
        go_upto_region 6 with fail
        go_region
        all_goals
          rw [← hw31]
          clear hw31
          go_wp2_with fail
          exact ⟨⟨2 + 1, HPn.out, by omega, by simp, HBMn.out, HBLn.out, HBRn.out, HBOn.out, HBWn.out⟩, by simp [intOf]⟩
    · have hk3 : k = 3 := by omega
      have hki : ¬ (k : Int) < 3 := by omega
      have HBO3 : Hid (Bx Q3 (c13 (bhM M L) (fun _ => 0) DE) wr) := by
        have := HBO.out
        rw [hk3] at this
        rwa [bhK_3] at this
      clear hk3 HBO
      obtain ⟨w5, hw5⟩ : ∃ w5, w5 = wr := ⟨_, rfl⟩
      rw [← hw5] at HBM HBL HBR HBO3 HBW
      rw [← hw5]
      clear hw5
      go_upto_region 8 with fail
      obtain ⟨X0, hX0⟩ : ∃ x, x = bhT M T S E 0 := ⟨_, rfl⟩
      obtain ⟨X1, hX1⟩ : ∃ x, x = bhT M T S E 1 := ⟨_, rfl⟩
      obtain ⟨X2, hX2⟩ : ∃ x, x = bhT M T S E 2 := ⟨_, rfl⟩
      have hv3 : vec3 (fun k => timF M S k + T k * E) = .agg #[.int .i64 X0, .int .i64 X1, .int .i64 X2] := by rw [hX0, hX1, hX2]; rfl
      rw [hv3] at cP
      have HX : Hid (X0 = bhT M T S E 0 ∧ X1 = bhT M T S E 1 ∧ X2 = bhT M T S E 2) := ⟨hX0, hX1, hX2⟩
      clear hX0 hX1 hX2 hv3 cT eDE
      have HLO := hide HBO3.out.lt
      have HLM := hide HBM.out.lt
      have HLL := hide HBL.out.lt
      obtain ⟨G, hG⟩ : ∃ G : Nat → Value → Prop, G = (fun j v => match j with | 0 => v = .pointer (some ⟨w.heap.size, 0, none⟩) | 1 => v = mat9 M | 2 => v = .pointer (some ⟨Q1, 9, none⟩) | 3 => v = vec3 S | 4 => v = vec3 (timF M S) | 5 => v = .pointer (some ⟨w.heap.size, 9, none⟩) | 6 => v = vec3 T | 7 => v = .pointer (some ⟨Q1, 12, none⟩) | 8 => v = .int .i64 E | 9 => v = vec3 (fun k => T k * E) | 10 => v = .agg #[.int .i64 X0, .int .i64 X1, .int .i64 X2] | 11 => v = .pointer (some ⟨Q3, 9, none⟩) | _ => True) := ⟨_, rfl⟩
      have G0 : Hid (∀ v, G 0 v ↔ v = .pointer (some ⟨w.heap.size, 0, none⟩)) := fun v => by rw [hG]; exact Iff.rfl
      have G1 : Hid (∀ v, G 1 v ↔ v = mat9 M) := fun v => by rw [hG]; exact Iff.rfl
      have G2 : Hid (∀ v, G 2 v ↔ v = .pointer (some ⟨Q1, 9, none⟩)) := fun v => by rw [hG]; exact Iff.rfl
      have G3 : Hid (∀ v, G 3 v ↔ v = vec3 S) := fun v => by rw [hG]; exact Iff.rfl
      have G4 : Hid (∀ v, G 4 v ↔ v = vec3 (timF M S)) := fun v => by rw [hG]; exact Iff.rfl
      have G5 : Hid (∀ v, G 5 v ↔ v = .pointer (some ⟨w.heap.size, 9, none⟩)) := fun v => by rw [hG]; exact Iff.rfl
      have G6 : Hid (∀ v, G 6 v ↔ v = vec3 T) := fun v => by rw [hG]; exact Iff.rfl
      have G7 : Hid (∀ v, G 7 v ↔ v = .pointer (some ⟨Q1, 12, none⟩)) := fun v => by rw [hG]; exact Iff.rfl
      have G8 : Hid (∀ v, G 8 v ↔ v = .int .i64 E) := fun v => by rw [hG]; exact Iff.rfl
      have G9 : Hid (∀ v, G 9 v ↔ v = vec3 (fun k => T k * E)) := fun v => by rw [hG]; exact Iff.rfl
      have G10 : Hid (∀ v, G 10 v ↔ v = .agg #[.int .i64 X0, .int .i64 X1, .int .i64 X2]) := fun v => by rw [hG]; exact Iff.rfl
      have G11 : Hid (∀ v, G 11 v ↔ v = .pointer (some ⟨Q3, 9, none⟩)) := fun v => by rw [hG]; exact Iff.rfl
      have G12 : Hid (∀ v, G 12 v) := fun v => by rw [hG]; trivial
      clear hG
      refine region_opsU (bhR 12 w5) (bhF 12 G (fun wx => ∃ w9, wx = ((w9.setCell ⟨Q3, 9, none⟩ (.int .i64 X0)).setCell ⟨Q3, 10, none⟩ (.int .i64 X1)).setCell ⟨Q3, 11, none⟩ (.int .i64 X2) ∧ Below w5.heap.size w5 w9)) (by kernel_rfl) (by kernel_rfl) (by kernel_rfl) ?_ ?_ ?_
      · exact fun _ => (Below.refl _ _).drew
      · refine ⟨?_, ?_, ?_, ?_, ?_, ?_, ?_, ?_, ?_, ?_, ?_, ?_, ?_, trivial⟩
        · intro u w21 au hau hu hF hp' K hK
          have t2 : au.tmps[2]?.getD undef = .pointer (some ⟨w.heap.size, 0, none⟩) := by rw [hau.out]; kernel_rfl
          refine step_plain rfl ?_
          go_simp
          exact hK.out (.pointer (some ⟨w.heap.size, 0, none⟩)) _ (bhR_up hF (Below.refl _ _) 0 (by omega) _) (bhF_val 0 (by omega) ((G0.out _).2 rfl)) (fun j hj hf h => bhF_up 0 _ j hj (fun e => by subst e; exact absurd (Eq.trans (Eq.symm (by kernel_rfl)) hf) Bool.false_ne_true) h)
        · intro u w21 au hau hu hF hp' K hK
          have h0 : u 0 = .pointer (some ⟨w.heap.size, 0, none⟩) := (G0.out _).1 (PreF.get hp' 0 (by kernel_rfl)).1
          have t42 : au.tmps[42]?.getD undef = u 0 := by rw [hau.out]; kernel_rfl
          rw [h0] at t42
          have hS := hF ((hu.out 12 (by decide) (.inr (by kernel_rfl))).trans (by kernel_rfl))
          have bx := HBM.out.below hS HLM.out
          obtain ⟨x0, -⟩ := bx 0 _ rfl
          obtain ⟨x1, -⟩ := bx 1 _ rfl
          obtain ⟨x2, -⟩ := bx 2 _ rfl
          obtain ⟨x3, -⟩ := bx 3 _ rfl
          obtain ⟨x4, -⟩ := bx 4 _ rfl
          obtain ⟨x5, -⟩ := bx 5 _ rfl
          obtain ⟨x6, -⟩ := bx 6 _ rfl
          obtain ⟨x7, -⟩ := bx 7 _ rfl
          obtain ⟨x8, -⟩ := bx 8 _ rfl
          clear bx
          refine step_plain rfl ?_
          go_simp
          exact hK.out (mat9 M) _ (bhR_up hF (Below.refl _ _) 1 (by omega) _) (bhF_val 1 (by omega) ((G1.out _).2 rfl)) (fun j hj hf h => bhF_up 1 _ j hj (fun e => by subst e; exact absurd (Eq.trans (Eq.symm (by kernel_rfl)) hf) Bool.false_ne_true) h)
        · intro u w21 au hau hu hF hp' K hK
          have t3 : au.tmps[3]?.getD undef = .pointer (some ⟨Q1, 0, none⟩) := by rw [hau.out]; kernel_rfl
          refine step_plain rfl ?_
          go_simp
          exact hK.out (.pointer (some ⟨Q1, 9, none⟩)) _ (bhR_up hF (Below.refl _ _) 2 (by omega) _) (bhF_val 2 (by omega) ((G2.out _).2 rfl)) (fun j hj hf h => bhF_up 2 _ j hj (fun e => by subst e; exact absurd (Eq.trans (Eq.symm (by kernel_rfl)) hf) Bool.false_ne_true) h)
        · intro u w21 au hau hu hF hp' K hK
          have h2 : u 2 = .pointer (some ⟨Q1, 9, none⟩) := (G2.out _).1 (PreF.get hp' 2 (by kernel_rfl)).1
          have t44 : au.tmps[44]?.getD undef = u 2 := by rw [hau.out]; kernel_rfl
          rw [h2] at t44
          have hS := hF ((hu.out 12 (by decide) (.inr (by kernel_rfl))).trans (by kernel_rfl))
          have bx := HBL.out.below hS HLL.out
          obtain ⟨x9, -⟩ := bx 9 _ rfl
          obtain ⟨x10, -⟩ := bx 10 _ rfl
          obtain ⟨x11, -⟩ := bx 11 _ rfl
          clear bx
          refine step_plain rfl ?_
          go_simp
          exact hK.out (vec3 S) _ (bhR_up hF (Below.refl _ _) 3 (by omega) _) (bhF_val 3 (by omega) ((G3.out _).2 rfl)) (fun j hj hf h => bhF_up 3 _ j hj (fun e => by subst e; exact absurd (Eq.trans (Eq.symm (by kernel_rfl)) hf) Bool.false_ne_true) h)
        · intro u w21 au hau hu hF hp' K hK
          have h1 : u 1 = mat9 M := (G1.out _).1 (PreF.get hp' 1 (by kernel_rfl)).1
          have t43 : au.tmps[43]?.getD undef = u 1 := by rw [hau.out]; kernel_rfl
          rw [h1] at t43
          have h3 : u 3 = vec3 S := (G3.out _).1 (PreF.get hp' 3 (by kernel_rfl)).1
          have t45 : au.tmps[45]?.getD undef = u 3 := by rw [hau.out]; kernel_rfl
          rw [h3] at t45
          have c := cS w21
          refine step_plain rfl ?_
          go_simp
          refine c.mono ?_
          rintro e w22 ⟨rfl, hb9⟩
          exact hK.out (vec3 (timF M S)) _ (bhR_up hF hb9 4 (by omega) _) (bhF_val 4 (by omega) ((G4.out _).2 rfl)) (fun j hj hf h => bhF_up 4 _ j hj (fun e => by subst e; exact absurd (Eq.trans (Eq.symm (by kernel_rfl)) hf) Bool.false_ne_true) h)
        · intro u w21 au hau hu hF hp' K hK
          have t2 : au.tmps[2]?.getD undef = .pointer (some ⟨w.heap.size, 0, none⟩) := by rw [hau.out]; kernel_rfl
          refine step_plain rfl ?_
          go_simp
          exact hK.out (.pointer (some ⟨w.heap.size, 9, none⟩)) _ (bhR_up hF (Below.refl _ _) 5 (by omega) _) (bhF_val 5 (by omega) ((G5.out _).2 rfl)) (fun j hj hf h => bhF_up 5 _ j hj (fun e => by subst e; exact absurd (Eq.trans (Eq.symm (by kernel_rfl)) hf) Bool.false_ne_true) h)
        · intro u w21 au hau hu hF hp' K hK
          have h5 : u 5 = .pointer (some ⟨w.heap.size, 9, none⟩) := (G5.out _).1 (PreF.get hp' 5 (by kernel_rfl)).1
          have t47 : au.tmps[47]?.getD undef = u 5 := by rw [hau.out]; kernel_rfl
          rw [h5] at t47
          have hS := hF ((hu.out 12 (by decide) (.inr (by kernel_rfl))).trans (by kernel_rfl))
          have bx := HBM.out.below hS HLM.out
          obtain ⟨x9, -⟩ := bx 9 _ rfl
          obtain ⟨x10, -⟩ := bx 10 _ rfl
          obtain ⟨x11, -⟩ := bx 11 _ rfl
          clear bx
          refine step_plain rfl ?_
          go_simp
          exact hK.out (vec3 T) _ (bhR_up hF (Below.refl _ _) 6 (by omega) _) (bhF_val 6 (by omega) ((G6.out _).2 rfl)) (fun j hj hf h => bhF_up 6 _ j hj (fun e => by subst e; exact absurd (Eq.trans (Eq.symm (by kernel_rfl)) hf) Bool.false_ne_true) h)
        · intro u w21 au hau hu hF hp' K hK
          have t3 : au.tmps[3]?.getD undef = .pointer (some ⟨Q1, 0, none⟩) := by rw [hau.out]; kernel_rfl
          refine step_plain rfl ?_
          go_simp
          exact hK.out (.pointer (some ⟨Q1, 12, none⟩)) _ (bhR_up hF (Below.refl _ _) 7 (by omega) _) (bhF_val 7 (by omega) ((G7.out _).2 rfl)) (fun j hj hf h => bhF_up 7 _ j hj (fun e => by subst e; exact absurd (Eq.trans (Eq.symm (by kernel_rfl)) hf) Bool.false_ne_true) h)
        · intro u w21 au hau hu hF hp' K hK
          have h7 : u 7 = .pointer (some ⟨Q1, 12, none⟩) := (G7.out _).1 (PreF.get hp' 7 (by kernel_rfl)).1
          have t49 : au.tmps[49]?.getD undef = u 7 := by rw [hau.out]; kernel_rfl
          rw [h7] at t49
          have hS := hF ((hu.out 12 (by decide) (.inr (by kernel_rfl))).trans (by kernel_rfl))
          have bx := HBL.out.below hS HLL.out
          obtain ⟨x12, -⟩ := bx 12 _ rfl
          clear bx
          refine step_plain rfl ?_
          go_simp
          exact hK.out (.int .i64 E) _ (bhR_up hF (Below.refl _ _) 8 (by omega) _) (bhF_val 8 (by omega) ((G8.out _).2 rfl)) (fun j hj hf h => bhF_up 8 _ j hj (fun e => by subst e; exact absurd (Eq.trans (Eq.symm (by kernel_rfl)) hf) Bool.false_ne_true) h)
        · intro u w21 au hau hu hF hp' K hK
          have h6 : u 6 = vec3 T := (G6.out _).1 (PreF.get hp' 6 (by kernel_rfl)).1
          have t48 : au.tmps[48]?.getD undef = u 6 := by rw [hau.out]; kernel_rfl
          rw [h6] at t48
          have h8 : u 8 = .int .i64 E := (G8.out _).1 (PreF.get hp' 8 (by kernel_rfl)).1
          have t50 : au.tmps[50]?.getD undef = u 8 := by rw [hau.out]; kernel_rfl
          rw [h8] at t50
          have c := cV w21
          refine step_plain rfl ?_
          go_simp
          refine c.mono ?_
          rintro e w22 ⟨rfl, hb9⟩
          exact hK.out (vec3 (fun k => T k * E)) _ (bhR_up hF hb9 9 (by omega) _) (bhF_val 9 (by omega) ((G9.out _).2 rfl)) (fun j hj hf h => bhF_up 9 _ j hj (fun e => by subst e; exact absurd (Eq.trans (Eq.symm (by kernel_rfl)) hf) Bool.false_ne_true) h)
        · intro u w21 au hau hu hF hp' K hK
          have h4 : u 4 = vec3 (timF M S) := (G4.out _).1 (PreF.get hp' 4 (by kernel_rfl)).1
          have t46 : au.tmps[46]?.getD undef = u 4 := by rw [hau.out]; kernel_rfl
          rw [h4] at t46
          have h9 : u 9 = vec3 (fun k => T k * E) := (G9.out _).1 (PreF.get hp' 9 (by kernel_rfl)).1
          have t51 : au.tmps[51]?.getD undef = u 9 := by rw [hau.out]; kernel_rfl
          rw [h9] at t51
          have c := cP w21
          refine step_plain rfl ?_
          go_simp
          refine c.mono ?_
          rintro e w22 ⟨rfl, hb9⟩
          exact hK.out (.agg #[.int .i64 X0, .int .i64 X1, .int .i64 X2]) _ (bhR_up hF hb9 10 (by omega) _) (bhF_val 10 (by omega) ((G10.out _).2 rfl)) (fun j hj hf h => bhF_up 10 _ j hj (fun e => by subst e; exact absurd (Eq.trans (Eq.symm (by kernel_rfl)) hf) Bool.false_ne_true) h)
        · intro u w21 au hau hu hF hp' K hK
          have t5 : au.tmps[5]?.getD undef = .pointer (some ⟨Q3, 0, none⟩) := by rw [hau.out]; kernel_rfl
          refine step_plain rfl ?_
          go_simp
          exact hK.out (.pointer (some ⟨Q3, 9, none⟩)) _ (bhR_up hF (Below.refl _ _) 11 (by omega) _) (bhF_val 11 (by omega) ((G11.out _).2 rfl)) (fun j hj hf h => bhF_up 11 _ j hj (fun e => by subst e; exact absurd (Eq.trans (Eq.symm (by kernel_rfl)) hf) Bool.false_ne_true) h)
        · intro u w21 au hau hu hF hp' K hK
          have h10 : u 10 = .agg #[.int .i64 X0, .int .i64 X1, .int .i64 X2] := (G10.out _).1 (PreF.get hp' 10 (by kernel_rfl)).1
          have t52 : au.tmps[52]?.getD undef = u 10 := by rw [hau.out]; kernel_rfl
          rw [h10] at t52
          have h11 : u 11 = .pointer (some ⟨Q3, 9, none⟩) := (G11.out _).1 (PreF.get hp' 11 (by kernel_rfl)).1
          have t53 : au.tmps[53]?.getD undef = u 11 := by rw [hau.out]; kernel_rfl
          rw [h11] at t53
          have hS := hF ((hu.out 12 (by decide) (.inl rfl)).trans (by kernel_rfl))
          have bx := HBO3.out.below hS HLO.out
          obtain ⟨x9, y9⟩ := bx 9 _ rfl
          obtain ⟨x10, y10⟩ := bx 10 _ rfl
          obtain ⟨x11, y11⟩ := bx 11 _ rfl
          clear bx
          refine step_plain rfl ?_
          go_simp
          exact hK.out (.bool true) _ (fun h0 => by rw [upU_same] at h0; simp [undef] at h0) ⟨G12.out _, fun _ => ⟨w21, rfl, hS⟩⟩ (fun j hj _ h => bhF_up 12 _ j hj hj h)
      · intro u w30 hF hall
        obtain ⟨w9, hw30, hb9⟩ := (hall 12 (by decide)).2 rfl
        have hle3 : w.heap.size ≤ Q3 := by
          have h := HQ.out
          omega
        have HB9 := hide (((HBW.out.trans (hb9.mono HBW.out.size)).setCell (p := ⟨Q3, 9, none⟩) hle3 (.int .i64 X0)).setCell (p := ⟨Q3, 10, none⟩) hle3 (.int .i64 X1) |>.setCell (p := ⟨Q3, 11, none⟩) hle3 (.int .i64 X2))
        have BO9 : Hid (Bx Q3 (c13 (bhM M L) (bhT M T S E) DE) (((w9.setCell ⟨Q3, 9, none⟩ (.int .i64 X0)).setCell ⟨Q3, 10, none⟩ (.int .i64 X1)).setCell ⟨Q3, 11, none⟩ (.int .i64 X2))) := by
          have h := (((HBO3.out.below hb9 HLO.out).set 9 (.int .i64 X0)).set 10 (.int .i64 X1)).set 11 (.int .i64 X2)
          rw [HX.out.1, HX.out.2.1, HX.out.2.2] at h ⊢
          exact h
        have BR9 : Hid (Bx Q2 (c13 (fun _ => 0) (fun _ => 0) 0) (((w9.setCell ⟨Q3, 9, none⟩ (.int .i64 X0)).setCell ⟨Q3, 10, none⟩ (.int .i64 X1)).setCell ⟨Q3, 11, none⟩ (.int .i64 X2))) := fun j v hv => by
          have h := (HBR.out.below hb9 HBR.out.lt) j v hv
          have hne : Q2 ≠ Q3 := by have h := HQ.out; omega
          refine ⟨?_, by simpa using h.2⟩
          rw [World.cell?_setCell_other _ _ _ _ (by intro e; exact hne (congrArg Addr.block e).symm), World.cell?_setCell_other _ _ _ _ (by intro e; exact hne (congrArg Addr.block e).symm), World.cell?_setCell_other _ _ _ _ (by intro e; exact hne (congrArg Addr.block e).symm)]
          exact h.1
        rw [hw30]
        clear hF hall hw30 hb9 HBO3 HBR HBM HBL HBW HLO HLM HLL cS cV cP G0 G1 G2 G3 G4 G5 G6 G7 G8 G9 G10 G11 G12
        generalize ((w9.setCell ⟨Q3, 9, none⟩ (.int .i64 X0)).setCell ⟨Q3, 10, none⟩ (.int .i64 X1)).setCell ⟨Q3, 11, none⟩ (.int .i64 X2) = w7 at *
        simp only [rgPut, Act.put]
        go_simp
        obtain ⟨MM, hMM⟩ : ∃ f, f = bhM M L := ⟨_, rfl⟩
        obtain ⟨TT, hTT⟩ : ∃ f, f = bhT M T S E := ⟨_, rfl⟩
        rw [← hMM, ← hTT] at BO9
        have HMT := hide (And.intro hMM hTT)
        clear hMM hTT
        obtain ⟨x0, -⟩ := BO9.out 0 _ rfl
        obtain ⟨z0, y0⟩ := BR9.out 0 _ rfl
        obtain ⟨x1, -⟩ := BO9.out 1 _ rfl
        obtain ⟨z1, y1⟩ := BR9.out 1 _ rfl
        obtain ⟨x2, -⟩ := BO9.out 2 _ rfl
        obtain ⟨z2, y2⟩ := BR9.out 2 _ rfl
        obtain ⟨x3, -⟩ := BO9.out 3 _ rfl
        obtain ⟨z3, y3⟩ := BR9.out 3 _ rfl
        obtain ⟨x4, -⟩ := BO9.out 4 _ rfl
        obtain ⟨z4, y4⟩ := BR9.out 4 _ rfl
        obtain ⟨x5, -⟩ := BO9.out 5 _ rfl
        obtain ⟨z5, y5⟩ := BR9.out 5 _ rfl
        obtain ⟨x6, -⟩ := BO9.out 6 _ rfl
        obtain ⟨z6, y6⟩ := BR9.out 6 _ rfl
        obtain ⟨x7, -⟩ := BO9.out 7 _ rfl
        obtain ⟨z7, y7⟩ := BR9.out 7 _ rfl
        obtain ⟨x8, -⟩ := BO9.out 8 _ rfl
        obtain ⟨z8, y8⟩ := BR9.out 8 _ rfl
        obtain ⟨x9, -⟩ := BO9.out 9 _ rfl
        obtain ⟨z9, y9⟩ := BR9.out 9 _ rfl
        obtain ⟨x10, -⟩ := BO9.out 10 _ rfl
        obtain ⟨z10, y10⟩ := BR9.out 10 _ rfl
        obtain ⟨x11, -⟩ := BO9.out 11 _ rfl
        obtain ⟨z11, y11⟩ := BR9.out 11 _ rfl
        obtain ⟨x12, -⟩ := BO9.out 12 _ rfl
        obtain ⟨z12, y12⟩ := BR9.out 12 _ rfl
        go_wp2_with fail
        refine bodyPost_ret (v := .agg #[.int .i64 (MM 0), .int .i64 (MM 1), .int .i64 (MM 2), .int .i64 (MM 3), .int .i64 (MM 4), .int .i64 (MM 5), .int .i64 (MM 6), .int .i64 (MM 7), .int .i64 (MM 8), .int .i64 (TT 0), .int .i64 (TT 1), .int .i64 (TT 2), .int .i64 DE]) (by simp [results, Try.results22, go_sem, z0, z1, z2, z3, z4, z5, z6, z7, z8, z9, z10, z11, z12]) rfl ⟨by rw [HMT.out.1, HMT.out.2], ?_⟩
        have hle : w.heap.size ≤ Q2 := by have h := HQ.out; omega
        exact (((((((((((((HB9.out).setCell (p := ⟨Q2, 0, none⟩) hle _).setCell (p := ⟨Q2, 1, none⟩) hle _).setCell (p := ⟨Q2, 2, none⟩) hle _).setCell (p := ⟨Q2, 3, none⟩) hle _).setCell (p := ⟨Q2, 4, none⟩) hle _).setCell (p := ⟨Q2, 5, none⟩) hle _).setCell (p := ⟨Q2, 6, none⟩) hle _).setCell (p := ⟨Q2, 7, none⟩) hle _).setCell (p := ⟨Q2, 8, none⟩) hle _).setCell (p := ⟨Q2, 9, none⟩) hle _).setCell (p := ⟨Q2, 10, none⟩) hle _).setCell (p := ⟨Q2, 11, none⟩) hle _).setCell (p := ⟨Q2, 12, none⟩) hle _

end Go.Proofs.Ytjdbiaoheoialaa

namespace Go.Proofs.Ytjdbiaoheoialaa
open Go.RowKit Go.Lib

set_option maxRecDepth 100000 in
set_option maxHeartbeats 8000000 in
theorem implCompose_any (D : Int) (a0 : Option Addr) (n0 c0 : Nat) (M : Nat → Int) (_hl0 : n0 ≤ 1048576) (a1 : Option Addr) (n1 c1 : Nat) (T : Nat → Int) (_hl1 : n1 ≤ 1048576) (E : Int) (g0 : Option Addr) (m0 d0 : Nat) (L : Nat → Int) (_hm0 : m0 ≤ 1048576) (g1 : Option Addr) (m1 d1 : Nat) (S : Nat → Int) (_hm1 : m1 ≤ 1048576) (w : World) (h0 : Px a0 n0 M w) (h1 : Px a1 n1 T w) (k0 : Px g0 m0 L w) (k1 : Px g1 m1 S w) :
    Calls Try.prog 8 #[vFrame D a0 n0 c0 a1 n1 c1, vFrame E g0 m0 d0 g1 m1 d1] w (FrX (cmQ D n0 M n1 T E m0 L m1 S) (cmD D M T E L S) (cmM D M T E L S) (cmT D M T E L S) w) := by
  have HS0 := hide ((((St.start w).box [.slice a0 n0 c0, .slice a1 n1 c1, .int .i64 D] 26).box' [.slice g0 m0 d0, .slice g1 m1 d1, .int .i64 E] 26 (b := w.heap.size + 1) (by simp)).box' [.slice none 0 0, .slice none 0 0, .int .i64 0] 26 (b := w.heap.size + 2) (by simp))
  have c := mappingOf_any D a0 n0 c0 M a1 n1 c1 T _ (h0.below HS0.out.below) (h1.below HS0.out.below)
  have c' := fun wx h h' => mappingOf_any E g0 m0 d0 L g1 m1 d1 S wx h h'
  have HK0 := hide k0
  have HK1 := hide k1
  clear h0 h1 k0 k1
  have HQ : Hid (cmQ D n0 M n1 T E m0 L m1 S = (frmB D n0 M n1 T && frmB E m0 L m1 S && frmB (cmD D M T E L S) 9 (cmM D M T E L S) 3 (cmT D M T E L S))) := by show _ = _; rfl
  generalize cmQ D n0 M n1 T E m0 L m1 S = Q at *
  have HFR : Hid (frI D n0 M n1 T = true → len93 n0 n1 = true) := fun hf => by unfold frI at hf; simp only [Bool.and_eq_true] at hf; exact hf.1
  have HFR' : Hid (frI E m0 L m1 S = true → len93 m0 m1 = true) := fun hf => by unfold frI at hf; simp only [Bool.and_eq_true] at hf; exact hf.1
  rw [← frI_eq D, ← frI_eq E] at HQ
  have HB1 : Hid (frI D n0 M n1 T = true → (1 ≤ D ∧ D ≤ 1000000) ∧ (∀ i, i < 9 → -1000000 ≤ M i ∧ M i ≤ 1000000) ∧ (∀ i, i < 3 → -1000000 ≤ T i ∧ T i ≤ 1000000)) := fun hf => by obtain ⟨-, -, x, y, z, -⟩ := frmB_parts ((frI_eq D n0 M n1 T).symm.trans hf); exact ⟨x, y, z⟩
  have HB2 : Hid (frI E m0 L m1 S = true → (1 ≤ E ∧ E ≤ 1000000) ∧ (∀ i, i < 9 → -1000000 ≤ L i ∧ L i ≤ 1000000) ∧ (∀ i, i < 3 → -1000000 ≤ S i ∧ S i ≤ 1000000)) := fun hf => by obtain ⟨-, -, x, y, z, -⟩ := frmB_parts ((frI_eq E m0 L m1 S).symm.trans hf); exact ⟨x, y, z⟩
  unfold MpR at c c'
  obtain ⟨rb, hrb⟩ : ∃ rb, rb = frI D n0 M n1 T := ⟨_, rfl⟩
  rw [← hrb] at c HQ HFR HB1
  clear hrb
  obtain ⟨rc, hrc⟩ : ∃ rc, rc = frI E m0 L m1 S := ⟨_, rfl⟩
  rw [← hrc] at c' HQ HFR' HB2
  clear hrc
  obtain ⟨M', hM'⟩ : ∃ M', M' = sel (len93 n0 n1) M := ⟨_, rfl⟩
  obtain ⟨T', hT'⟩ : ∃ T', T' = sel (len93 n0 n1) T := ⟨_, rfl⟩
  obtain ⟨D', hD'⟩ : ∃ D', D' = selD (len93 n0 n1) D := ⟨_, rfl⟩
  rw [← hM', ← hT', ← hD'] at c
  obtain ⟨L', hL'⟩ : ∃ L', L' = sel (len93 m0 m1) L := ⟨_, rfl⟩
  obtain ⟨S', hS'⟩ : ∃ S', S' = sel (len93 m0 m1) S := ⟨_, rfl⟩
  obtain ⟨E', hE'⟩ : ∃ E', E' = selD (len93 m0 m1) E := ⟨_, rfl⟩
  rw [← hL', ← hS', ← hE'] at c'
  have HMT := hide (And.intro hM' (And.intro hT' hD'))
  have HLS := hide (And.intro hL' (And.intro hS' hE'))
  clear hM' hT' hD' hL' hS' hE'
  unfold mapV at c c'
  obtain ⟨i0, i1, i2⟩ := HS0.out.im3 2 rfl
  go_enter Try.func8, Try.ntmps8
  go_wp2_with fail
  refine c.mono ?_
  rintro e w1 ⟨rfl, hb⟩
  have HS1 := hide (HS0.out.next hb)
  clear hb c HS0 i0 i1 i2
  have HS2 := hide (HS1.out.box (c13 M' T' D') 48)
  obtain ⟨w2, hw2⟩ : ∃ w2, w2 = w1.alloc (.cells #[.int .i64 (M' 0), .int .i64 (M' 1), .int .i64 (M' 2), .int .i64 (M' 3), .int .i64 (M' 4), .int .i64 (M' 5), .int .i64 (M' 6), .int .i64 (M' 7), .int .i64 (M' 8), .int .i64 (T' 0), .int .i64 (T' 1), .int .i64 (T' 2), .int .i64 D'] 48) := ⟨_, rfl⟩
  have HS3 : Hid (St w [(w1.heap.size, c13 M' T' D'), (w.heap.size + 2, [.slice none 0 0, .slice none 0 0, .int .i64 0]), (w.heap.size + 1, [.slice g0 m0 d0, .slice g1 m1 d1, .int .i64 E]), (w.heap.size, [.slice a0 n0 c0, .slice a1 n1 c1, .int .i64 D])] [] w2) := by rw [hw2]; exact HS2.out
  clear HS2 HS1
  go_upto_region 2 with fail
  rw [← hw2]
  clear hw2
  generalize w1.heap.size = qm at *
  obtain ⟨i0, i1, i2⟩ := HS3.out.im3 2 rfl
  go_wp2_with fail
  refine (c' _ (HK0.out.below HS3.out.below) (HK1.out.below HS3.out.below)).mono ?_
  rintro e w3 ⟨rfl, hb⟩
  have HS4 := hide (HS3.out.next hb)
  clear hb c' HS3 i0 i1 i2 HK0 HK1
  have HS5 := hide (HS4.out.box (c13 L' S' E') 48)
  obtain ⟨w4, hw4⟩ : ∃ w4, w4 = w3.alloc (.cells #[.int .i64 (L' 0), .int .i64 (L' 1), .int .i64 (L' 2), .int .i64 (L' 3), .int .i64 (L' 4), .int .i64 (L' 5), .int .i64 (L' 6), .int .i64 (L' 7), .int .i64 (L' 8), .int .i64 (S' 0), .int .i64 (S' 1), .int .i64 (S' 2), .int .i64 E'] 48) := ⟨_, rfl⟩
  have HS6 : Hid (St w [(w3.heap.size, c13 L' S' E'), (qm, c13 M' T' D'), (w.heap.size + 2, [.slice none 0 0, .slice none 0 0, .int .i64 0]), (w.heap.size + 1, [.slice g0 m0 d0, .slice g1 m1 d1, .int .i64 E]), (w.heap.size, [.slice a0 n0 c0, .slice a1 n1 c1, .int .i64 D])] [] w4) := by rw [hw4]; exact HS5.out
  clear HS4 HS5
  go_upto_region 3 with fail
  rw [← hw4]
  clear hw4
  generalize w3.heap.size = ql at *
  have BM : Hid (Bx qm (c13 M' T' D') w4) := HS6.out.bxAt 1 rfl
  have BL : Hid (Bx ql (c13 L' S' E') w4) := HS6.out.bxAt 0 rfl
  have BR : Hid (Bx (w.heap.size + 2) [.slice none 0 0, .slice none 0 0, .int .i64 0] w4) := HS6.out.bxAt 2 rfl
  have HW := hide HS6.out.below
  clear HS6
  cases hrr : (rb && rc)
  · have HN : Hid (Q = false) := by show _ = _; rw [HQ.out, hrr]; rfl
    clear HQ HB1 HB2 HFR HFR' HMT HLS BM BL
    obtain ⟨z0, y0⟩ := BR.out 0 _ rfl
    obtain ⟨z1, y1⟩ := BR.out 1 _ rfl
    obtain ⟨z2, y2⟩ := BR.out 2 _ rfl
    clear BR
    have HB := hide (((HW.out.setCell (p := ⟨w.heap.size + 2, 0, none⟩) (show w.heap.size ≤ w.heap.size + 2 by omega) (.slice none 0 0)).setCell (p := ⟨w.heap.size + 2, 1, none⟩) (show w.heap.size ≤ w.heap.size + 2 by omega) (.slice none 0 0)).setCell (p := ⟨w.heap.size + 2, 2, none⟩) (show w.heap.size ≤ w.heap.size + 2 by omega) (.int .i64 0))
    clear HW
    cases rb
    · clear hrr
      go_wp2_with fail
      exact bodyPost_ret (v := .tuple #[vFrame 0 none 0 0 none 0 0, .bool false]) (by simp [results, vFrame, Try.results8, go_sem, z0, z1, z2]) rfl (.inr ⟨HN.out, rfl, HB.out⟩)
    · cases rc
      · clear hrr
        go_wp2_with fail
        exact bodyPost_ret (v := .tuple #[vFrame 0 none 0 0 none 0 0, .bool false]) (by simp [results, vFrame, Try.results8, go_sem, z0, z1, z2]) rfl (.inr ⟨HN.out, rfl, HB.out⟩)
      · exact absurd hrr (by simp)
  · have hrb : rb = true := by cases rb <;> simp_all
    have hrc : rc = true := by cases rc <;> simp_all
    subst hrb hrc
    clear hrr
    obtain ⟨eM, eT, eD⟩ := HMT.out
    rw [HFR.out rfl] at eM eT eD
    have eM' : M' = M := eM
    have eT' : T' = T := eT
    have eD' : D' = D := eD
    obtain ⟨eL, eS, eE⟩ := HLS.out
    rw [HFR'.out rfl] at eL eS eE
    have eL' : L' = L := eL
    have eS' : S' = S := eS
    have eE' : E' = E := eE
    subst eM' eT' eD' eL' eS' eE'
    clear HMT HFR HLS HFR' eM eT eD eL eS eE
    have HQ2 : Hid (Q = frmB (cmD D' M' T' E' L' S') 9 (cmM D' M' T' E' L' S') 3 (cmT D' M' T' E' L' S')) := by show _ = _; rw [HQ.out]; rfl
    clear HQ
    obtain ⟨bD, bM, bT⟩ := HB1.out rfl
    obtain ⟨bE, bL, bS⟩ := HB2.out rfl
    clear HB1 HB2
    have cB := fun wx => behind_any M' T' D' L' S' E' bD bM bT bE bL bS wx
    have dDE := mul_b6 (show -1000000 ≤ D' ∧ D' ≤ 1000000 by omega) (show -1000000 ≤ E' ∧ E' ≤ 1000000 by omega)
    have pDE : 0 < D' * E' := Int.mul_pos (by omega) (by omega)
    have cR := fun wx => rightFrame_any (bhM M' L') (bhT M' T' S' E') (D' * E') pDE (by omega) (fun k hk => by have := bhM_b bM bL hk; omega) (fun k hk => by have := bhT_b bM bT bS (show -1000000 ≤ E' ∧ E' ≤ 1000000 by omega) hk; omega) wx
    have HN : Hid ((D' * E').tdiv (rgS (D' * E') (bhM M' L') (bhT M' T' S' E')) = cmD D' M' T' E' L' S' ∧ dvF (bhM M' L') (rgS (D' * E') (bhM M' L') (bhT M' T' S' E')) = cmM D' M' T' E' L' S' ∧ dvF (bhT M' T' S' E') (rgS (D' * E') (bhM M' L') (bhT M' T' S' E')) = cmT D' M' T' E' L' S') := ⟨rfl, rfl, rfl⟩
    rw [HN.out.1, HN.out.2.1, HN.out.2.2] at cR
    clear HN dDE pDE bD bM bT bE bL bS
    generalize cmD D' M' T' E' L' S' = rD at *
    generalize cmM D' M' T' E' L' S' = rM at *
    generalize cmT D' M' T' E' L' S' = rT at *
    generalize mapV (bhM M' L') (bhT M' T' S' E') (D' * E') = V at *
    unfold mapV at cB
    have g0 := (BM.out 0 _ rfl).1
    have g1 := (BM.out 1 _ rfl).1
    have g2 := (BM.out 2 _ rfl).1
    have g3 := (BM.out 3 _ rfl).1
    have g4 := (BM.out 4 _ rfl).1
    have g5 := (BM.out 5 _ rfl).1
    have g6 := (BM.out 6 _ rfl).1
    have g7 := (BM.out 7 _ rfl).1
    have g8 := (BM.out 8 _ rfl).1
    have g9 := (BM.out 9 _ rfl).1
    have g10 := (BM.out 10 _ rfl).1
    have g11 := (BM.out 11 _ rfl).1
    have g12 := (BM.out 12 _ rfl).1
    have f0 := (BL.out 0 _ rfl).1
    have f1 := (BL.out 1 _ rfl).1
    have f2 := (BL.out 2 _ rfl).1
    have f3 := (BL.out 3 _ rfl).1
    have f4 := (BL.out 4 _ rfl).1
    have f5 := (BL.out 5 _ rfl).1
    have f6 := (BL.out 6 _ rfl).1
    have f7 := (BL.out 7 _ rfl).1
    have f8 := (BL.out 8 _ rfl).1
    have f9 := (BL.out 9 _ rfl).1
    have f10 := (BL.out 10 _ rfl).1
    have f11 := (BL.out 11 _ rfl).1
    have f12 := (BL.out 12 _ rfl).1
    go_wp2_with fail
    refine (cB _).mono ?_
    rintro e w5 ⟨rfl, hb5⟩
    have BR5 := hide (BR.out.below hb5 BR.out.lt)
    have HW5 := hide (HW.out.trans (hb5.mono HW.out.size))
    clear cB hb5 g0 g1 g2 g3 g4 g5 g6 g7 g8 g9 g10 g11 g12 f0 f1 f2 f3 f4 f5 f6 f7 f8 f9 f10 f11 f12 BR BL BM HW
    go_wp2_with fail
    refine (cR _).mono ?_
    rintro e w6 (⟨hq, b0, cc0, b1, cc1, rfl, hb0, hb1, hne, hr0, hr1, hb⟩ | ⟨hq, rfl, hb⟩)
    · have HQT : Hid (Q = true) := by show _ = _; rw [HQ2.out, hq]
      have BR6 := hide (BR5.out.below hb BR5.out.lt)
      have HW6 := hide (HW5.out.trans (hb.mono HW5.out.size))
      have hlt := BR5.out.lt
      have hsz := HW5.out.size
      have HR : Hid (w.heap.size ≤ b0 ∧ w.heap.size ≤ b1 ∧ b0 ≠ b1 ∧ w.heap.size + 2 ≠ b0 ∧ w.heap.size + 2 ≠ b1) := ⟨by omega, by omega, hne, by omega, by omega⟩
      have HR0 := hide hr0
      have HR1 := hide hr1
      clear hq HQ2 hb0 hb1 hne hr0 hr1 hb cR BR5 HW5 hlt hsz
      obtain ⟨z0, y0⟩ := BR6.out 0 _ rfl
      obtain ⟨z1, y1⟩ := BR6.out 1 _ rfl
      obtain ⟨z2, y2⟩ := BR6.out 2 _ rfl
      clear BR6
      have HB := hide (((HW6.out.setCell (p := ⟨w.heap.size + 2, 0, none⟩) (show w.heap.size ≤ w.heap.size + 2 by omega) (.slice (some ⟨b0, 0, none⟩) 9 cc0)).setCell (p := ⟨w.heap.size + 2, 1, none⟩) (show w.heap.size ≤ w.heap.size + 2 by omega) (.slice (some ⟨b1, 0, none⟩) 3 cc1)).setCell (p := ⟨w.heap.size + 2, 2, none⟩) (show w.heap.size ≤ w.heap.size + 2 by omega) (.int .i64 rD))
      unfold vFrame
      go_wp2_with fail
      obtain ⟨r0, r1, r2, r3, r4⟩ := HR.out
      exact bodyPost_ret (v := .tuple #[vFrame rD (some ⟨b0, 0, none⟩) 9 cc0 (some ⟨b1, 0, none⟩) 3 cc1, .bool true]) (by simp [results, vFrame, Try.results8, go_sem, z0, z1, z2]) rfl (.inl ⟨HQT.out, b0, cc0, b1, cc1, rfl, r0, r1, r2, ((HR0.out.set (p := ⟨w.heap.size + 2, 0, none⟩) r3 _).set (p := ⟨w.heap.size + 2, 1, none⟩) r3 _).set (p := ⟨w.heap.size + 2, 2, none⟩) r3 _, ((HR1.out.set (p := ⟨w.heap.size + 2, 0, none⟩) r4 _).set (p := ⟨w.heap.size + 2, 1, none⟩) r4 _).set (p := ⟨w.heap.size + 2, 2, none⟩) r4 _, HB.out⟩)
    · have HQT : Hid (Q = false) := by show _ = _; rw [HQ2.out, hq]
      have BR6 := hide (BR5.out.below hb BR5.out.lt)
      have HW6 := hide (HW5.out.trans (hb.mono HW5.out.size))
      clear hq HQ2 hb cR BR5 HW5
      obtain ⟨z0, y0⟩ := BR6.out 0 _ rfl
      obtain ⟨z1, y1⟩ := BR6.out 1 _ rfl
      obtain ⟨z2, y2⟩ := BR6.out 2 _ rfl
      clear BR6
      have HB := hide (((HW6.out.setCell (p := ⟨w.heap.size + 2, 0, none⟩) (show w.heap.size ≤ w.heap.size + 2 by omega) (.slice none 0 0)).setCell (p := ⟨w.heap.size + 2, 1, none⟩) (show w.heap.size ≤ w.heap.size + 2 by omega) (.slice none 0 0)).setCell (p := ⟨w.heap.size + 2, 2, none⟩) (show w.heap.size ≤ w.heap.size + 2 by omega) (.int .i64 0))
      unfold vFrame
      go_wp2_with fail
      exact bodyPost_ret (v := .tuple #[vFrame 0 none 0 0 none 0 0, .bool false]) (by simp [results, vFrame, Try.results8, go_sem, z0, z1, z2]) rfl (.inr ⟨HQT.out, rfl, HB.out⟩)

end Go.Proofs.Ytjdbiaoheoialaa
