/- The best fit: the specification. -/
import Derived.Test.YtncaekmjpfjneaaDoorMti
import Derived.Test.YtncaekmjpfjneaaDoorFfs
import Derived.Test.YtncaekmjpfjneaaDoorTgq
import Derived.Deep.DeepCutAuto
namespace Go.Proofs.YtncaekmjpfjneaaDoor
open Go.RowKit

/-- what a shift of a turn costs -/
def mtC (f f' : Nat → Int) (X : Int) (n T : Nat) (x y z : Int) : Int := cst f (tvs (tgT (tqT T) X) f' n) X x y z n
/-- the best fit -/
def matV (X Y Z : Int) (n : Nat) (f : Nat → Int) (X' Y' Z' : Int) (n' : Nat) (f' : Nat → Int) (r : Int) : FT :=
  if (likB X Y Z n f X' Y' Z' n' f' && inB r 0 2) = true then bt (mtC f f' X n) r (2 * r + 1).toNat 12 else .no
theorem mat_no {X Y Z : Int} {n : Nat} {f : Nat → Int} {X' Y' Z' : Int} {n' : Nat} {f' : Nat → Int} {r : Int} (h : (likB X Y Z n f X' Y' Z' n' f' && inB r 0 2) = false) : matV X Y Z n f X' Y' Z' n' f' r = .no := by
  unfold matV; rw [h]; rfl
theorem mat_yes {X Y Z : Int} {n : Nat} {f : Nat → Int} {X' Y' Z' : Int} {n' : Nat} {f' : Nat → Int} {r : Int} (h : (likB X Y Z n f X' Y' Z' n' f' && inB r 0 2) = true) : matV X Y Z n f X' Y' Z' n' f' r = bt (mtC f f' X n) r (2 * r + 1).toNat 12 := by
  unfold matV; rw [h]; rfl
theorem turnS9_any (X : Int) (n : Nat) (f : Nat → Int) (h : cubB X X X n f = true) (t0 t1 t2 t3 : Int) (i0 : I64 t0) (i1 : I64 t1) (i2 : I64 t2) (i3 : I64 t3) (ht : tkT (t0, t1, t2, t3) = true) (a : Option Addr) (cp : Nat) (w : World) (hr : Px a n f w) :
    Calls Tryd.prog 17 #[vVolume X X X a n cp, tv t0 t1 t2 t3] w fun e w' => ∃ b' cp', e = .returned (vVolume X X X (some ⟨b', 0, none⟩) n cp') ∧ w.heap.size ≤ b' ∧ Row b' n (tvs (tgT (t0, t1, t2, t3) X) f n) w' ∧ Below w.heap.size w w' := by
  obtain ⟨-, -, hX, hn, hn2⟩ := cubB_parts h
  have h1 := cub_posF h
  have hB : tvB X X X n f t0 t1 t2 t3 = true := by
    unfold tvB
    rw [h]
    exact ht
  have hN : tvN X X X n f t0 t1 t2 t3 = n := by unfold tvN; rw [if_pos hB]
  have hX' : tvX X X X n f t0 t1 t2 t3 = X := by unfold tvX; rw [if_pos hB]
  refine (specTurnVolume_any X X X a n cp f (by omega) t0 t1 t2 t3 i0 i1 i2 i3 w hr).mono ?_
  rw [hN, hX']
  rintro e w' ⟨a', cp', b', rfl, ho, hB', hb⟩
  rcases ho with ho | ⟨rfl, hr'⟩
  · omega
  · exact ⟨b', cp', rfl, hB'.resolve_left (by omega), hr', hb⟩

/-- five cells of a box are written -/
abbrev set5 (w : World) (b : Nat) (x0 x1 x2 x3 x4 : Value) : World := ((((w.setCell ⟨b, 0, none⟩ x0).setCell ⟨b, 1, none⟩ x1).setCell ⟨b, 2, none⟩ x2).setCell ⟨b, 3, none⟩ x3).setCell ⟨b, 4, none⟩ x4
theorem Bx.far5 {b c : Nat} {vs : List Value} {w : World} (h : Bx b vs w) (hq : c ≠ b) (x0 x1 x2 x3 x4 : Value) : Bx b vs (set5 w c x0 x1 x2 x3 x4) := by
  have far : ∀ {w : World} {k : Nat} {v : Value}, Bx b vs w → Bx b vs (w.setCell ⟨c, k, none⟩ v) := fun {w k v} h j u hu => by
    have := h j u hu
    refine ⟨?_, by simpa using this.2⟩
    rw [World.cell?_setCell_other _ _ _ _ (by intro e; exact hq (congrArg Addr.block e))]
    exact this.1
  exact far (far (far (far (far h))))
theorem Row.far5 {b n c : Nat} {f : Nat → Int} {w : World} (h : Row b n f w) (hc : c ≠ b) (x0 x1 x2 x3 x4 : Value) : Row b n f (set5 w c x0 x1 x2 x3 x4) := ((((h.set hc _).set hc _).set hc _).set hc _).set hc _

set_option maxRecDepth 100000 in
set_option maxHeartbeats 8000000 in
theorem specMatch_any (X Y Z : Int) (a : Option Addr) (n cap : Nat) (f : Nat → Int) (hl : n ≤ 1048576) (X' Y' Z' : Int) (a' : Option Addr) (n' cap' : Nat) (f' : Nat → Int) (hl' : n' ≤ 1048576) (r : Int) (w : World) (h : Px a n f w) (h' : Px a' n' f' w) :
    Calls Tryd.prog 10 #[vVolume X Y Z a n cap, vVolume X' Y' Z' a' n' cap', .int .i64 r] w fun e w' => e = .returned (vF (matV X Y Z n f X' Y' Z' n' f' r)) ∧ Below w.heap.size w w' := by
  have HS0 := hide (((((St.start w).box [.int .i64 X, .int .i64 Y, .int .i64 Z, .slice a n cap] 27).box' [.int .i64 X', .int .i64 Y', .int .i64 Z', .slice a' n' cap'] 27 (b := w.heap.size + 1) (by simp)).box' [.int .i64 0, .int .i64 0, .int .i64 0, .int .i64 0, .int .i64 0] 32 (b := w.heap.size + 2) (by simp)).box' (cF .no) 32 (b := w.heap.size + 3) (by simp))
  have HP0 := hide h
  have HQ0 := hide h'
  have cL := fun w' hw hw' => l10FitOk_any X Y Z a n cap f hl X' Y' Z' a' n' cap' f' hl' w' hw hw'
  have cI := fun w' => l1In_any r 0 2 w'
  clear h h'
  obtain ⟨i0, i1, i2, i3⟩ := HS0.out.im4 3 rfl
  obtain ⟨j0, j1, j2, j3⟩ := HS0.out.im4 2 rfl
  go_enter Tryd.func10, Tryd.ntmps10
  go_wp2_with fail
  refine (cL _ (HP0.out.below HS0.out.below) (HQ0.out.below HS0.out.below)).mono ?_
  rintro e w1 ⟨rfl, hb⟩
  have HS1 := hide (HS0.out.next hb)
  clear hb HS0 cL i0 i1 i2 i3 j0 j1 j2 j3
  have HRET : Hid (matV X Y Z n f X' Y' Z' n' f' r = .no → ∃ _ : True, True) := fun _ => ⟨trivial, trivial⟩
  cases hlik : likB X Y Z n f X' Y' Z' n' f'
  · have HV := hide (mat_no (r := r) (show (likB X Y Z n f X' Y' Z' n' f' && inB r 0 2) = false by rw [hlik]; rfl))
    clear hlik HRET
    obtain ⟨b0, b1, b2, b3, b4⟩ := HS1.out.im5 0 rfl
    obtain ⟨g0, g1, g2, g3, g4⟩ := HS1.out.im5 1 rfl
    obtain ⟨d0, d1, d2, d3, d4⟩ := HS1.out.fr5 1 rfl
    have HE := hide (HS1.out.fill5 (L1 := [_]) (.int .i64 (-1)) (.int .i64 0) (.int .i64 0) (.int .i64 0) (.int .i64 (-1))).below
    clear HS1
    go_wp2_with fail
    exact bodyPost_ret (v := vF .no) (by simp [results, Tryd.results10, go_sem, g0, g1, g2, g3, g4, FT.no]) rfl ⟨by rw [HV.out], HE.out⟩
  go_wp2_with fail
  refine (cI _).mono ?_
  rintro e w2 ⟨rfl, h1⟩
  obtain rfl := h1.symm
  cases hin : inB r 0 2
  · have HV := hide (mat_no (r := r) (show (likB X Y Z n f X' Y' Z' n' f' && inB r 0 2) = false by rw [hlik, hin]; rfl))
    clear hlik hin HRET
    obtain ⟨b0, b1, b2, b3, b4⟩ := HS1.out.im5 0 rfl
    obtain ⟨g0, g1, g2, g3, g4⟩ := HS1.out.im5 1 rfl
    obtain ⟨d0, d1, d2, d3, d4⟩ := HS1.out.fr5 1 rfl
    have HE := hide (HS1.out.fill5 (L1 := [_]) (.int .i64 (-1)) (.int .i64 0) (.int .i64 0) (.int .i64 0) (.int .i64 (-1))).below
    clear HS1
    go_wp2_with fail
    exact bodyPost_ret (v := vF .no) (by simp [results, Tryd.results10, go_sem, g0, g1, g2, g3, g4, FT.no]) rfl ⟨by rw [HV.out], HE.out⟩
  have HV := hide (mat_yes (r := r) (show (likB X Y Z n f X' Y' Z' n' f' && inB r 0 2) = true by rw [hlik, hin]; rfl))
  have hr := inB_iffF.1 hin
  clear hin cI HRET
  obtain ⟨hcA, hcB, hXX, hX6⟩ := lik_parts hlik
  obtain ⟨ea1, ea2, hX, hnX, hn2⟩ := cubB_parts hcA
  obtain ⟨eb1, eb2, -, hnX', -⟩ := cubB_parts hcB
  subst ea1 ea2 hXX eb1 eb2
  obtain rfl : n = n' := by omega
  have hn1 := cub_posF hcA
  have hfA := cub_in hcA
  obtain ⟨m, hm⟩ : ∃ m : Nat, (m : Int) = 2 * r + 1 := ⟨(2 * r + 1).toNat, by omega⟩
  have hm' : (2 * r + 1).toNat = m := by omega
  rw [hm'] at HV
  have HM := hide hm
  clear hm hm' hlik hX6 hnX'
  have HFB : Hid (∀ T, T < 12 → ∀ k, k < n → -4095 ≤ tvs (tgT (tqT T) X) f' n k ∧ tvs (tgT (tqT T) X) f' n k ≤ 4095) := fun T hT => cub_in (cub_turnF (tq_ok T hT) hcB)
  have HCT : Hid (∀ T, T < 12 → ∀ a9 c9 w', Px a9 n f' w' → Calls Tryd.prog 17 #[vVolume X X X a9 n c9, tv (tbA.getD (T * 4) 0) (tbA.getD (T * 4 + 1) 0) (tbA.getD (T * 4 + 2) 0) (tbA.getD (T * 4 + 3) 0)] w' fun e w'' => ∃ b' cp', e = .returned (vVolume X X X (some ⟨b', 0, none⟩) n cp') ∧ w'.heap.size ≤ b' ∧ Row b' n (tvs (tgT (tqT T) X) f' n) w'' ∧ Below w'.heap.size w' w'') := fun T hT a9 c9 w' hw => turnS9_any X n f' hcB _ _ _ _ (tb_i64 _) (tb_i64 _) (tb_i64 _) (tb_i64 _) (tq_ok T hT) a9 c9 w' hw
  have HCC : Hid (∀ T, T < 12 → ∀ x y z, (-2 ≤ x ∧ x ≤ 2) → (-2 ≤ y ∧ y ≤ 2) → (-2 ≤ z ∧ z ≤ 2) → ∀ a9 c9 w', Px a n f w' → Px a9 n (tvs (tgT (tqT T) X) f' n) w' → Calls Tryd.prog 16 #[vVolume X X X a n cap, vVolume X X X a9 n c9, .int .i64 x, .int .i64 y, .int .i64 z] w' fun e w'' => e = .returned (.int .i64 (mtC f f' X n T x y z)) ∧ Below w'.heap.size w' w'') := fun T hT x y z hx hy hz a9 c9 w' hw hw' => l10Cost_any X a n cap f a9 c9 _ hX hnX hn2 hfA (HFB.out T hT) x y z hx hy hz w' hw hw'
  have HG : Hid (∀ T, T < 12 → ∀ x y z, 0 ≤ mtC f f' X n T x y z) := fun T hT x y z => (cst_bd hX hnX hfA (HFB.out T hT) x y z n (Nat.le_refl _)).1
  clear hcA hcB hfA HFB hnX hn2
  generalize mtC f f' X n = co at *
  have un : IntKind.i64.wrap (-r) = -r := by rw [IntKind.wrap_i64]; omega
  have cT := (specTurns_any w1).mono (fun e u hu => hu.rowF)
  go_wp2_with fail
  refine cT.mono ?_
  rintro e w2 ⟨tt, tc, rfl, htt, hrow, hb⟩
  have HS2 := hide (HS1.out.own hb hrow.v (.inr htt))
  clear cT hb hrow htt HS1
  go_wp2_with fail
  go_loopw [9, 10] (fun s p wr => ∃ T : Nat, T ≤ 12 ∧ s = .int .i64 (T : Int) ∧ (∀ M, p = .pointer (some ⟨M, 0, none⟩) → M < wr.heap.size) ∧ St w [(w.heap.size + 3, cF (bt co r m T)), (w.heap.size + 2, [.int .i64 0, .int .i64 0, .int .i64 0, .int .i64 0, .int .i64 0]), (w.heap.size + 1, [.int .i64 X, .int .i64 X, .int .i64 X, .slice a' n cap']), (w.heap.size, [.int .i64 X, .int .i64 X, .int .i64 X, .slice a n cap])] [(some ⟨tt, 0, none⟩, tt, 48, fun k => .int .i64 (tbA.getD k 0))] wr) (fun s _ _ => (12 - intOf s).toNat)
  case atStart => exact ⟨0, by omega, rfl, fun M hM => (by cases hM), HS2.out⟩
  case round =>
    obtain ⟨T, hT, rfl, hold, hs⟩ := hrel
    have HOLD := hide hold
    clear HS2 hold
    have HS := hide hs
    clear hs
    by_cases hTl : T < 12
    · go_upto_region 8 with fail
      have ft9 : ∃ ft, ft = tvs (tgT (tqT T) X) f' n := ⟨_, rfl⟩
      obtain ⟨ft, hft⟩ := ft9
      have cT := HCT.out T hTl
      have cC := HCC.out T hTl
      have hg := HG.out T hTl
      rw [← hft] at cT cC
      clear hft
      have BB : Hid (Bx (w.heap.size + 1) [.int .i64 X, .int .i64 X, .int .i64 X, .slice a' n cap'] wr) := fun j v hv => ⟨HS.out.cell 2 rfl j hv, HS.out.free 2 rfl j hv⟩
      have RT : Hid (Row tt 48 (fun k => tbA.getD k 0) wr) := by
        rcases HS.out.nthO 0 rfl with h0 | ⟨_, h0⟩
        · omega
        · exact h0
      have HQ := hide (HQ0.out.below HS.out.below)
      have hTi : (T : Int) < 12 := by omega
      have hT0 : (0 : Int) ≤ (T : Int) := by omega
      go_cut [10] (fun sl wc => ∃ M b c, sl = .pointer (some ⟨M, 0, none⟩) ∧ Below wr.heap.size wr wc ∧ wr.heap.size ≤ M ∧ wr.heap.size ≤ b ∧ Bx M [.int .i64 X, .int .i64 X, .int .i64 X, .slice (some ⟨b, 0, none⟩) n c] wc ∧ Row b n ft wc)
      case first =>
        obtain ⟨G, hG⟩ : ∃ G : Nat → Value → Prop, G = (fun j v => match j, v with | 0, v => v = vVolume X X X a' n cap' | 1, v => v = .slice (some ⟨tt, 0, none⟩) 12 tc | 2, v => v = .int .i64 (T : Int) | 3, v => v = .pointer (some ⟨tt, T * 4, none⟩) | 4, v => v = tv (tbA.getD (T * 4) 0) (tbA.getD (T * 4 + 1) 0) (tbA.getD (T * 4 + 2) 0) (tbA.getD (T * 4 + 3) 0) | _, _ => True) := ⟨_, rfl⟩
        obtain ⟨OO, hO⟩ : ∃ O : Nat → Option (Nat → Int), O = (fun j => match j with | 5 => some ft | _ => none) := ⟨_, rfl⟩
        have G0 : Hid (∀ v, G 0 v ↔ v = vVolume X X X a' n cap') := fun v => by rw [hG]; exact Iff.rfl
        have O0 : Hid (OO 0 = none) := by rw [hO]; rfl
        have G1 : Hid (∀ v, G 1 v ↔ v = .slice (some ⟨tt, 0, none⟩) 12 tc) := fun v => by rw [hG]; exact Iff.rfl
        have O1 : Hid (OO 1 = none) := by rw [hO]; rfl
        have G2 : Hid (∀ v, G 2 v ↔ v = .int .i64 (T : Int)) := fun v => by rw [hG]; exact Iff.rfl
        have O2 : Hid (OO 2 = none) := by rw [hO]; rfl
        have G3 : Hid (∀ v, G 3 v ↔ v = .pointer (some ⟨tt, T * 4, none⟩)) := fun v => by rw [hG]; exact Iff.rfl
        have O3 : Hid (OO 3 = none) := by rw [hO]; rfl
        have G4 : Hid (∀ v, G 4 v ↔ v = tv (tbA.getD (T * 4) 0) (tbA.getD (T * 4 + 1) 0) (tbA.getD (T * 4 + 2) 0) (tbA.getD (T * 4 + 3) 0)) := fun v => by rw [hG]; exact Iff.rfl
        have O4 : Hid (OO 4 = none) := by rw [hO]; rfl
        have G5 : Hid (∀ v, G 5 v) := fun v => by rw [hG]; trivial
        have O5 : Hid (OO 5 = some ft) := by rw [hO]; rfl
        have G6 : Hid (∀ v, G 6 v ∧ G 7 v) := fun v => by rw [hG]; exact ⟨trivial, trivial⟩
        have O6 : Hid (OO 6 = none ∧ OO 7 = none) := by rw [hO]; exact ⟨rfl, rfl⟩
        clear hG hO
        refine region_opsU (tgR wr) (tgF wr X n G OO ft) (by kernel_rfl) (by kernel_rfl) (by kernel_rfl) ?_ ?_ ?_
        · refine ⟨(Below.refl _ _).drew, fun M hM hMB => ?_⟩
          have := HOLD.out M (Eq.trans (Eq.symm (by kernel_rfl)) hM)
          omega
        · refine ⟨?_, ?_, ?_, ?_, ?_, ?_, ?_, ?_, trivial⟩
          · intro u w21 au hau hu hF hp' K hK
            have t4 : au.tmps[4]?.getD undef = .pointer (some ⟨w.heap.size + 1, 0, none⟩) := by rw [hau.out]; kernel_rfl
            have bx := BB.out.below hF.1 BB.out.lt
            obtain ⟨x0, -⟩ := bx 0 _ rfl
            obtain ⟨x1, -⟩ := bx 1 _ rfl
            obtain ⟨x2, -⟩ := bx 2 _ rfl
            obtain ⟨x3, -⟩ := bx 3 _ rfl
            clear bx
            refine step_plain rfl ?_
            go_simp
            exact hK.out (vVolume X X X a' n cap') _ (tgR_up hF (Below.refl _ _) 0 (by omega) _) (tgF_val 0 (by omega) O0.out ((G0.out _).2 rfl)) (fun j hj _ h => tgF_up hn1 (Below.refl _ _) 0 (by omega) _ j hj h)
          · intro u w21 au hau hu hF hp' K hK
            have t8 : au.tmps[8]?.getD undef = .slice (some ⟨tt, 0, none⟩) 12 tc := by rw [hau.out]; kernel_rfl
            refine step_plain rfl ?_
            go_simp
            exact hK.out (.slice (some ⟨tt, 0, none⟩) 12 tc) _ (tgR_up hF (Below.refl _ _) 1 (by omega) _) (tgF_val 1 (by omega) O1.out ((G1.out _).2 rfl)) (fun j hj _ h => tgF_up hn1 (Below.refl _ _) 1 (by omega) _ j hj h)
          · intro u w21 au hau hu hF hp' K hK
            have t9 : au.tmps[9]?.getD undef = .int .i64 (T : Int) := by rw [hau.out]; kernel_rfl
            refine step_plain rfl ?_
            go_simp
            exact hK.out (.int .i64 (T : Int)) _ (tgR_up hF (Below.refl _ _) 2 (by omega) _) (tgF_val 2 (by omega) O2.out ((G2.out _).2 rfl)) (fun j hj _ h => tgF_up hn1 (Below.refl _ _) 2 (by omega) _ j hj h)
          · intro u w21 au hau hu hF hp' K hK
            have h1 : u 1 = .slice (some ⟨tt, 0, none⟩) 12 tc := (G1.out _).1 (PreF.get hp' 1 (by kernel_rfl)).1
            have t32 : au.tmps[32]?.getD undef = u 1 := by rw [hau.out]; kernel_rfl
            rw [h1] at t32
            have h2 : u 2 = .int .i64 (T : Int) := (G2.out _).1 (PreF.get hp' 2 (by kernel_rfl)).1
            have t33 : au.tmps[33]?.getD undef = u 2 := by rw [hau.out]; kernel_rfl
            rw [h2] at t33
            refine step_plain rfl ?_
            go_simp
            exact hK.out (.pointer (some ⟨tt, T * 4, none⟩)) _ (tgR_up hF (Below.refl _ _) 3 (by omega) _) (tgF_val 3 (by omega) O3.out ((G3.out _).2 rfl)) (fun j hj _ h => tgF_up hn1 (Below.refl _ _) 3 (by omega) _ j hj h)
          · intro u w21 au hau hu hF hp' K hK
            have h3 : u 3 = .pointer (some ⟨tt, T * 4, none⟩) := (G3.out _).1 (PreF.get hp' 3 (by kernel_rfl)).1
            have t34 : au.tmps[34]?.getD undef = u 3 := by rw [hau.out]; kernel_rfl
            rw [h3] at t34
            have rt := RT.out.below hF.1 (RT.out.lt (by omega))
            have x0 := (rt (T * 4) (by omega)).1
            have x1 := (rt (T * 4 + 1) (by omega)).1
            have x2 := (rt (T * 4 + 2) (by omega)).1
            have x3 := (rt (T * 4 + 3) (by omega)).1
            clear rt
            refine step_plain rfl ?_
            go_simp
            exact hK.out (tv (tbA.getD (T * 4) 0) (tbA.getD (T * 4 + 1) 0) (tbA.getD (T * 4 + 2) 0) (tbA.getD (T * 4 + 3) 0)) _ (tgR_up hF (Below.refl _ _) 4 (by omega) _) (tgF_val 4 (by omega) O4.out ((G4.out _).2 rfl)) (fun j hj _ h => tgF_up hn1 (Below.refl _ _) 4 (by omega) _ j hj h)
          · intro u w21 au hau hu hF hp' K hK
            have h0 : u 0 = vVolume X X X a' n cap' := (G0.out _).1 (PreF.get hp' 0 (by kernel_rfl)).1
            have t31 : au.tmps[31]?.getD undef = u 0 := by rw [hau.out]; kernel_rfl
            rw [h0] at t31
            have h4 : u 4 = tv (tbA.getD (T * 4) 0) (tbA.getD (T * 4 + 1) 0) (tbA.getD (T * 4 + 2) 0) (tbA.getD (T * 4 + 3) 0) := (G4.out _).1 (PreF.get hp' 4 (by kernel_rfl)).1
            have t35 : au.tmps[35]?.getD undef = u 4 := by rw [hau.out]; kernel_rfl
            rw [h4] at t35
            have h7 : u 7 = undef := (hu.out 7 (by decide) (.inr (by kernel_rfl))).trans (by kernel_rfl)
            have c := cT a' cap' w21 (HQ.out.below hF.1)
            refine step_plain rfl ?_
            go_simp
            refine c.mono ?_
            rintro e w22 ⟨b9, c9, rfl, hB9, hr9, hb9⟩
            exact hK.out (vVolume X X X (some ⟨b9, 0, none⟩) n c9) _ (tgR_up hF hb9 5 (by omega) _) (tgF_vol 5 (by omega) O5.out G5.out hF h7 hB9 hr9) (fun j hj _ h => tgF_up hn1 hb9 5 (by omega) _ j hj h)
          · intro u w21 au hau hu hF hp' K hK
            refine step_plain rfl ?_
            go_simp
            exact hK.out (.pointer (some ⟨w21.heap.size, 0, none⟩)) _ (tgR_al hF _) ⟨(G6.out _).1, fun f h => (by rw [O6.out.1] at h; cases h), fun _ => ⟨_, upU_same _ _ _, hF.1.size⟩, fun e => by omega⟩ (fun j hj hf h => tgF_al hn1 _ j hj (fun e => by subst e; exact absurd (Eq.trans (Eq.symm (by kernel_rfl)) hf) Bool.false_ne_true) h)
          · intro u w21 au hau hu hF hp' K hK
            have h7 : u 7 = undef := (hu.out 7 (by decide) (.inl rfl)).trans (by kernel_rfl)
            obtain ⟨M, h6, hMB⟩ := (PreF.get hp' 6 (by kernel_rfl)).2.2.1 rfl
            obtain ⟨b8, c8, h5, r8, hB8, hM8⟩ := ((PreF.get hp' 5 (by kernel_rfl)).2.1 ft O5.out).resolve_left (fun h => h h7)
            have hMb := hM8 M h6
            obtain ⟨hBM, hbx⟩ := (hF.2 M h6 hMB).resolve_left (fun h => h h7)
            have t10 : au.tmps[10]?.getD undef = u 6 := by rw [hau.out]; kernel_rfl
            rw [h6] at t10
            have t36 : au.tmps[36]?.getD undef = u 5 := by rw [hau.out]; kernel_rfl
            rw [h5] at t36
            obtain ⟨x0, y0⟩ := hbx 0 _ rfl
            obtain ⟨x1, y1⟩ := hbx 1 _ rfl
            obtain ⟨x2, y2⟩ := hbx 2 _ rfl
            obtain ⟨x3, y3⟩ := hbx 3 _ rfl
            have HMb := hide hMb
            clear hMb hM8
            refine step_plain rfl ?_
            go_simp
            exact hK.out (.bool true) _ (tgR_st hF hBM _ _ _ _ (by simp [undef])) ⟨(G6.out _).2, fun f h => (by rw [O6.out.2] at h; cases h), fun e => by omega, fun _ => ⟨M, b8, c8, (upU_other _ _ (by omega)).trans h6, hBM, hB8, HMb.out, hbx.to4 _ _ _ _, r8.far4 HMb.out _ _ _ _⟩⟩ (fun j hj _ h => tgF_st (by simp [undef]) j hj h)
        · intro u w30 hF hall
          obtain ⟨M9, b9, c9, h6, hBM, hBb, -, bx, rr⟩ := (hall 7 (by decide)).2.2.2 rfl
          have HE9 := hide (And.intro hF.1 (And.intro hBM (And.intro hBb (And.intro bx rr))))
          clear hF hall bx rr hBM hBb
          simp only [rgPut, Act.put, h6]
          clear h6
          go_simp
          go_wp2_with fail
          go_meet
          exact ⟨M9, b9, c9, rfl, HE9.out⟩
      case rest =>
        obtain ⟨M9, b9, c9, rfl, hw9, hM9, hb9, bx9, r9⟩ := hcut
        have hbl : w.heap.size + 3 < wr.heap.size := World.block_lt_of_cell? _ _ (HS.out.im5 0 rfl).1
        have HNE : Hid (w.heap.size + 3 ≠ M9 ∧ w.heap.size + 3 ≠ b9) := ⟨by omega, by omega⟩
        have HS9 : Hid (St w [(w.heap.size + 3, cF (bt co r m T)), (w.heap.size + 2, [.int .i64 0, .int .i64 0, .int .i64 0, .int .i64 0, .int .i64 0]), (w.heap.size + 1, [.int .i64 X, .int .i64 X, .int .i64 X, .slice a' n cap']), (w.heap.size, [.int .i64 X, .int .i64 X, .int .i64 X, .slice a n cap])] [(some ⟨tt, 0, none⟩, tt, 48, fun k => .int .i64 (tbA.getD k 0))] wc ∧ Bx M9 [.int .i64 X, .int .i64 X, .int .i64 X, .slice (some ⟨b9, 0, none⟩) n c9] wc ∧ Row b9 n ft wc) := ⟨HS.out.next hw9, bx9, r9⟩
        clear HS hbl hw9 hM9 hb9 bx9 r9 BB RT HQ cT HOLD
        obtain ⟨d, hd⟩ : ∃ d, d = co T := ⟨_, rfl⟩
        have HBT : Hid (bt co r m (T + 1) = bx d (T : Int) r m (bt co r m T) m) := by show _ = _; rw [hd]; rfl
        rw [← hd] at cC hg
        clear hd
        generalize bt co r m T = b at HS9 HBT
        go_wp2_with fail
        go_loopw [11] (fun s wr => ∃ i : Nat, i ≤ m ∧ s = .int .i64 ((i : Int) - r) ∧ (St w [(w.heap.size + 3, cF (bx d (T : Int) r m b i)), (w.heap.size + 2, [.int .i64 0, .int .i64 0, .int .i64 0, .int .i64 0, .int .i64 0]), (w.heap.size + 1, [.int .i64 X, .int .i64 X, .int .i64 X, .slice a' n cap']), (w.heap.size, [.int .i64 X, .int .i64 X, .int .i64 X, .slice a n cap])] [(some ⟨tt, 0, none⟩, tt, 48, fun k => .int .i64 (tbA.getD k 0))] wr ∧ Bx M9 [.int .i64 X, .int .i64 X, .int .i64 X, .slice (some ⟨b9, 0, none⟩) n c9] wr ∧ Row b9 n ft wr)) (fun s _ => (r + 1 - intOf s).toNat)
        case atStart => exact ⟨0, by omega, by congr 1; omega, HS9.out⟩
        case round =>
          obtain ⟨i, hi, rfl, hs⟩ := hrel
          clear HS9
          have HS9 := hide hs
          clear hs
          by_cases hil : i < m
          · have hxi : (i : Int) - r ≤ r := by have := HM.out; omega
            have hxb : -2 ≤ (i : Int) - r ∧ (i : Int) - r ≤ 2 := by omega
            obtain ⟨xi, hxe⟩ : ∃ xi, xi = (i : Int) - r := ⟨_, rfl⟩
            have HXE := hide hxe
            rw [← hxe] at hxi hxb
            rw [← hxe]
            clear hxe
            have HBX : Hid (bx d (T : Int) r m b (i + 1) = by' d (T : Int) r xi m (bx d (T : Int) r m b i) m) := by
              have := HXE.out
              show _ = _
              rw [this]; rfl
            obtain ⟨bi, hbi⟩ : ∃ bi, bi = bx d (T : Int) r m b i := ⟨_, rfl⟩
            rw [← hbi] at HBX HS9
            clear hbi
            go_wp2_with fail
            go_loopw [12] (fun s wr => ∃ j : Nat, j ≤ m ∧ s = .int .i64 ((j : Int) - r) ∧ (St w [(w.heap.size + 3, cF (by' d (T : Int) r xi m bi j)), (w.heap.size + 2, [.int .i64 0, .int .i64 0, .int .i64 0, .int .i64 0, .int .i64 0]), (w.heap.size + 1, [.int .i64 X, .int .i64 X, .int .i64 X, .slice a' n cap']), (w.heap.size, [.int .i64 X, .int .i64 X, .int .i64 X, .slice a n cap])] [(some ⟨tt, 0, none⟩, tt, 48, fun k => .int .i64 (tbA.getD k 0))] wr ∧ Bx M9 [.int .i64 X, .int .i64 X, .int .i64 X, .slice (some ⟨b9, 0, none⟩) n c9] wr ∧ Row b9 n ft wr)) (fun s _ => (r + 1 - intOf s).toNat)
            case atStart => exact ⟨0, by omega, by congr 1; omega, HS9.out⟩
            case round =>
              obtain ⟨j, hj, rfl, hs⟩ := hrel
              clear HS9
              have HS9 := hide hs
              clear hs
              by_cases hjl : j < m
              · have hyj : (j : Int) - r ≤ r := by have := HM.out; omega
                have hyb : -2 ≤ (j : Int) - r ∧ (j : Int) - r ≤ 2 := by omega
                obtain ⟨yj, hye⟩ : ∃ yj, yj = (j : Int) - r := ⟨_, rfl⟩
                have HYE := hide hye
                rw [← hye] at hyj hyb
                rw [← hye]
                clear hye
                have HBY : Hid (by' d (T : Int) r xi m bi (j + 1) = bz d (T : Int) r xi yj (by' d (T : Int) r xi m bi j) m) := by
                  have := HYE.out
                  show _ = _
                  rw [this]; rfl
                obtain ⟨bj, hbj⟩ : ∃ bj, bj = by' d (T : Int) r xi m bi j := ⟨_, rfl⟩
                rw [← hbj] at HBY HS9
                clear hbj
                go_wp2_with fail
                go_loopw [13] (fun s wr => ∃ k : Nat, k ≤ m ∧ s = .int .i64 ((k : Int) - r) ∧ (St w [(w.heap.size + 3, cF (bz d (T : Int) r xi yj bj k)), (w.heap.size + 2, [.int .i64 0, .int .i64 0, .int .i64 0, .int .i64 0, .int .i64 0]), (w.heap.size + 1, [.int .i64 X, .int .i64 X, .int .i64 X, .slice a' n cap']), (w.heap.size, [.int .i64 X, .int .i64 X, .int .i64 X, .slice a n cap])] [(some ⟨tt, 0, none⟩, tt, 48, fun k => .int .i64 (tbA.getD k 0))] wr ∧ Bx M9 [.int .i64 X, .int .i64 X, .int .i64 X, .slice (some ⟨b9, 0, none⟩) n c9] wr ∧ Row b9 n ft wr)) (fun s _ => (r + 1 - intOf s).toNat)
                case atStart => exact ⟨0, by omega, by congr 1; omega, HS9.out⟩
                case round =>
                  obtain ⟨k, hk, rfl, hs⟩ := hrel
                  clear HS9
                  have HS9 := hide hs
                  clear hs
                  by_cases hkl : k < m
                  · have hzk : (k : Int) - r ≤ r := by have := HM.out; omega
                    have hzb : -2 ≤ (k : Int) - r ∧ (k : Int) - r ≤ 2 := by omega
                    have HST : Hid (bz d (T : Int) r xi yj bj (k + 1) = cmb (bz d (T : Int) r xi yj bj k) ⟨(T : Int), xi, yj, (k : Int) - r, d xi yj ((k : Int) - r)⟩) := rfl
                    have cS := fun w' hw hw' => cC xi yj ((k : Int) - r) hxb hyb hzb (some ⟨b9, 0, none⟩) c9 w' hw hw'
                    have hg' := hg xi yj ((k : Int) - r)
                    obtain ⟨zk, hze⟩ : ∃ zk, zk = (k : Int) - r := ⟨_, rfl⟩
                    have HZE := hide hze
                    rw [← hze] at hzk hzb HST cS hg'
                    rw [← hze]
                    clear hze
                    generalize bz d (T : Int) r xi yj bj k = R at *
                    obtain ⟨q, hq⟩ : ∃ q, q = d xi yj zk := ⟨_, rfl⟩
                    rw [← hq] at HST cS hg'
                    clear hq
                    obtain ⟨R0, R1, R2, R3, R4⟩ := R
                    obtain ⟨i0, i1, i2, i3⟩ := HS9.out.1.im4 3 rfl
                    obtain ⟨j0, -⟩ := HS9.out.2.1 0 _ rfl
                    obtain ⟨j1, -⟩ := HS9.out.2.1 1 _ rfl
                    obtain ⟨j2, -⟩ := HS9.out.2.1 2 _ rfl
                    obtain ⟨j3, -⟩ := HS9.out.2.1 3 _ rfl
                    go_wp2_with fail
                    refine (cS _ (HP0.out.below HS9.out.1.below) HS9.out.2.2.px).mono ?_
                    rintro e w5 ⟨rfl, hb⟩
                    have HS5 : Hid (St w [(w.heap.size + 3, cF (⟨R0, R1, R2, R3, R4⟩)), (w.heap.size + 2, [.int .i64 0, .int .i64 0, .int .i64 0, .int .i64 0, .int .i64 0]), (w.heap.size + 1, [.int .i64 X, .int .i64 X, .int .i64 X, .slice a' n cap']), (w.heap.size, [.int .i64 X, .int .i64 X, .int .i64 X, .slice a n cap])] [(some ⟨tt, 0, none⟩, tt, 48, fun k => .int .i64 (tbA.getD k 0))] w5 ∧ Bx M9 [.int .i64 X, .int .i64 X, .int .i64 X, .slice (some ⟨b9, 0, none⟩) n c9] w5 ∧ Row b9 n ft w5) := ⟨HS9.out.1.next hb, HS9.out.2.1.below hb HS9.out.2.1.lt, HS9.out.2.2.below hb (HS9.out.2.2.lt hn1)⟩
                    clear hb HS9 cS i0 i1 i2 i3 j0 j1 j2 j3
                    obtain ⟨b0, b1, b2, b3, b4⟩ := HS5.out.1.im5 0 rfl
                    obtain ⟨f0, f1, f2, f3, f4⟩ := HS5.out.1.fr5 0 rfl
                    have hzw : IntKind.i64.wrap (zk + 1) = zk + 1 := by rw [IntKind.wrap_i64]; omega
                    have HNX : Hid (Value.int .i64 (zk + 1) = .int .i64 (((k + 1 : Nat) : Int) - r)) := by
                      have := HZE.out
                      show _ = _
                      congr 1
                      omega
                    have HM1 : Hid ((r + 1 - (zk + 1)).toNat < (r + 1 - zk).toNat) := by show _ < _; omega
                    have fin : ∀ R' : FT, ∀ w', cmb ⟨R0, R1, R2, R3, R4⟩ ⟨(T : Int), xi, yj, zk, q⟩ = R' → (St w [(w.heap.size + 3, cF (R')), (w.heap.size + 2, [.int .i64 0, .int .i64 0, .int .i64 0, .int .i64 0, .int .i64 0]), (w.heap.size + 1, [.int .i64 X, .int .i64 X, .int .i64 X, .slice a' n cap']), (w.heap.size, [.int .i64 X, .int .i64 X, .int .i64 X, .slice a n cap])] [(some ⟨tt, 0, none⟩, tt, 48, fun k => .int .i64 (tbA.getD k 0))] w' ∧ Bx M9 [.int .i64 X, .int .i64 X, .int .i64 X, .slice (some ⟨b9, 0, none⟩) n c9] w' ∧ Row b9 n ft w') → ∃ k : Nat, k ≤ m ∧ Value.int .i64 (zk + 1) = .int .i64 ((k : Int) - r) ∧ (St w [(w.heap.size + 3, cF (bz d (T : Int) r xi yj bj k)), (w.heap.size + 2, [.int .i64 0, .int .i64 0, .int .i64 0, .int .i64 0, .int .i64 0]), (w.heap.size + 1, [.int .i64 X, .int .i64 X, .int .i64 X, .slice a' n cap']), (w.heap.size, [.int .i64 X, .int .i64 X, .int .i64 X, .slice a n cap])] [(some ⟨tt, 0, none⟩, tt, 48, fun k => .int .i64 (tbA.getD k 0))] w' ∧ Bx M9 [.int .i64 X, .int .i64 X, .int .i64 X, .slice (some ⟨b9, 0, none⟩) n c9] w' ∧ Row b9 n ft w') := fun R' w' h1 h2 => ⟨k + 1, by omega, HNX.out, by rw [HST.out, h1]; exact h2⟩
                    have FIN := hide fin
                    clear fin HST HNX HZE
                    have HW5 := hide (And.intro (HS5.out.1.fill5 (L1 := []) (.int .i64 (T : Int)) (.int .i64 xi) (.int .i64 yj) (.int .i64 zk) (.int .i64 q)) (And.intro (HS5.out.2.1.far5 HNE.out.1 (.int .i64 (T : Int)) (.int .i64 xi) (.int .i64 yj) (.int .i64 zk) (.int .i64 q)) (HS5.out.2.2.far5 HNE.out.2 (.int .i64 (T : Int)) (.int .i64 xi) (.int .i64 yj) (.int .i64 zk) (.int .i64 q))))
                    by_cases hc : R4 < 0
                    · have HE := hide (FIN.out ⟨(T : Int), xi, yj, zk, q⟩ _ (by unfold cmb; rw [if_neg (by simp; omega), if_pos (.inl hc)]) HW5.out)
                      clear FIN HS5 HW5
                      go_wp2_with fail
                      exact ⟨HE.out, HM1.out⟩
                    · by_cases hl' : q < R4
                      · have HE := hide (FIN.out ⟨(T : Int), xi, yj, zk, q⟩ _ (by unfold cmb; rw [if_neg (by simp; omega), if_pos (.inr hl')]) HW5.out)
                        clear FIN HS5 HW5
                        go_wp2_with fail
                        exact ⟨HE.out, HM1.out⟩
                      · have HE := hide (FIN.out ⟨R0, R1, R2, R3, R4⟩ _ (by unfold cmb; rw [if_neg (by simp; omega), if_neg (by simp; omega)]) HS5.out)
                        clear FIN HS5 HW5
                        go_wp2_with fail
                        exact ⟨HE.out, HM1.out⟩
                  · obtain rfl : k = m := by omega
                    have hnk : ¬ (k : Int) - r ≤ r := by have := HM.out; omega
                    have hyw : IntKind.i64.wrap (yj + 1) = yj + 1 := by rw [IntKind.wrap_i64]; omega
                    have HNX : Hid (Value.int .i64 (yj + 1) = .int .i64 (((j + 1 : Nat) : Int) - r)) := by
                      have := HYE.out
                      show _ = _
                      congr 1
                      omega
                    have HM1 : Hid ((r + 1 - (yj + 1)).toNat < (r + 1 - yj).toNat) := by show _ < _; omega
                    go_wp2_with fail
                    exact ⟨⟨j + 1, by omega, HNX.out, by rw [HBY.out]; exact HS9.out⟩, HM1.out⟩
              · obtain rfl : j = m := by omega
                have hnk : ¬ (j : Int) - r ≤ r := by have := HM.out; omega
                have hxw : IntKind.i64.wrap (xi + 1) = xi + 1 := by rw [IntKind.wrap_i64]; omega
                have HNX : Hid (Value.int .i64 (xi + 1) = .int .i64 (((i + 1 : Nat) : Int) - r)) := by
                  have := HXE.out
                  show _ = _
                  congr 1
                  omega
                have HM1 : Hid ((r + 1 - (xi + 1)).toNat < (r + 1 - xi).toNat) := by show _ < _; omega
                go_wp2_with fail
                exact ⟨⟨i + 1, by omega, HNX.out, by rw [HBX.out]; exact HS9.out⟩, HM1.out⟩
          · obtain rfl : i = m := by omega
            have hnk : ¬ (i : Int) - r ≤ r := by have := HM.out; omega
            have HLT : Hid (∀ M, (Value.pointer (some ⟨M9, 0, none⟩)) = .pointer (some ⟨M, 0, none⟩) → M < wr.heap.size) := fun M hM => by
              cases hM
              exact HS9.out.2.1.lt
            go_wp2_with fail
            exact ⟨⟨T + 1, by omega, by simp, HLT.out, by rw [HBT.out]; exact HS9.out.1⟩, by simp [intOf] <;> omega⟩
    · obtain rfl : T = 12 := by omega
      generalize hRR : bt co r m 12 = R at HS
      rw [hRR] at HV
      clear hRR
      obtain ⟨R0, R1, R2, R3, R4⟩ := R
      obtain ⟨b0, b1, b2, b3, b4⟩ := HS.out.im5 0 rfl
      obtain ⟨g0, g1, g2, g3, g4⟩ := HS.out.im5 1 rfl
      obtain ⟨d0, d1, d2, d3, d4⟩ := HS.out.fr5 1 rfl
      have HE := hide (HS.out.fill5 (L1 := [_]) (.int .i64 R0) (.int .i64 R1) (.int .i64 R2) (.int .i64 R3) (.int .i64 R4)).below
      clear HS
      go_wp2_with fail
      exact bodyPost_ret (v := vF ⟨R0, R1, R2, R3, R4⟩) (by simp [results, Tryd.results10, go_sem, g0, g1, g2, g3, g4]) rfl ⟨by rw [HV.out], HE.out⟩

end Go.Proofs.YtncaekmjpfjneaaDoor
