/- What a fit costs: the program. -/
import Derived.Test.YtncaekmjpfjneaaDoorFco
import Derived.Test.YtncaekmjpfjneaaDoorTnt
import Derived.Test.YtncaekmjpfjneaaDoorRgi
namespace Go.Proofs.YtncaekmjpfjneaaDoor
open Go.RowKit

/-- a turn of the table -/
def tqT (i : Nat) : T4 := (tbA.getD (i * 4) 0, tbA.getD (i * 4 + 1) 0, tbA.getD (i * 4 + 2) 0, tbA.getD (i * 4 + 3) 0)
theorem tq_ok : ∀ i, i < 12 → tkT (tqT i) = true := by decide +kernel
theorem lik_parts {X Y Z : Int} {n : Nat} {f : Nat → Int} {X' Y' Z' : Int} {n' : Nat} {f' : Nat → Int} (h : likB X Y Z n f X' Y' Z' n' f' = true) : cubB X Y Z n f = true ∧ cubB X' Y' Z' n' f' = true ∧ X = X' ∧ X ≤ 6 := by
  unfold likB at h
  simp only [Bool.and_eq_true, decide_eq_true_eq] at h
  exact h
theorem alW_ofF {f : Nat → Int} {lo hi : Int} : ∀ {n : Nat}, (∀ k, k < n → lo ≤ f k ∧ f k ≤ hi) → alW f lo hi n = true
  | 0, _ => rfl
  | n + 1, h => by
    have h1 := h n (by omega)
    simp only [alW, Bool.and_eq_true]
    refine ⟨alW_ofF fun k hk => h k (by omega), ?_⟩
    unfold inB
    simp [h1.1, h1.2]
theorem cub_turnF {t : T4} (ht : tkT t = true) {X : Int} {n : Nat} {f : Nat → Int} (h : cubB X X X n f = true) : cubB X X X n (tvs (tgT t X) f n) = true := by
  have hw := cub_in h
  obtain ⟨-, -, hX, hn, -⟩ := cubB_parts h
  unfold cubB volB at h ⊢
  simp only [Bool.and_eq_true] at h ⊢
  obtain ⟨⟨h1, h2, h3, h4, h5⟩, h6, h7⟩ := h
  exact ⟨⟨h1, h2, h3, h4, alW_ofF fun j hj => tvs_within ht hX.1 hn hw hj⟩, h6, h7⟩
theorem inB_iffF {x lo hi : Int} : inB x lo hi = true ↔ lo ≤ x ∧ x ≤ hi := by unfold inB; simp
theorem fit_no {tq : Nat → T4} {X Y Z : Int} {n : Nat} {f : Nat → Int} {X' Y' Z' : Int} {n' : Nat} {f' : Nat → Int} {tn x y z : Int} (h : (likB X Y Z n f X' Y' Z' n' f' && (inB tn 0 11 && (inB x (-2) 2 && (inB y (-2) 2 && inB z (-2) 2)))) = false) : fitV tq X Y Z n f X' Y' Z' n' f' tn x y z = -1 := by
  unfold fitV; rw [h]; rfl
theorem fit_yes {tq : Nat → T4} {X Y Z : Int} {n : Nat} {f : Nat → Int} {X' Y' Z' : Int} {n' : Nat} {f' : Nat → Int} {tn x y z : Int} (h : (likB X Y Z n f X' Y' Z' n' f' && (inB tn 0 11 && (inB x (-2) 2 && (inB y (-2) 2 && inB z (-2) 2)))) = true) : fitV tq X Y Z n f X' Y' Z' n' f' tn x y z = cst f (tvs (tgT (tq tn.toNat) X) f' n') X x y z n := by
  unfold fitV; rw [h]; rfl

set_option maxRecDepth 100000 in
set_option maxHeartbeats 4000000 in
theorem implFitCost_any (X Y Z : Int) (a : Option Addr) (n cap : Nat) (f : Nat → Int) (hl : n ≤ 1048576) (X' Y' Z' : Int) (a' : Option Addr) (n' cap' : Nat) (f' : Nat → Int) (hl' : n' ≤ 1048576) (tn x y z : Int) (w : World) (hT : Tbl w) (h : Px a n f w) (h' : Px a' n' f' w) :
    Calls Tryd.prog 8 #[vVolume X Y Z a n cap, vVolume X' Y' Z' a' n' cap', .int .i64 tn, .int .i64 x, .int .i64 y, .int .i64 z] w fun e w' => e = .returned (.int .i64 (fitV tqT X Y Z n f X' Y' Z' n' f' tn x y z)) ∧ Below w.heap.size w w' := by
  have HS0 := hide ((((St.start w).box [.int .i64 X, .int .i64 Y, .int .i64 Z, .slice a n cap] 27).box' [.int .i64 X', .int .i64 Y', .int .i64 Z', .slice a' n' cap'] 27 (b := w.heap.size + 1) (by simp)).box' [.int .i64 x, .int .i64 y, .int .i64 z] 46 (b := w.heap.size + 2) (by simp))
  have HP0 := hide h
  have HQ0 := hide h'
  have HT0 := hide hT
  have cL := fun w' hw hw' => areLikeCubes_any X Y Z a n cap f hl X' Y' Z' a' n' cap' f' hl' w' hw hw'
  have cI := fun w' => within_any tn 0 11 w'
  clear h h' hT
  generalize hA : ((w.alloc (.cells [.int .i64 X, .int .i64 Y, .int .i64 Z, .slice a n cap].toArray 27)).alloc (.cells [.int .i64 X', .int .i64 Y', .int .i64 Z', .slice a' n' cap'].toArray 27)).alloc (.cells [.int .i64 x, .int .i64 y, .int .i64 z].toArray 46) = wA at HS0
  have hA' : ((w.alloc (.cells #[.int .i64 X, .int .i64 Y, .int .i64 Z, .slice a n cap] 27)).alloc (.cells #[.int .i64 X', .int .i64 Y', .int .i64 Z', .slice a' n' cap'] 27)).alloc (.cells #[.int .i64 x, .int .i64 y, .int .i64 z] 46) = wA := hA
  clear hA
  obtain ⟨i0, i1, i2, i3⟩ := HS0.out.im4 2 rfl
  obtain ⟨j0, j1, j2, j3⟩ := HS0.out.im4 1 rfl
  go_enter Tryd.func8, Tryd.ntmps8
  go_wp2_with fail
  refine (cL _ (HP0.out.below HS0.out.below) (HQ0.out.below HS0.out.below)).mono ?_
  rintro e w1 ⟨rfl, hb⟩
  have HS1 := hide (HS0.out.next hb)
  have HE := hide HS1.out.below
  clear hb HS0 cL i0 i1 i2 i3 j0 j1 j2 j3 hA'
  cases hlik : likB X Y Z n f X' Y' Z' n' f'
  · have HV := hide (fit_no (tq := tqT) (tn := tn) (x := x) (y := y) (z := z) (show (likB X Y Z n f X' Y' Z' n' f' && _) = false by rw [hlik]; rfl))
    clear hlik
    go_wp2_with fail
    go_ret
    exact ⟨by rw [HV.out]; rfl, HE.out⟩
  go_wp2_with fail
  refine (cI _).mono ?_
  rintro e w2 ⟨rfl, h1⟩
  obtain rfl := h1.symm
  cases hin : inB tn 0 11
  · have HV := hide (fit_no (tq := tqT) (tn := tn) (x := x) (y := y) (z := z) (show (likB X Y Z n f X' Y' Z' n' f' && (inB tn 0 11 && _)) = false by rw [hlik, hin]; rfl))
    clear hlik hin
    go_wp2_with fail
    go_ret
    exact ⟨by rw [HV.out]; rfl, HE.out⟩
  have hpx : Px (some ⟨w.heap.size + 2, 0, none⟩) 3 (q3F x y z) w1 := .inr ⟨w.heap.size + 2, 0, rfl, fun k hk => by
    match k, hk with
    | 0, _ => exact (HS1.out.im3 0 rfl).1
    | 1, _ => exact (HS1.out.im3 0 rfl).2.1
    | 2, _ => exact (HS1.out.im3 0 rfl).2.2⟩
  have cW := allWithin_any (-2) 2 (some ⟨w.heap.size + 2, 0, none⟩) 3 3 (q3F x y z) (by omega) w1 hpx
  have hal : alW (q3F x y z) (-2) 2 3 = (inB x (-2) 2 && (inB y (-2) 2 && inB z (-2) 2)) := by
    show (((true && inB x (-2) 2) && inB y (-2) 2) && inB z (-2) 2) = _
    cases inB x (-2) 2 <;> cases inB y (-2) 2 <;> cases inB z (-2) 2 <;> rfl
  rw [hal] at cW
  clear hpx hal
  go_wp2_with fail
  refine cW.mono ?_
  rintro e w2 ⟨rfl, h1⟩
  obtain rfl := h1.symm
  cases hsh : (inB x (-2) 2 && (inB y (-2) 2 && inB z (-2) 2))
  · have HV := hide (fit_no (tq := tqT) (tn := tn) (x := x) (y := y) (z := z) (show (likB X Y Z n f X' Y' Z' n' f' && (inB tn 0 11 && (inB x (-2) 2 && (inB y (-2) 2 && inB z (-2) 2)))) = false by rw [hlik, hin, hsh]; rfl))
    clear hlik hin hsh cI cW
    go_wp2_with fail
    go_ret
    exact ⟨by rw [HV.out]; rfl, HE.out⟩
  have HV := fit_yes (tq := tqT) (tn := tn) (x := x) (y := y) (z := z) (show (likB X Y Z n f X' Y' Z' n' f' && (inB tn 0 11 && (inB x (-2) 2 && (inB y (-2) 2 && inB z (-2) 2)))) = true by rw [hlik, hin, hsh]; rfl)
  simp only [Bool.and_eq_true] at hsh
  have hx := inB_iffF.1 hsh.1
  have hy := inB_iffF.1 hsh.2.1
  have hz := inB_iffF.1 hsh.2.2
  have htn := inB_iffF.1 hin
  clear hsh hin cI cW
  obtain ⟨hcA, hcB, hXX, hX6⟩ := lik_parts hlik
  obtain ⟨ea1, ea2, hX, hnX, hn2⟩ := cubB_parts hcA
  obtain ⟨eb1, eb2, -, hnX', -⟩ := cubB_parts hcB
  subst ea1 ea2 hXX eb1 eb2
  obtain rfl : n = n' := by omega
  obtain ⟨T, hTn⟩ : ∃ T : Nat, tn = (T : Int) := ⟨tn.toNat, by omega⟩
  have hT12 : T < 12 := by omega
  have htk := tq_ok T hT12
  have hn1 := cub_posF hcA
  have hfA := cub_in hcA
  have hfB := cub_in (cub_turnF htk hcB)
  obtain ⟨ft, hft⟩ : ∃ ft, ft = tvs (tgT (tqT T) X) f' n := ⟨_, rfl⟩
  rw [← hft] at hfB
  have hTT : tn.toNat = T := by omega
  rw [hTT, ← hft] at HV
  have HVV := hide HV
  subst hTn
  clear HV hTT htn
  have cC := fun a9 c9 w' hw hw' => costOfShift_any X a n cap f a9 c9 ft hX hnX hn2 hfA hfB x y z hx hy hz w' hw hw'
  have cT := fun a9 c9 w' hw => turnI_any X n f' hcB (tbA.getD (T * 4) 0) (tbA.getD (T * 4 + 1) 0) (tbA.getD (T * 4 + 2) 0) (tbA.getD (T * 4 + 3) 0) htk a9 c9 w' hw
  change ∀ a9 c9 w' hw, Calls Tryd.prog _ _ w' (fun e w'' => ∃ b' cp', e = .returned (vVolume X X X (some ⟨b', 0, none⟩) n cp') ∧ Row b' n (tvs (tgT (tqT T) X) f' n) w'' ∧ _) at cT
  rw [← hft] at cT
  clear hft hcA hcB hlik hfA hfB htk hnX hnX' hX hX6 hx hy hz
  have BA : Hid (Bx w.heap.size [.int .i64 X, .int .i64 X, .int .i64 X, .slice a n cap] w1) := fun j v hv => ⟨HS1.out.cell 2 rfl j hv, HS1.out.free 2 rfl j hv⟩
  have BB : Hid (Bx (w.heap.size + 1) [.int .i64 X, .int .i64 X, .int .i64 X, .slice a' n cap'] w1) := fun j v hv => ⟨HS1.out.cell 1 rfl j hv, HS1.out.free 1 rfl j hv⟩
  have BS : Hid (Bx (w.heap.size + 2) [.int .i64 x, .int .i64 y, .int .i64 z] w1) := fun j v hv => ⟨HS1.out.cell 0 rfl j hv, HS1.out.free 0 rfl j hv⟩
  have HP := hide (HP0.out.below HE.out)
  have HQ := hide (HQ0.out.below HE.out)
  have HTB := hide (HT0.out.below HE.out (Nat.le_refl _))
  clear HS1 HP0 HQ0 HT0
  go_upto_region 4 with fail
  have hTi : (T : Int) < 12 := by omega
  have hT0 : (0 : Int) ≤ (T : Int) := by omega
  obtain ⟨G, hG⟩ : ∃ G : Nat → Value → Prop, G = (fun j v => match j, v with | 0, v => v = vVolume X X X a n cap | 1, v => v = vVolume X X X a' n cap' | 2, v => v = .int .i64 (T : Int) | 3, v => v = .pointer (some ⟨0, T * 4, none⟩) | 4, v => v = tv (tbA.getD (T * 4) 0) (tbA.getD (T * 4 + 1) 0) (tbA.getD (T * 4 + 2) 0) (tbA.getD (T * 4 + 3) 0) | 6, v => v = v3v x y z | 7, v => v = .int .i64 (cst f ft X x y z n) | 8, v => v = .int .i64 (cst f ft X x y z n) | _, _ => True) := ⟨_, rfl⟩
  have G0 : Hid (∀ v, G 0 v ↔ v = vVolume X X X a n cap) := fun v => by rw [hG]; exact Iff.rfl
  have G1 : Hid (∀ v, G 1 v ↔ v = vVolume X X X a' n cap') := fun v => by rw [hG]; exact Iff.rfl
  have G2 : Hid (∀ v, G 2 v ↔ v = .int .i64 (T : Int)) := fun v => by rw [hG]; exact Iff.rfl
  have G3 : Hid (∀ v, G 3 v ↔ v = .pointer (some ⟨0, T * 4, none⟩)) := fun v => by rw [hG]; exact Iff.rfl
  have G4 : Hid (∀ v, G 4 v ↔ v = tv (tbA.getD (T * 4) 0) (tbA.getD (T * 4 + 1) 0) (tbA.getD (T * 4 + 2) 0) (tbA.getD (T * 4 + 3) 0)) := fun v => by rw [hG]; exact Iff.rfl
  have G5 : Hid (∀ v, G 5 v) := fun v => by rw [hG]; trivial
  have G6 : Hid (∀ v, G 6 v ↔ v = v3v x y z) := fun v => by rw [hG]; exact Iff.rfl
  have G7 : Hid (∀ v, G 7 v ↔ v = .int .i64 (cst f ft X x y z n)) := fun v => by rw [hG]; exact Iff.rfl
  have G8 : Hid (∀ v, G 8 v ↔ v = .int .i64 (cst f ft X x y z n)) := fun v => by rw [hG]; exact Iff.rfl
  clear hG
  refine region_ops (fun w' => Below w1.heap.size w1 w') (fzF X n G 5 ft) (by kernel_rfl) (by kernel_rfl) (by kernel_rfl) (Below.refl _ _).drew ?_ ?_
  · refine ⟨?_, ?_, ?_, ?_, ?_, ?_, ?_, ?_, ?_, trivial⟩
    · intro u w21 au hau _ hF hp' K hK
      have t6 : au.tmps[6]?.getD undef = .pointer (some ⟨w.heap.size, 0, none⟩) := by rw [hau.out]; kernel_rfl
      have bx := BA.out.below hF BA.out.ltF
      obtain ⟨x0, -⟩ := bx 0 _ rfl
      obtain ⟨x1, -⟩ := bx 1 _ rfl
      obtain ⟨x2, -⟩ := bx 2 _ rfl
      obtain ⟨x3, -⟩ := bx 3 _ rfl
      clear bx
      refine step_plain rfl ?_
      go_simp
      exact hK.out (vVolume X X X a n cap) _ hF (fzF_val 0 (by omega) ((G0.out _).2 rfl)) (fun j hj _ h => fzF_up hn1 (Below.refl _ _) 0 _ j hj h)
    · intro u w21 au hau _ hF hp' K hK
      have t7 : au.tmps[7]?.getD undef = .pointer (some ⟨w.heap.size + 1, 0, none⟩) := by rw [hau.out]; kernel_rfl
      have bx := BB.out.below hF BB.out.ltF
      obtain ⟨x0, -⟩ := bx 0 _ rfl
      obtain ⟨x1, -⟩ := bx 1 _ rfl
      obtain ⟨x2, -⟩ := bx 2 _ rfl
      obtain ⟨x3, -⟩ := bx 3 _ rfl
      clear bx
      refine step_plain rfl ?_
      go_simp
      exact hK.out (vVolume X X X a' n cap') _ hF (fzF_val 1 (by omega) ((G1.out _).2 rfl)) (fun j hj _ h => fzF_up hn1 (Below.refl _ _) 1 _ j hj h)
    · intro u w21 au hau _ hF hp' K hK
      have t2 : au.tmps[2]?.getD undef = .int .i64 (T : Int) := by rw [hau.out]; kernel_rfl
      refine step_plain rfl ?_
      go_simp
      exact hK.out (.int .i64 (T : Int)) _ hF (fzF_val 2 (by omega) ((G2.out _).2 rfl)) (fun j hj _ h => fzF_up hn1 (Below.refl _ _) 2 _ j hj h)
    · intro u w21 au hau _ hF hp' K hK
      have h2 : u 2 = .int .i64 (T : Int) := (G2.out _).1 (PreF.get hp' 2 (by kernel_rfl)).1
      have t34 : au.tmps[34]?.getD undef = u 2 := by rw [hau.out]; kernel_rfl
      rw [h2] at t34
      refine step_plain rfl ?_
      go_simp
      exact hK.out (.pointer (some ⟨0, T * 4, none⟩)) _ hF (fzF_val 3 (by omega) ((G3.out _).2 rfl)) (fun j hj _ h => fzF_up hn1 (Below.refl _ _) 3 _ j hj h)
    · intro u w21 au hau _ hF hp' K hK
      have h3 : u 3 = .pointer (some ⟨0, T * 4, none⟩) := (G3.out _).1 (PreF.get hp' 3 (by kernel_rfl)).1
      have t35 : au.tmps[35]?.getD undef = u 3 := by rw [hau.out]; kernel_rfl
      rw [h3] at t35
      have hTb := HTB.out.below hF (Nat.le_refl _)
      have x0 := hTb (T * 4) (by omega)
      have x1 := hTb (T * 4 + 1) (by omega)
      have x2 := hTb (T * 4 + 2) (by omega)
      have x3 := hTb (T * 4 + 3) (by omega)
      clear hTb
      refine step_plain rfl ?_
      go_simp
      exact hK.out (tv (tbA.getD (T * 4) 0) (tbA.getD (T * 4 + 1) 0) (tbA.getD (T * 4 + 2) 0) (tbA.getD (T * 4 + 3) 0)) _ hF (fzF_val 4 (by omega) ((G4.out _).2 rfl)) (fun j hj _ h => fzF_up hn1 (Below.refl _ _) 4 _ j hj h)
    · intro u w21 au hau _ hF hp' K hK
      have h1 : u 1 = vVolume X X X a' n cap' := (G1.out _).1 (PreF.get hp' 1 (by kernel_rfl)).1
      have t33 : au.tmps[33]?.getD undef = u 1 := by rw [hau.out]; kernel_rfl
      rw [h1] at t33
      have h4 : u 4 = tv (tbA.getD (T * 4) 0) (tbA.getD (T * 4 + 1) 0) (tbA.getD (T * 4 + 2) 0) (tbA.getD (T * 4 + 3) 0) := (G4.out _).1 (PreF.get hp' 4 (by kernel_rfl)).1
      have t36 : au.tmps[36]?.getD undef = u 4 := by rw [hau.out]; kernel_rfl
      rw [h4] at t36
      have c := cT a' cap' w21 (HQ.out.below hF)
      refine step_plain rfl ?_
      go_simp
      refine c.mono ?_
      rintro e w22 ⟨b9, c9, rfl, hr9, hb9⟩
      exact hK.out (vVolume X X X (some ⟨b9, 0, none⟩) n c9) _ (hF.trans (hb9.mono hF.size)) (fzF_vol G5.out hr9) (fun j hj _ h => fzF_up hn1 hb9 5 _ j hj h)
    · intro u w21 au hau _ hF hp' K hK
      have t13 : au.tmps[13]?.getD undef = .pointer (some ⟨w.heap.size + 2, 0, none⟩) := by rw [hau.out]; kernel_rfl
      have bx := BS.out.below hF BS.out.ltF
      obtain ⟨x0, -⟩ := bx 0 _ rfl
      obtain ⟨x1, -⟩ := bx 1 _ rfl
      obtain ⟨x2, -⟩ := bx 2 _ rfl
      clear bx
      refine step_plain rfl ?_
      go_simp
      exact hK.out (v3v x y z) _ hF (fzF_val 6 (by omega) ((G6.out _).2 rfl)) (fun j hj _ h => fzF_up hn1 (Below.refl _ _) 6 _ j hj h)
    · intro u w21 au hau _ hF hp' K hK
      have h0 : u 0 = vVolume X X X a n cap := (G0.out _).1 (PreF.get hp' 0 (by kernel_rfl)).1
      have t32 : au.tmps[32]?.getD undef = u 0 := by rw [hau.out]; kernel_rfl
      rw [h0] at t32
      have h6 : u 6 = v3v x y z := (G6.out _).1 (PreF.get hp' 6 (by kernel_rfl)).1
      have t38 : au.tmps[38]?.getD undef = u 6 := by rw [hau.out]; kernel_rfl
      rw [h6] at t38
      obtain ⟨b8, c8, h5, r8⟩ := (PreF.get hp' 5 (by kernel_rfl)).2 rfl
      have t37 : au.tmps[37]?.getD undef = u 5 := by rw [hau.out]; kernel_rfl
      rw [h5] at t37
      have c := cC (some ⟨b8, 0, none⟩) c8 w21 (HP.out.below hF) r8.px
      refine step_plain rfl ?_
      go_simp
      refine c.mono ?_
      rintro e w22 ⟨rfl, hb9⟩
      exact hK.out (.int .i64 (cst f ft X x y z n)) _ (hF.trans (hb9.mono hF.size)) (fzF_val 7 (by omega) ((G7.out _).2 rfl)) (fun j hj _ h => fzF_up hn1 hb9 7 _ j hj h)
    · intro u w21 au hau _ hF hp' K hK
      have h7 : u 7 = .int .i64 (cst f ft X x y z n) := (G7.out _).1 (PreF.get hp' 7 (by kernel_rfl)).1
      have t39 : au.tmps[39]?.getD undef = u 7 := by rw [hau.out]; kernel_rfl
      rw [h7] at t39
      refine step_plain rfl ?_
      go_simp
      exact hK.out (.int .i64 (cst f ft X x y z n)) _ hF (fzF_val 8 (by omega) ((G8.out _).2 rfl)) (fun j hj _ h => fzF_up hn1 (Below.refl _ _) 8 _ j hj h)
  · intro u w30 hF hall
    have h8 : u 8 = .int .i64 (cst f ft X x y z n) := (G8.out _).1 (hall 8 (by decide)).1
    have HEE := hide (HE.out.trans (hF.mono HE.out.size))
    clear hF hall
    simp only [rgPut, Act.put, h8]
    go_simp
    go_wp2_with fail
    go_ret
    exact ⟨by rw [HVV.out]; rfl, HEE.out⟩

end Go.Proofs.YtncaekmjpfjneaaDoor
