/- What a fit costs: the specification. -/
import Derived.Test.YtncaekmjpfjneaaDoorFfi
import Derived.Test.YtncaekmjpfjneaaDoorTns
namespace Go.Proofs.YtncaekmjpfjneaaDoor
open Go.RowKit

theorem TwR.rowF {w w' : World} {e : Ending} (h : TwR w e w') : ∃ b cp, e = .returned (.slice (some ⟨b, 0, none⟩) 12 cp) ∧ w.heap.size ≤ b ∧ Row b 48 (fun k => tbA.getD k 0) w' ∧ Below w.heap.size w w' := by
  obtain ⟨v, rfl, ho, hb⟩ := h
  have h0 := ho
  obtain ⟨hlen, hv | ⟨b, cp, cur, hv, hg, hcur, _, hm2, _, _⟩⟩ := ho
  · exact absurd hv.2 (by omega)
  · subst hv
    refine ⟨b, cp, rfl, hg, fun k hk => ⟨?_, h0.frozenAt k⟩, hb⟩
    rw [h0.cellAt k (by omega), ints_at _ _ (by rw [ints_length] at hlen; omega)]
theorem tb_i64 (q : Nat) : I64 (tbA.getD q 0) := by
  by_cases h : q < 48
  · have : ∀ q, q < 48 → -9223372036854775808 ≤ tbA.getD q 0 ∧ tbA.getD q 0 ≤ 9223372036854775807 := by decide +kernel
    exact this q h
  · have hl : tbA.length ≤ q := Nat.le_of_not_lt h
    rw [List.getD_eq_getElem?_getD, List.getElem?_eq_none hl]
    unfold I64; decide
/-- what each operation leaves: the turns' list and a place in it besides -/
def fsF (X : Int) (n : Nat) (G : Nat → Value → Prop) (f : Nat → Int) (T : Nat) (j : Nat) (u : Nat → Value) (w : World) : Prop :=
  fzF X n G 6 f j u w ∧ (j = 2 → ∃ b cp, u 2 = .slice (some ⟨b, 0, none⟩) 12 cp ∧ Row b 48 (fun k => tbA.getD k 0) w) ∧ (j = 4 → ∃ b, u 4 = .pointer (some ⟨b, T * 4, none⟩) ∧ Row b 48 (fun k => tbA.getD k 0) w)
theorem fsF_up {X : Int} {n : Nat} {G : Nat → Value → Prop} {f : Nat → Int} {T : Nat} {u : Nat → Value} {w w' : World} (hn : 1 ≤ n) (hb : Below w.heap.size w w') (i : Nat) (v : Value) (j : Nat) (hj : j ≠ i) (h : fsF X n G f T j u w) : fsF X n G f T j (upU u i v) w' := by
  obtain ⟨h1, h2, h3⟩ := h
  refine ⟨fzF_up hn hb i v j hj h1, fun e => ?_, fun e => ?_⟩
  · obtain ⟨b, cp, e', hr⟩ := h2 e
    exact ⟨b, cp, by rw [upU_other u v (by omega)]; exact e', hr.below hb (hr.ltF (by omega))⟩
  · obtain ⟨b, e', hr⟩ := h3 e
    exact ⟨b, by rw [upU_other u v (by omega)]; exact e', hr.below hb (hr.ltF (by omega))⟩
theorem fsF_val {X : Int} {n : Nat} {G : Nat → Value → Prop} {f : Nat → Int} {T : Nat} {u : Nat → Value} {w : World} (j : Nat) (hf : j ≠ 6) (h2 : j ≠ 2) (h4 : j ≠ 4) {v : Value} (h : G j v) : fsF X n G f T j (upU u j v) w :=
  ⟨fzF_val j hf h, fun e => absurd e h2, fun e => absurd e h4⟩

set_option maxRecDepth 100000 in
set_option maxHeartbeats 4000000 in
theorem specFitCost_any (X Y Z : Int) (a : Option Addr) (n cap : Nat) (f : Nat → Int) (hl : n ≤ 1048576) (X' Y' Z' : Int) (a' : Option Addr) (n' cap' : Nat) (f' : Nat → Int) (hl' : n' ≤ 1048576) (tn x y z : Int) (w : World) (h : Px a n f w) (h' : Px a' n' f' w) :
    Calls Tryd.prog 6 #[vVolume X Y Z a n cap, vVolume X' Y' Z' a' n' cap', .int .i64 tn, .int .i64 x, .int .i64 y, .int .i64 z] w fun e w' => e = .returned (.int .i64 (fitV tqT X Y Z n f X' Y' Z' n' f' tn x y z)) ∧ Below w.heap.size w w' := by
  have HS0 := hide (((St.start w).box [.int .i64 X, .int .i64 Y, .int .i64 Z, .slice a n cap] 27).box' [.int .i64 X', .int .i64 Y', .int .i64 Z', .slice a' n' cap'] 27 (b := w.heap.size + 1) (by simp))
  have HP0 := hide h
  have HQ0 := hide h'
  have cL := fun w' hw hw' => l10FitOk_any X Y Z a n cap f hl X' Y' Z' a' n' cap' f' hl' w' hw hw'
  have cI := fun w' => l1In_any tn 0 11 w'
  have cx := fun w' => l1In_any x (-2) 2 w'
  have cy := fun w' => l1In_any y (-2) 2 w'
  have cz := fun w' => l1In_any z (-2) 2 w'
  clear h h'
  obtain ⟨i0, i1, i2, i3⟩ := HS0.out.im4 1 rfl
  obtain ⟨j0, j1, j2, j3⟩ := HS0.out.im4 0 rfl
  go_enter Tryd.func6, Tryd.ntmps6
  go_wp2_with fail
  refine (cL _ (HP0.out.below HS0.out.below) (HQ0.out.below HS0.out.below)).mono ?_
  rintro e w1 ⟨rfl, hb⟩
  have HS1 := hide (HS0.out.next hb)
  have HE := hide HS1.out.below
  clear hb HS0 cL i0 i1 i2 i3 j0 j1 j2 j3
  cases hlik : likB X Y Z n f X' Y' Z' n' f'
  · have HV := hide (fit_no (tq := tqT) (tn := tn) (x := x) (y := y) (z := z) (show (likB X Y Z n f X' Y' Z' n' f' && (inB tn 0 11 && (inB x (-2) 2 && (inB y (-2) 2 && inB z (-2) 2)))) = false by rw [hlik]; rfl))
    clear hlik
    go_wp2_with fail
    go_ret
    exact ⟨by rw [HV.out]; rfl, HE.out⟩
  go_wp2_with fail
  refine (cI _).mono ?_
  rintro e w2 ⟨rfl, h1⟩
  obtain rfl := h1.symm
  cases hin : inB tn 0 11
  · have HV := hide (fit_no (tq := tqT) (tn := tn) (x := x) (y := y) (z := z) (show (likB X Y Z n f X' Y' Z' n' f' && (inB tn 0 11 && (inB x (-2) 2 && (inB y (-2) 2 && inB z (-2) 2)))) = false by rw [hlik, hin]; simp))
    clear hlik hin
    go_wp2_with fail
    go_ret
    exact ⟨by rw [HV.out]; rfl, HE.out⟩
  go_wp2_with fail
  refine (cx _).mono ?_
  rintro e w2 ⟨rfl, h1⟩
  obtain rfl := h1.symm
  cases hix : inB x (-2) 2
  · have HV := hide (fit_no (tq := tqT) (tn := tn) (x := x) (y := y) (z := z) (show (likB X Y Z n f X' Y' Z' n' f' && (inB tn 0 11 && (inB x (-2) 2 && (inB y (-2) 2 && inB z (-2) 2)))) = false by rw [hlik, hin, hix]; simp))
    clear hlik hin hix
    go_wp2_with fail
    go_ret
    exact ⟨by rw [HV.out]; rfl, HE.out⟩
  go_wp2_with fail
  refine (cy _).mono ?_
  rintro e w2 ⟨rfl, h1⟩
  obtain rfl := h1.symm
  cases hiy : inB y (-2) 2
  · have HV := hide (fit_no (tq := tqT) (tn := tn) (x := x) (y := y) (z := z) (show (likB X Y Z n f X' Y' Z' n' f' && (inB tn 0 11 && (inB x (-2) 2 && (inB y (-2) 2 && inB z (-2) 2)))) = false by rw [hlik, hin, hix, hiy]; simp))
    clear hlik hin hix hiy
    go_wp2_with fail
    go_ret
    exact ⟨by rw [HV.out]; rfl, HE.out⟩
  go_wp2_with fail
  refine (cz _).mono ?_
  rintro e w2 ⟨rfl, h1⟩
  obtain rfl := h1.symm
  cases hiz : inB z (-2) 2
  · have HV := hide (fit_no (tq := tqT) (tn := tn) (x := x) (y := y) (z := z) (show (likB X Y Z n f X' Y' Z' n' f' && (inB tn 0 11 && (inB x (-2) 2 && (inB y (-2) 2 && inB z (-2) 2)))) = false by rw [hlik, hin, hix, hiy, hiz]; simp))
    clear hlik hin hix hiy hiz
    go_wp2_with fail
    go_ret
    exact ⟨by rw [HV.out]; rfl, HE.out⟩
  have HV := fit_yes (tq := tqT) (tn := tn) (x := x) (y := y) (z := z) (show (likB X Y Z n f X' Y' Z' n' f' && (inB tn 0 11 && (inB x (-2) 2 && (inB y (-2) 2 && inB z (-2) 2)))) = true by rw [hlik, hin, hix, hiy, hiz]; rfl)
  have hx := inB_iffF.1 hix
  have hy := inB_iffF.1 hiy
  have hz := inB_iffF.1 hiz
  have htn := inB_iffF.1 hin
  clear hin hix hiy hiz cI cx cy cz
  obtain ⟨hcA, hcB, hXX, hX6⟩ := lik_parts hlik
  obtain ⟨ea1, ea2, hX, hnX, hn2⟩ := cubB_parts hcA
  obtain ⟨eb1, eb2, -, hnX', -⟩ := cubB_parts hcB
  subst ea1 ea2 hXX eb1 eb2
  obtain rfl : n = n' := by omega
  obtain ⟨T, hTn⟩ : ∃ T : Nat, tn = (T : Int) := ⟨tn.toNat, by omega⟩
  have hT12 : T < 12 := by omega
  have htk := tq_ok T hT12
  have hn1 := cub_posF hcA
  have hfA := cub_in hcA
  have hfB := cub_in (cub_turnF htk hcB)
  obtain ⟨ft, hft⟩ : ∃ ft, ft = tvs (tgT (tqT T) X) f' n := ⟨_, rfl⟩
  rw [← hft] at hfB
  have hTT : tn.toNat = T := by omega
  rw [hTT, ← hft] at HV
  have HVV := hide HV
  subst hTn
  clear HV hTT htn
  have cC := fun a9 c9 w' hw hw' => l10Cost_any X a n cap f a9 c9 ft hX hnX hn2 hfA hfB x y z hx hy hz w' hw hw'
  have cT := fun a9 c9 w' hw => turnS_any X n f' hcB (tbA.getD (T * 4) 0) (tbA.getD (T * 4 + 1) 0) (tbA.getD (T * 4 + 2) 0) (tbA.getD (T * 4 + 3) 0) (tb_i64 _) (tb_i64 _) (tb_i64 _) (tb_i64 _) htk a9 c9 w' hw
  change ∀ a9 c9 w' hw, Calls Tryd.prog _ _ w' (fun e w'' => ∃ b' cp', e = .returned (vVolume X X X (some ⟨b', 0, none⟩) n cp') ∧ Row b' n (tvs (tgT (tqT T) X) f' n) w'' ∧ _) at cT
  rw [← hft] at cT
  clear hft hcA hcB hlik hfA hfB htk hnX hnX' hX hX6 hx hy hz
  have BA : Hid (Bx w.heap.size [.int .i64 X, .int .i64 X, .int .i64 X, .slice a n cap] w1) := fun j v hv => ⟨HS1.out.cell 1 rfl j hv, HS1.out.free 1 rfl j hv⟩
  have BB : Hid (Bx (w.heap.size + 1) [.int .i64 X, .int .i64 X, .int .i64 X, .slice a' n cap'] w1) := fun j v hv => ⟨HS1.out.cell 0 rfl j hv, HS1.out.free 0 rfl j hv⟩
  have HP := hide (HP0.out.below HE.out)
  have HQ := hide (HQ0.out.below HE.out)
  clear HS1 HP0 HQ0
  go_upto_region 3 with fail
  have hTi : (T : Int) < 12 := by omega
  have hT0 : (0 : Int) ≤ (T : Int) := by omega
  obtain ⟨G, hG⟩ : ∃ G : Nat → Value → Prop, G = (fun j v => match j, v with | 0, v => v = vVolume X X X a n cap | 1, v => v = vVolume X X X a' n cap' | 3, v => v = .int .i64 (T : Int) | 5, v => v = tv (tbA.getD (T * 4) 0) (tbA.getD (T * 4 + 1) 0) (tbA.getD (T * 4 + 2) 0) (tbA.getD (T * 4 + 3) 0) | 7, v => v = .int .i64 x | 8, v => v = .int .i64 y | 9, v => v = .int .i64 z | 10, v => v = .int .i64 (cst f ft X x y z n) | 11, v => v = .int .i64 (cst f ft X x y z n) | _, _ => True) := ⟨_, rfl⟩
  have G0 : Hid (∀ v, G 0 v ↔ v = vVolume X X X a n cap) := fun v => by rw [hG]; exact Iff.rfl
  have G1 : Hid (∀ v, G 1 v ↔ v = vVolume X X X a' n cap') := fun v => by rw [hG]; exact Iff.rfl
  have G2 : Hid (∀ v, G 2 v) := fun v => by rw [hG]; trivial
  have G3 : Hid (∀ v, G 3 v ↔ v = .int .i64 (T : Int)) := fun v => by rw [hG]; exact Iff.rfl
  have G4 : Hid (∀ v, G 4 v) := fun v => by rw [hG]; trivial
  have G5 : Hid (∀ v, G 5 v ↔ v = tv (tbA.getD (T * 4) 0) (tbA.getD (T * 4 + 1) 0) (tbA.getD (T * 4 + 2) 0) (tbA.getD (T * 4 + 3) 0)) := fun v => by rw [hG]; exact Iff.rfl
  have G6 : Hid (∀ v, G 6 v) := fun v => by rw [hG]; trivial
  have G7 : Hid (∀ v, G 7 v ↔ v = .int .i64 x) := fun v => by rw [hG]; exact Iff.rfl
  have G8 : Hid (∀ v, G 8 v ↔ v = .int .i64 y) := fun v => by rw [hG]; exact Iff.rfl
  have G9 : Hid (∀ v, G 9 v ↔ v = .int .i64 z) := fun v => by rw [hG]; exact Iff.rfl
  have G10 : Hid (∀ v, G 10 v ↔ v = .int .i64 (cst f ft X x y z n)) := fun v => by rw [hG]; exact Iff.rfl
  have G11 : Hid (∀ v, G 11 v ↔ v = .int .i64 (cst f ft X x y z n)) := fun v => by rw [hG]; exact Iff.rfl
  clear hG
  refine region_ops (fun w' => Below w1.heap.size w1 w') (fsF X n G ft T) (by kernel_rfl) (by kernel_rfl) (by kernel_rfl) (Below.refl _ _).drew ?_ ?_
  · refine ⟨?_, ?_, ?_, ?_, ?_, ?_, ?_, ?_, ?_, ?_, ?_, ?_, trivial⟩
    · intro u w21 au hau _ hF hp' K hK
      have t6 : au.tmps[6]?.getD undef = .pointer (some ⟨w.heap.size, 0, none⟩) := by rw [hau.out]; kernel_rfl
      have bx := BA.out.below hF BA.out.ltF
      obtain ⟨x0, -⟩ := bx 0 _ rfl
      obtain ⟨x1, -⟩ := bx 1 _ rfl
      obtain ⟨x2, -⟩ := bx 2 _ rfl
      obtain ⟨x3, -⟩ := bx 3 _ rfl
      clear bx
      refine step_plain rfl ?_
      go_simp
      exact hK.out (vVolume X X X a n cap) _ hF (fsF_val 0 (by omega) (by omega) (by omega) ((G0.out _).2 rfl)) (fun j hj _ h => fsF_up hn1 (Below.refl _ _) 0 _ j hj h)
    · intro u w21 au hau _ hF hp' K hK
      have t7 : au.tmps[7]?.getD undef = .pointer (some ⟨w.heap.size + 1, 0, none⟩) := by rw [hau.out]; kernel_rfl
      have bx := BB.out.below hF BB.out.ltF
      obtain ⟨x0, -⟩ := bx 0 _ rfl
      obtain ⟨x1, -⟩ := bx 1 _ rfl
      obtain ⟨x2, -⟩ := bx 2 _ rfl
      obtain ⟨x3, -⟩ := bx 3 _ rfl
      clear bx
      refine step_plain rfl ?_
      go_simp
      exact hK.out (vVolume X X X a' n cap') _ hF (fsF_val 1 (by omega) (by omega) (by omega) ((G1.out _).2 rfl)) (fun j hj _ h => fsF_up hn1 (Below.refl _ _) 1 _ j hj h)
    · intro u w21 au hau _ hF hp' K hK
      have c := (specTurns_any w21).mono (fun e u hu => hu.rowF)
      refine step_plain rfl ?_
      go_simp
      refine c.mono ?_
      rintro e w22 ⟨b9, c9, rfl, hB9, hr9, hb9⟩
      exact hK.out (.slice (some ⟨b9, 0, none⟩) 12 c9) _ (hF.trans (hb9.mono hF.size)) ⟨⟨G2.out _, fun e => by omega⟩, fun _ => ⟨b9, c9, upU_same _ _ _, hr9⟩, fun e => by omega⟩ (fun j hj _ h => fsF_up hn1 hb9 2 _ j hj h)
    · intro u w21 au hau _ hF hp' K hK
      have t2 : au.tmps[2]?.getD undef = .int .i64 (T : Int) := by rw [hau.out]; kernel_rfl
      refine step_plain rfl ?_
      go_simp
      exact hK.out (.int .i64 (T : Int)) _ hF (fsF_val 3 (by omega) (by omega) (by omega) ((G3.out _).2 rfl)) (fun j hj _ h => fsF_up hn1 (Below.refl _ _) 3 _ j hj h)
    · intro u w21 au hau _ hF hp' K hK
      obtain ⟨b8, c8, h2, r8⟩ := (PreF.get hp' 2 (by kernel_rfl)).2.1 rfl
      have t39 : au.tmps[39]?.getD undef = u 2 := by rw [hau.out]; kernel_rfl
      rw [h2] at t39
      have h3 : u 3 = .int .i64 (T : Int) := (G3.out _).1 (PreF.get hp' 3 (by kernel_rfl)).1.1
      have t40 : au.tmps[40]?.getD undef = u 3 := by rw [hau.out]; kernel_rfl
      rw [h3] at t40
      have R8 := hide r8
      clear r8
      refine step_plain rfl ?_
      go_simp
      exact hK.out (.pointer (some ⟨b8, T * 4, none⟩)) _ hF ⟨⟨G4.out _, fun e => by omega⟩, fun e => by omega, fun _ => ⟨b8, upU_same _ _ _, R8.out⟩⟩ (fun j hj _ h => fsF_up hn1 (Below.refl _ _) 4 _ j hj h)
    · intro u w21 au hau _ hF hp' K hK
      obtain ⟨b8, h4, r8⟩ := (PreF.get hp' 4 (by kernel_rfl)).2.2 rfl
      have t41 : au.tmps[41]?.getD undef = u 4 := by rw [hau.out]; kernel_rfl
      rw [h4] at t41
      have x0 := (r8 (T * 4) (by omega)).1
      have x1 := (r8 (T * 4 + 1) (by omega)).1
      have x2 := (r8 (T * 4 + 2) (by omega)).1
      have x3 := (r8 (T * 4 + 3) (by omega)).1
      clear r8
      refine step_plain rfl ?_
      go_simp
      exact hK.out (tv (tbA.getD (T * 4) 0) (tbA.getD (T * 4 + 1) 0) (tbA.getD (T * 4 + 2) 0) (tbA.getD (T * 4 + 3) 0)) _ hF (fsF_val 5 (by omega) (by omega) (by omega) ((G5.out _).2 rfl)) (fun j hj _ h => fsF_up hn1 (Below.refl _ _) 5 _ j hj h)
    · intro u w21 au hau _ hF hp' K hK
      have h1 : u 1 = vVolume X X X a' n cap' := (G1.out _).1 (PreF.get hp' 1 (by kernel_rfl)).1.1
      have t38 : au.tmps[38]?.getD undef = u 1 := by rw [hau.out]; kernel_rfl
      rw [h1] at t38
      have h5 : u 5 = tv (tbA.getD (T * 4) 0) (tbA.getD (T * 4 + 1) 0) (tbA.getD (T * 4 + 2) 0) (tbA.getD (T * 4 + 3) 0) := (G5.out _).1 (PreF.get hp' 5 (by kernel_rfl)).1.1
      have t42 : au.tmps[42]?.getD undef = u 5 := by rw [hau.out]; kernel_rfl
      rw [h5] at t42
      have c := cT a' cap' w21 (HQ.out.below hF)
      refine step_plain rfl ?_
      go_simp
      refine c.mono ?_
      rintro e w22 ⟨b9, c9, rfl, hr9, hb9⟩
      exact hK.out (vVolume X X X (some ⟨b9, 0, none⟩) n c9) _ (hF.trans (hb9.mono hF.size)) ⟨fzF_vol G6.out hr9, fun e => by omega, fun e => by omega⟩ (fun j hj _ h => fsF_up hn1 hb9 6 _ j hj h)
    · intro u w21 au hau _ hF hp' K hK
      have t3 : au.tmps[3]?.getD undef = .int .i64 x := by rw [hau.out]; kernel_rfl
      refine step_plain rfl ?_
      go_simp
      exact hK.out (.int .i64 x) _ hF (fsF_val 7 (by omega) (by omega) (by omega) ((G7.out _).2 rfl)) (fun j hj _ h => fsF_up hn1 (Below.refl _ _) 7 _ j hj h)
    · intro u w21 au hau _ hF hp' K hK
      have t4 : au.tmps[4]?.getD undef = .int .i64 y := by rw [hau.out]; kernel_rfl
      refine step_plain rfl ?_
      go_simp
      exact hK.out (.int .i64 y) _ hF (fsF_val 8 (by omega) (by omega) (by omega) ((G8.out _).2 rfl)) (fun j hj _ h => fsF_up hn1 (Below.refl _ _) 8 _ j hj h)
    · intro u w21 au hau _ hF hp' K hK
      have t5 : au.tmps[5]?.getD undef = .int .i64 z := by rw [hau.out]; kernel_rfl
      refine step_plain rfl ?_
      go_simp
      exact hK.out (.int .i64 z) _ hF (fsF_val 9 (by omega) (by omega) (by omega) ((G9.out _).2 rfl)) (fun j hj _ h => fsF_up hn1 (Below.refl _ _) 9 _ j hj h)
    · intro u w21 au hau _ hF hp' K hK
      have h0 : u 0 = vVolume X X X a n cap := (G0.out _).1 (PreF.get hp' 0 (by kernel_rfl)).1.1
      have t37 : au.tmps[37]?.getD undef = u 0 := by rw [hau.out]; kernel_rfl
      rw [h0] at t37
      have h7 : u 7 = .int .i64 x := (G7.out _).1 (PreF.get hp' 7 (by kernel_rfl)).1.1
      have t44 : au.tmps[44]?.getD undef = u 7 := by rw [hau.out]; kernel_rfl
      rw [h7] at t44
      have h8 : u 8 = .int .i64 y := (G8.out _).1 (PreF.get hp' 8 (by kernel_rfl)).1.1
      have t45 : au.tmps[45]?.getD undef = u 8 := by rw [hau.out]; kernel_rfl
      rw [h8] at t45
      have h9 : u 9 = .int .i64 z := (G9.out _).1 (PreF.get hp' 9 (by kernel_rfl)).1.1
      have t46 : au.tmps[46]?.getD undef = u 9 := by rw [hau.out]; kernel_rfl
      rw [h9] at t46
      obtain ⟨b8, c8, h6, r8⟩ := (PreF.get hp' 6 (by kernel_rfl)).1.2 rfl
      have t43 : au.tmps[43]?.getD undef = u 6 := by rw [hau.out]; kernel_rfl
      rw [h6] at t43
      have c := cC (some ⟨b8, 0, none⟩) c8 w21 (HP.out.below hF) r8.px
      refine step_plain rfl ?_
      go_simp
      refine c.mono ?_
      rintro e w22 ⟨rfl, hb9⟩
      exact hK.out (.int .i64 (cst f ft X x y z n)) _ (hF.trans (hb9.mono hF.size)) (fsF_val 10 (by omega) (by omega) (by omega) ((G10.out _).2 rfl)) (fun j hj _ h => fsF_up hn1 hb9 10 _ j hj h)
    · intro u w21 au hau _ hF hp' K hK
      have h10 : u 10 = .int .i64 (cst f ft X x y z n) := (G10.out _).1 (PreF.get hp' 10 (by kernel_rfl)).1.1
      have t47 : au.tmps[47]?.getD undef = u 10 := by rw [hau.out]; kernel_rfl
      rw [h10] at t47
      refine step_plain rfl ?_
      go_simp
      exact hK.out (.int .i64 (cst f ft X x y z n)) _ hF (fsF_val 11 (by omega) (by omega) (by omega) ((G11.out _).2 rfl)) (fun j hj _ h => fsF_up hn1 (Below.refl _ _) 11 _ j hj h)
  · intro u w30 hF hall
    have h8 : u 11 = .int .i64 (cst f ft X x y z n) := (G11.out _).1 (hall 11 (by decide)).1.1
    have HEE := hide (HE.out.trans (hF.mono HE.out.size))
    clear hF hall
    simp only [rgPut, Act.put, h8]
    go_simp
    go_wp2_with fail
    go_ret
    exact ⟨by rw [HVV.out]; rfl, HEE.out⟩

end Go.Proofs.YtncaekmjpfjneaaDoor
