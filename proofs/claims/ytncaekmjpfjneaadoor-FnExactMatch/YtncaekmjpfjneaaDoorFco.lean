/- Cubes that are alike: both sides; cubes that are turned, in plain form. -/
import Derived.Test.YtncaekmjpfjneaaDoorFct
import Derived.Test.YtncaekmjpfjneaaDoorTsi
namespace Go.Proofs.YtncaekmjpfjneaaDoor
open Go.RowKit

set_option maxRecDepth 100000 in
set_option maxHeartbeats 2000000 in
theorem l10FitOk_any (X Y Z : Int) (a : Option Addr) (n cap : Nat) (f : Nat → Int) (hl : n ≤ 1048576) (X' Y' Z' : Int) (a' : Option Addr) (n' cap' : Nat) (f' : Nat → Int) (hl' : n' ≤ 1048576) (w : World) (h : Px a n f w) (h' : Px a' n' f' w) :
    Calls Tryd.prog 14 #[vVolume X Y Z a n cap, vVolume X' Y' Z' a' n' cap'] w fun e w' => e = .returned (.bool (likB X Y Z n f X' Y' Z' n' f')) ∧ Below w.heap.size w w' := by
  have HS0 := hide (((St.start w).box [.int .i64 X, .int .i64 Y, .int .i64 Z, .slice a n cap] 27).box' [.int .i64 X', .int .i64 Y', .int .i64 Z', .slice a' n' cap'] 27 (b := w.heap.size + 1) (by simp))
  have HP := hide h
  have HP' := hide h'
  clear h h'
  have c1 := fun w' hw => l10Cube_any X Y Z a n cap f hl w' hw
  have c2 := fun w' hw => l10Cube_any X' Y' Z' a' n' cap' f' hl' w' hw
  unfold likB
  generalize cubB X Y Z n f = p at *
  generalize cubB X' Y' Z' n' f' = q at *
  obtain ⟨i0, i1, i2, i3⟩ := HS0.out.im4 1 rfl
  go_enter Tryd.func14, Tryd.ntmps14
  go_wp2_with fail
  refine (c1 _ (HP.out.below HS0.out.below)).mono ?_
  rintro e w1 ⟨rfl, hb⟩
  have HS1 := hide (HS0.out.next hb)
  clear hb HS0 c1 i0 i1 i2 i3
  obtain ⟨i0, i1, i2, i3⟩ := HS1.out.im4 1 rfl
  obtain ⟨j0, j1, j2, j3⟩ := HS1.out.im4 0 rfl
  cases p
  · have HE := hide HS1.out.below
    go_wp2_with fail
    go_ret
    exact ⟨rfl, HE.out⟩
  go_wp2_with fail
  refine (c2 _ (HP'.out.below HS1.out.below)).mono ?_
  rintro e w2 ⟨rfl, hb⟩
  have HS2 := hide (HS1.out.next hb)
  clear hb HS1 c2 i0 i1 i2 i3 j0 j1 j2 j3
  obtain ⟨i0, i1, i2, i3⟩ := HS2.out.im4 1 rfl
  obtain ⟨j0, j1, j2, j3⟩ := HS2.out.im4 0 rfl
  have HE := hide HS2.out.below
  cases q
  · go_wp2_with fail
    go_ret
    exact ⟨rfl, HE.out⟩
  by_cases hx : X = X'
  · have qx : (X == X') = true := by simp [hx]
    have dx : Hid (decide (X = X') = true) := decide_eq_true hx
    clear hx
    by_cases h6 : X ≤ 6
    · have d6 : Hid (decide (X ≤ 6) = true) := decide_eq_true h6
      go_wp2_with fail
      go_ret
      exact ⟨by rw [dx.out, d6.out]; rfl, HE.out⟩
    · have d6 : Hid (decide (X ≤ 6) = false) := decide_eq_false h6
      go_wp2_with fail
      go_ret
      exact ⟨by rw [dx.out, d6.out]; rfl, HE.out⟩
  · have qx : (X == X') = false := by simp [hx]
    have dx : Hid (decide (X = X') = false) := decide_eq_false hx
    clear hx
    go_wp2_with fail
    go_ret
    exact ⟨by rw [dx.out]; rfl, HE.out⟩

set_option maxRecDepth 100000 in
set_option maxHeartbeats 2000000 in
theorem areLikeCubes_any (X Y Z : Int) (a : Option Addr) (n cap : Nat) (f : Nat → Int) (hl : n ≤ 1048576) (X' Y' Z' : Int) (a' : Option Addr) (n' cap' : Nat) (f' : Nat → Int) (hl' : n' ≤ 1048576) (w : World) (h : Px a n f w) (h' : Px a' n' f' w) :
    Calls Tryd.prog 20 #[vVolume X Y Z a n cap, vVolume X' Y' Z' a' n' cap'] w fun e w' => e = .returned (.bool (likB X Y Z n f X' Y' Z' n' f')) ∧ Below w.heap.size w w' := by
  have HS0 := hide (((St.start w).box [.int .i64 X, .int .i64 Y, .int .i64 Z, .slice a n cap] 27).box' [.int .i64 X', .int .i64 Y', .int .i64 Z', .slice a' n' cap'] 27 (b := w.heap.size + 1) (by simp))
  have HP := hide h
  have HP' := hide h'
  clear h h'
  have c1 := fun w' hw => isCube_any X Y Z a n cap f hl w' hw
  have c2 := fun w' hw => isCube_any X' Y' Z' a' n' cap' f' hl' w' hw
  unfold likB
  generalize cubB X Y Z n f = p at *
  generalize cubB X' Y' Z' n' f' = q at *
  obtain ⟨i0, i1, i2, i3⟩ := HS0.out.im4 1 rfl
  go_enter Tryd.func20, Tryd.ntmps20
  go_wp2_with fail
  refine (c1 _ (HP.out.below HS0.out.below)).mono ?_
  rintro e w1 ⟨rfl, hb⟩
  have HS1 := hide (HS0.out.next hb)
  clear hb HS0 c1 i0 i1 i2 i3
  obtain ⟨i0, i1, i2, i3⟩ := HS1.out.im4 1 rfl
  obtain ⟨j0, j1, j2, j3⟩ := HS1.out.im4 0 rfl
  cases p
  · have HE := hide HS1.out.below
    go_wp2_with fail
    go_ret
    exact ⟨rfl, HE.out⟩
  go_wp2_with fail
  refine (c2 _ (HP'.out.below HS1.out.below)).mono ?_
  rintro e w2 ⟨rfl, hb⟩
  have HS2 := hide (HS1.out.next hb)
  clear hb HS1 c2 i0 i1 i2 i3 j0 j1 j2 j3
  obtain ⟨i0, i1, i2, i3⟩ := HS2.out.im4 1 rfl
  obtain ⟨j0, j1, j2, j3⟩ := HS2.out.im4 0 rfl
  have HE := hide HS2.out.below
  cases q
  · go_wp2_with fail
    go_ret
    exact ⟨rfl, HE.out⟩
  by_cases hx : X = X'
  · have qx : (X == X') = true := by simp [hx]
    have dx : Hid (decide (X = X') = true) := decide_eq_true hx
    clear hx
    by_cases h6 : X ≤ 6
    · have d6 : Hid (decide (X ≤ 6) = true) := decide_eq_true h6
      go_wp2_with fail
      go_ret
      exact ⟨by rw [dx.out, d6.out]; rfl, HE.out⟩
    · have d6 : Hid (decide (X ≤ 6) = false) := decide_eq_false h6
      go_wp2_with fail
      go_ret
      exact ⟨by rw [dx.out, d6.out]; rfl, HE.out⟩
  · have qx : (X == X') = false := by simp [hx]
    have dx : Hid (decide (X = X') = false) := decide_eq_false hx
    clear hx
    go_wp2_with fail
    go_ret
    exact ⟨by rw [dx.out]; rfl, HE.out⟩

theorem cub_posF {X Y Z : Int} {n : Nat} {f : Nat → Int} (h : cubB X Y Z n f = true) : 1 ≤ n := by
  obtain ⟨-, -, hX, hn, -⟩ := cubB_parts h
  have : 1 * 1 * 1 ≤ X * X * X := Int.mul_le_mul (Int.mul_le_mul hX.1 hX.1 (by omega) (by omega)) hX.1 (by omega) (Int.mul_nonneg (by omega) (by omega))
  omega
theorem turnI_any (X : Int) (n : Nat) (f : Nat → Int) (h : cubB X X X n f = true) (t0 t1 t2 t3 : Int) (ht : tkT (t0, t1, t2, t3) = true) (a : Option Addr) (cp : Nat) (w : World) (hr : Px a n f w) :
    Calls Tryd.prog 24 #[vVolume X X X a n cp, tv t0 t1 t2 t3] w fun e w' => ∃ b' cp', e = .returned (vVolume X X X (some ⟨b', 0, none⟩) n cp') ∧ Row b' n (tvs (tgT (t0, t1, t2, t3) X) f n) w' ∧ Below w.heap.size w w' := by
  obtain ⟨-, -, hX, hn, hn2⟩ := cubB_parts h
  have h1 := cub_posF h
  have hB : tvB X X X n f t0 t1 t2 t3 = true := by
    unfold tvB
    rw [h]
    exact ht
  have hN : tvN X X X n f t0 t1 t2 t3 = n := by unfold tvN; rw [if_pos hB]
  have hX' : tvX X X X n f t0 t1 t2 t3 = X := by unfold tvX; rw [if_pos hB]
  refine (implTurnVolume_any X X X a n cp f (by omega) t0 t1 t2 t3 w hr).mono ?_
  rw [hN, hX']
  rintro e w' ⟨a', cp', b', rfl, ho, hB', hb⟩
  rcases ho with ho | ⟨rfl, hr'⟩
  · omega
  · exact ⟨b', cp', rfl, hr', hb⟩
theorem turnS_any (X : Int) (n : Nat) (f : Nat → Int) (h : cubB X X X n f = true) (t0 t1 t2 t3 : Int) (i0 : I64 t0) (i1 : I64 t1) (i2 : I64 t2) (i3 : I64 t3) (ht : tkT (t0, t1, t2, t3) = true) (a : Option Addr) (cp : Nat) (w : World) (hr : Px a n f w) :
    Calls Tryd.prog 17 #[vVolume X X X a n cp, tv t0 t1 t2 t3] w fun e w' => ∃ b' cp', e = .returned (vVolume X X X (some ⟨b', 0, none⟩) n cp') ∧ Row b' n (tvs (tgT (t0, t1, t2, t3) X) f n) w' ∧ Below w.heap.size w w' := by
  obtain ⟨-, -, hX, hn, hn2⟩ := cubB_parts h
  have h1 := cub_posF h
  have hB : tvB X X X n f t0 t1 t2 t3 = true := by
    unfold tvB
    rw [h]
    exact ht
  have hN : tvN X X X n f t0 t1 t2 t3 = n := by unfold tvN; rw [if_pos hB]
  have hX' : tvX X X X n f t0 t1 t2 t3 = X := by unfold tvX; rw [if_pos hB]
  refine (specTurnVolume_any X X X a n cp f (by omega) t0 t1 t2 t3 i0 i1 i2 i3 w hr).mono ?_
  rw [hN, hX']
  rintro e w' ⟨a', cp', b', rfl, ho, hB', hb⟩
  rcases ho with ho | ⟨rfl, hr'⟩
  · omega
  · exact ⟨b', cp', rfl, hr', hb⟩
/-- what each operation leaves: values, and at one place a volume -/
def fzF (X : Int) (n : Nat) (G : Nat → Value → Prop) (jv : Nat) (f : Nat → Int) (j : Nat) (u : Nat → Value) (w : World) : Prop :=
  G j (u j) ∧ (j = jv → ∃ b cp, u jv = vVolume X X X (some ⟨b, 0, none⟩) n cp ∧ Row b n f w)
theorem Row.ltF {b n : Nat} {f : Nat → Int} {w : World} (h : Row b n f w) (hn : 1 ≤ n) : b < w.heap.size := World.block_lt_of_cell? w ⟨b, 0, none⟩ (h 0 (by omega)).1
theorem fzF_up {X : Int} {n : Nat} {G : Nat → Value → Prop} {jv : Nat} {f : Nat → Int} {u : Nat → Value} {w w' : World} (hn : 1 ≤ n) (hb : Below w.heap.size w w') (i : Nat) (v : Value) (j : Nat) (hj : j ≠ i) (h : fzF X n G jv f j u w) : fzF X n G jv f j (upU u i v) w' := by
  obtain ⟨h1, h2⟩ := h
  refine ⟨by rw [upU_other u v hj]; exact h1, fun e => ?_⟩
  obtain ⟨b, cp, e', hr⟩ := h2 e
  exact ⟨b, cp, by rw [upU_other u v (by omega)]; exact e', hr.below hb (hr.ltF hn)⟩
theorem fzF_val {X : Int} {n : Nat} {G : Nat → Value → Prop} {jv : Nat} {f : Nat → Int} {u : Nat → Value} {w : World} (j : Nat) (hf : j ≠ jv) {v : Value} (h : G j v) : fzF X n G jv f j (upU u j v) w :=
  ⟨by rw [upU_same]; exact h, fun e => absurd e hf⟩
theorem fzF_vol {X : Int} {n : Nat} {G : Nat → Value → Prop} {jv : Nat} {f : Nat → Int} {u : Nat → Value} {w : World} (hG : ∀ v, G jv v) {b cp : Nat} (hr : Row b n f w) : fzF X n G jv f jv (upU u jv (vVolume X X X (some ⟨b, 0, none⟩) n cp)) w :=
  ⟨hG _, fun _ => ⟨b, cp, upU_same _ _ _, hr⟩⟩
theorem Bx.ltF {b : Nat} {v : Value} {vs : List Value} {w : World} (h : Bx b (v :: vs) w) : b < w.heap.size := World.block_lt_of_cell? w ⟨b, 0, none⟩ (h 0 v rfl).1

end Go.Proofs.YtncaekmjpfjneaaDoor
