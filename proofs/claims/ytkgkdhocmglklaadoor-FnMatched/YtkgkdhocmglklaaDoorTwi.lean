/- Cubes, places in volumes: the program, and the specification's cubes. -/
import Derived.Test.YtkgkdhocmglklaaDoorTvn
import Derived.Test.YtkgkdhocmglklaaDoorTrm
import Derived.BigRegion
namespace Go.Proofs.YtkgkdhocmglklaaDoor
open Go.RowKit

abbrev v3v (a b c : Int) : Value := .agg #[.int .i64 a, .int .i64 b, .int .i64 c]

set_option maxRecDepth 100000 in
set_option maxHeartbeats 2000000 in
theorem isCube_any (X Y Z : Int) (a : Option Addr) (n cap : Nat) (f : Nat → Int) (hl : n ≤ 1048576) (w : World) (h : Px a n f w) :
    Calls Tryd.prog 23 #[vVolume X Y Z a n cap] w fun e w' => e = .returned (.bool (cubB X Y Z n f)) ∧ Below w.heap.size w w' := by
  have HS0 := hide ((St.start w).box [.int .i64 X, .int .i64 Y, .int .i64 Z, .slice a n cap] 26)
  have c1 := implVolumeOk_any X Y Z a n cap f hl _ (h.below HS0.out.below)
  unfold cubB
  clear h
  cases hq : volB X Y Z n f
  · rw [hq] at c1
    clear hq
    go_enter Tryd.func23, Tryd.ntmps23
    go_wp2_with fail
    refine c1.mono ?_
    rintro e w1 ⟨rfl, hb⟩
    have HS1 := hide (HS0.out.next hb)
    clear hb HS0 c1
    go_wp2_with fail
    go_ret
    exact ⟨rfl, HS1.out.below⟩
  rw [hq] at c1
  clear hq
  by_cases hxy : X = Y
  case neg =>
    have q : (X == Y) = false := by simp [hxy]
    have HF : Hid ((true && (decide (X = Y) && decide (X = Z))) = false) := by show _ = _; simp [hxy]
    go_enter Tryd.func23, Tryd.ntmps23
    go_wp2_with fail
    refine c1.mono ?_
    rintro e w1 ⟨rfl, hb⟩
    have HS1 := hide (HS0.out.next hb)
    obtain ⟨i0, i1, i2, i3⟩ := HS1.out.im4 0 rfl
    clear hb HS0 c1
    go_wp2_with fail
    go_ret
    exact ⟨by rw [HF.out]; rfl, HS1.out.below⟩
  subst hxy
  by_cases hxz : X = Z
  case neg =>
    have q : (X == Z) = false := by simp [hxz]
    have HF : Hid ((true && (decide (X = X) && decide (X = Z))) = false) := by show _ = _; simp [hxz]
    go_enter Tryd.func23, Tryd.ntmps23
    go_wp2_with fail
    refine c1.mono ?_
    rintro e w1 ⟨rfl, hb⟩
    have HS1 := hide (HS0.out.next hb)
    obtain ⟨i0, i1, i2, i3⟩ := HS1.out.im4 0 rfl
    clear hb HS0 c1
    go_wp2_with fail
    go_ret
    exact ⟨by rw [HF.out]; rfl, HS1.out.below⟩
  subst hxz
  have HF : Hid ((true && (decide (X = X) && decide (X = X))) = true) := by show _ = _; simp
  go_enter Tryd.func23, Tryd.ntmps23
  go_wp2_with fail
  refine c1.mono ?_
  rintro e w1 ⟨rfl, hb⟩
  have HS1 := hide (HS0.out.next hb)
  obtain ⟨i0, i1, i2, i3⟩ := HS1.out.im4 0 rfl
  clear hb HS0 c1
  go_wp2_with fail
  go_ret
  exact ⟨by rw [HF.out]; rfl, HS1.out.below⟩

set_option maxRecDepth 100000 in
set_option maxHeartbeats 2000000 in
theorem l10Cube_any (X Y Z : Int) (a : Option Addr) (n cap : Nat) (f : Nat → Int) (hl : n ≤ 1048576) (w : World) (h : Px a n f w) :
    Calls Tryd.prog 20 #[vVolume X Y Z a n cap] w fun e w' => e = .returned (.bool (cubB X Y Z n f)) ∧ Below w.heap.size w w' := by
  have HS0 := hide ((St.start w).box [.int .i64 X, .int .i64 Y, .int .i64 Z, .slice a n cap] 26)
  have c1 := specVolumeOk_any X Y Z a n cap f hl _ (h.below HS0.out.below)
  unfold cubB
  clear h
  cases hq : volB X Y Z n f
  · rw [hq] at c1
    clear hq
    go_enter Tryd.func20, Tryd.ntmps20
    go_wp2_with fail
    refine c1.mono ?_
    rintro e w1 ⟨rfl, hb⟩
    have HS1 := hide (HS0.out.next hb)
    clear hb HS0 c1
    go_wp2_with fail
    go_ret
    exact ⟨rfl, HS1.out.below⟩
  rw [hq] at c1
  clear hq
  by_cases hxy : X = Y
  case neg =>
    have q : (X == Y) = false := by simp [hxy]
    have HF : Hid ((true && (decide (X = Y) && decide (X = Z))) = false) := by show _ = _; simp [hxy]
    go_enter Tryd.func20, Tryd.ntmps20
    go_wp2_with fail
    refine c1.mono ?_
    rintro e w1 ⟨rfl, hb⟩
    have HS1 := hide (HS0.out.next hb)
    obtain ⟨i0, i1, i2, i3⟩ := HS1.out.im4 0 rfl
    clear hb HS0 c1
    go_wp2_with fail
    go_ret
    exact ⟨by rw [HF.out]; rfl, HS1.out.below⟩
  subst hxy
  by_cases hxz : X = Z
  case neg =>
    have q : (X == Z) = false := by simp [hxz]
    have HF : Hid ((true && (decide (X = X) && decide (X = Z))) = false) := by show _ = _; simp [hxz]
    go_enter Tryd.func20, Tryd.ntmps20
    go_wp2_with fail
    refine c1.mono ?_
    rintro e w1 ⟨rfl, hb⟩
    have HS1 := hide (HS0.out.next hb)
    obtain ⟨i0, i1, i2, i3⟩ := HS1.out.im4 0 rfl
    clear hb HS0 c1
    go_wp2_with fail
    go_ret
    exact ⟨by rw [HF.out]; rfl, HS1.out.below⟩
  subst hxz
  have HF : Hid ((true && (decide (X = X) && decide (X = X))) = true) := by show _ = _; simp
  go_enter Tryd.func20, Tryd.ntmps20
  go_wp2_with fail
  refine c1.mono ?_
  rintro e w1 ⟨rfl, hb⟩
  have HS1 := hide (HS0.out.next hb)
  obtain ⟨i0, i1, i2, i3⟩ := HS1.out.im4 0 rfl
  clear hb HS0 c1
  go_wp2_with fail
  go_ret
  exact ⟨by rw [HF.out]; rfl, HS1.out.below⟩

set_option maxRecDepth 100000 in
set_option maxHeartbeats 4000000 in
theorem whereIn_any (X Y Z : Int) (a : Option Addr) (n cap : Nat) (hX : 1 ≤ X ∧ X ≤ 32) (hY : 1 ≤ Y ∧ Y ≤ 32) (k : Nat) (hk : k ≤ 32768) (w : World) :
    Calls Tryd.prog 26 #[vVolume X Y Z a n cap, .int .i64 (k : Int)] w fun e w' => e = .returned (v3v ((k : Int) % X) ((k : Int) / X % Y) ((k : Int) / X / Y)) ∧ Below w.heap.size w w' := by
  have e1 : (k : Int).tmod X = (k : Int) % X := Int.tmod_eq_emod_of_nonneg (by omega)
  have e2 : (k : Int).tdiv X = (k : Int) / X := Int.tdiv_eq_ediv_of_nonneg (by omega)
  have c0 : 0 ≤ (k : Int) / X := Int.ediv_nonneg (by omega) (by omega)
  have c1 : (k : Int) / X ≤ (k : Int) := Int.ediv_le_self X (by omega)
  have a0 := Int.emod_nonneg (k : Int) (show X ≠ 0 by omega)
  have a1 := Int.emod_lt_of_pos (k : Int) (show 0 < X by omega)
  generalize (k : Int) / X = q at *
  generalize (k : Int) % X = r at *
  have e3 : q.tmod Y = q % Y := Int.tmod_eq_emod_of_nonneg c0
  have e4 : q.tdiv Y = q / Y := Int.tdiv_eq_ediv_of_nonneg c0
  have d0 : 0 ≤ q / Y := Int.ediv_nonneg c0 (by omega)
  have d1 : q / Y ≤ q := Int.ediv_le_self Y c0
  have b0 := Int.emod_nonneg q (show Y ≠ 0 by omega)
  have b1 := Int.emod_lt_of_pos q (show 0 < Y by omega)
  generalize q / Y = t at *
  generalize q % Y = s at *
  have hX0 : X ≠ 0 := by omega
  have hY0 : Y ≠ 0 := by omega
  have u1 : IntKind.i64.wrap q = q := by rw [IntKind.wrap_i64]; omega
  have u2 : IntKind.i64.wrap t = t := by rw [IntKind.wrap_i64]; omega
  have u3 : IntKind.i64.wrap r = r := by rw [IntKind.wrap_i64]; omega
  have u4 : IntKind.i64.wrap s = s := by rw [IntKind.wrap_i64]; omega
  clear hX hY hk c0 c1 a0 a1 d0 d1 b0 b1
  have HS0 := hide (((St.start w).box [.int .i64 X, .int .i64 Y, .int .i64 Z, .slice a n cap] 26).box' [.int .i64 0, .int .i64 0, .int .i64 0] 57 (b := w.heap.size + 1) (by simp))
  generalize hA : (w.alloc (.cells [.int .i64 X, .int .i64 Y, .int .i64 Z, .slice a n cap].toArray 26)).alloc (.cells [.int .i64 0, .int .i64 0, .int .i64 0].toArray 57) = wA at HS0
  have hA' : (w.alloc (.cells #[.int .i64 X, .int .i64 Y, .int .i64 Z, .slice a n cap] 26)).alloc (.cells #[.int .i64 0, .int .i64 0, .int .i64 0] 57) = wA := hA
  clear hA
  obtain ⟨i0, i1, i2, i3⟩ := HS0.out.im4 1 rfl
  obtain ⟨j0, j1, j2⟩ := HS0.out.im3 0 rfl
  obtain ⟨f0, f1, f2⟩ := HS0.out.fr3 0 rfl
  have HE := hide (HS0.out.fill3 (.int .i64 r) (.int .i64 s) (.int .i64 t))
  clear HS0
  go_enter Tryd.func26, Tryd.ntmps26
  go_upto_region 1 with fail
  go_region
  all_goals
    go_wp2_with fail
    exact bodyPost_ret (v := v3v r s t) (by simp [results, Tryd.results26, go_sem, j0, j1, j2]) rfl ⟨rfl, by first | exact HE.out.below | exact HE.out.drew.below⟩

set_option maxRecDepth 100000 in
set_option maxHeartbeats 4000000 in
theorem numberIn_any (X Y Z : Int) (a : Option Addr) (n cap : Nat) (x y z p q : Int) (e1 : IntKind.i64.wrap (z * Y) = p) (e2 : IntKind.i64.wrap (IntKind.i64.wrap (p + y) * X) = q) (e3 : IntKind.i64.wrap (p + y) = p + y) (v : Int) (e4 : IntKind.i64.wrap (q + x) = v) (w : World) :
    Calls Tryd.prog 30 #[vVolume X Y Z a n cap, v3v x y z] w fun e w' => e = .returned (.int .i64 v) ∧ Below w.heap.size w w' := by
  rw [e3] at e2
  have HB := hide (bnext (bnew w (.cells #[.int .i64 X, .int .i64 Y, .int .i64 Z, .slice a n cap] 26)) (Nat.le_refl _) (bnew _ (.cells #[.int .i64 x, .int .i64 y, .int .i64 z] 57)))
  go_enter Tryd.func30, Tryd.ntmps30
  go_wp2_with fail
  go_ret
  exact ⟨rfl, HB.out⟩

end Go.Proofs.YtkgkdhocmglklaaDoor
