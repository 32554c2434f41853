/- The voxel that is nearest to a place: both sides. -/
import Derived.Test.YtpbeogepgjbacaaHom
import Derived.Test.YtpbeogepgjbacaaRVol
import Derived.Test.YtpbeogepgjbacaaNmi
import Derived.Test.YtpbeogepgjbacaaDwn
import Derived.Test.YtpbeogepgjbacaaQup
import Derived.BigRegion
namespace Go.Proofs.Ytpbeogepgjbacaa
open Go.RowKit

abbrev v3v (a b c : Int) : Value := .agg #[.int .i64 a, .int .i64 b, .int .i64 c]
/-- rounded to the nearest -/
def nrS (s p : Int) : Int := (2 * s + p) / (2 * p)
theorem nrS_eq (x : Int) {y : Nat} (hy : 1 ≤ y) : nrS x y = if (y : Int) - x % y ≤ x % y then x / y + 1 else x / y := by
  have h1 := Int.emod_nonneg x (show (y : Int) ≠ 0 by omega)
  have h2 := Int.emod_lt_of_pos x (show (0 : Int) < (y : Int) by omega)
  have h3 := Int.emod_add_mul_ediv x (y : Int)
  unfold nrS
  generalize x % (y : Int) = L at *
  generalize x / (y : Int) = q at *
  have e : (2 * (y : Int)) * q = 2 * ((y : Int) * q) := by rw [Int.mul_assoc]
  by_cases hc : (y : Int) - L ≤ L
  · rw [if_pos hc]
    have e2 : (2 * (y : Int)) * (q + 1) = 2 * ((y : Int) * q) + 2 * y := by rw [Int.mul_add, e, Int.mul_one]
    rw [show 2 * x + (y : Int) = (2 * L - y) + (2 * (y : Int)) * (q + 1) by omega, Int.add_mul_ediv_left _ _ (by omega), Int.ediv_eq_zero_of_lt (by omega) (by omega)]
    omega
  · rw [if_neg hc]
    rw [show 2 * x + (y : Int) = (2 * L + y) + (2 * (y : Int)) * q by omega, Int.add_mul_ediv_left _ _ (by omega), Int.ediv_eq_zero_of_lt (by omega) (by omega)]
    omega
/-- is the place inside -/
def inV (X Y Z x y z : Int) : Bool := decide (0 ≤ x) && decide (x ≤ X - 1) && (decide (0 ≤ y) && decide (y ≤ Y - 1)) && (decide (0 ≤ z) && decide (z ≤ Z - 1))
/-- the voxel at a place, 0 outside -/
def vxV (t : Nat → Int) (X Y Z x y z : Int) : Int := if inV X Y Z x y z = true then t ((z * Y + y) * X + x).toNat else 0
theorem inV_iff {X Y Z x y z : Int} : inV X Y Z x y z = true ↔ (0 ≤ x ∧ x ≤ X - 1) ∧ (0 ≤ y ∧ y ≤ Y - 1) ∧ (0 ≤ z ∧ z ≤ Z - 1) := by
  unfold inV
  simp only [Bool.and_eq_true, decide_eq_true_eq]
  omega
/-- where a place lies in the list -/
theorem num_in {X Y Z x y z : Int} (hX : 1 ≤ X ∧ X ≤ 32) (hY : 1 ≤ Y ∧ Y ≤ 32) (hZ : 1 ≤ Z ∧ Z ≤ 32) (h : inV X Y Z x y z = true) {n : Nat} (hn : (n : Int) = X * Y * Z) :
    0 ≤ z * Y ∧ z * Y ≤ 1024 ∧ 0 ≤ (z * Y + y) * X ∧ (z * Y + y) * X ≤ 40000 ∧ 0 ≤ (z * Y + y) * X + x ∧ (z * Y + y) * X + x < n := by
  obtain ⟨hx, hy, hz⟩ := inV_iff.1 h
  have q0 : 0 ≤ z * Y := Int.mul_nonneg (by omega) (by omega)
  have q1 : z * Y ≤ (Z - 1) * Y := Int.mul_le_mul_of_nonneg_right (by omega) (by omega)
  have q2 : (Z - 1) * Y ≤ 31 * 32 := Int.mul_le_mul (by omega) (by omega) (by omega) (by omega)
  have r0 : 0 ≤ (z * Y + y) * X := Int.mul_nonneg (by omega) (by omega)
  have e1 : (Z - 1) * Y = Z * Y - Y := by rw [Int.sub_mul, Int.one_mul]
  have r1 : (z * Y + y) * X ≤ (Z * Y - 1) * X := Int.mul_le_mul_of_nonneg_right (by omega) (by omega)
  have e2 : (Z * Y - 1) * X = X * Y * Z - X := by rw [Int.sub_mul, Int.one_mul, Int.mul_comm (Z * Y) X, Int.mul_comm Z Y, Int.mul_assoc]
  have q3 : (z * Y + y) * X ≤ 1023 * 32 := Int.mul_le_mul (by omega) (by omega) (by omega) (by omega)
  omega

set_option maxRecDepth 100000 in
set_option maxHeartbeats 4000000 in
theorem numberIn_any (X Y Z : Int) (a : Option Addr) (n cap : Nat) (x y z p q : Int) (e1 : IntKind.i64.wrap (z * Y) = p) (e2 : IntKind.i64.wrap (IntKind.i64.wrap (p + y) * X) = q) (e3 : IntKind.i64.wrap (p + y) = p + y) (v : Int) (e4 : IntKind.i64.wrap (q + x) = v) (w : World) :
    Calls Try.prog 56 #[vVolume X Y Z a n cap, v3v x y z] w fun e w' => e = .returned (.int .i64 v) ∧ Below w.heap.size w w' := by
  rw [e3] at e2
  have HB := hide (bnext (bnew w (.cells #[.int .i64 X, .int .i64 Y, .int .i64 Z, .slice a n cap] 29)) (Nat.le_refl _) (bnew _ (.cells #[.int .i64 x, .int .i64 y, .int .i64 z] 58)))
  go_enter Try.func56, Try.ntmps56
  go_wp2_with fail
  go_ret
  exact ⟨rfl, HB.out⟩

set_option maxRecDepth 100000 in
set_option maxHeartbeats 2000000 in
theorem nearest_any (x : Int) (y : Nat) (hy : 1 ≤ y) (hy2 : y ≤ 1000000) (hx : -1000000000 ≤ x ∧ x ≤ 1000000000) (w : World) :
    Calls Try.prog 47 #[.int .i64 x, .int .i64 y] w fun e w' => e = .returned (.int .i64 (nrS x y)) ∧ w' = w := by
  have cM := n_modulo_any x y hy (by omega)
  have h1 := Int.emod_nonneg x (show (y : Int) ≠ 0 by omega)
  have h2 := Int.emod_lt_of_pos x (show (0 : Int) < (y : Int) by omega)
  have h3 := Int.emod_add_mul_ediv x (y : Int)
  have hN := nrS_eq x hy
  have hy0 : ((y : Int) == 0) = false := by simp; omega
  obtain ⟨q, hq⟩ : ∃ q, q = x / (y : Int) := ⟨_, rfl⟩
  obtain ⟨L, hL⟩ : ∃ L, L = x % (y : Int) := ⟨_, rfl⟩
  have hqb : -1000000001 ≤ q ∧ q ≤ 1000000001 := by
    rw [hq]
    refine ⟨?_, ?_⟩
    · rw [Int.le_ediv_iff_mul_le (by omega)]
      have : (1000000001 : Int) * 1 ≤ 1000000001 * (y : Int) := Int.mul_le_mul_of_nonneg_left (by omega) (by omega)
      omega
    · have h5 : x / (y : Int) < 1000000002 := by
        rw [Int.ediv_lt_iff_lt_mul (by omega)]
        have : (1000000002 : Int) * 1 ≤ 1000000002 * (y : Int) := Int.mul_le_mul_of_nonneg_left (by omega) (by omega)
        omega
      omega
  rw [← hq, ← hL] at hN
  rw [← hL] at cM h1 h2 h3
  rw [← hq] at h3
  have hd : (x - L).tdiv (y : Int) = q := by
    rw [show x - L = (y : Int) * q by omega]
    exact Int.mul_tdiv_cancel_left _ (by omega)
  generalize nrS x y = V at *
  have w1 : IntKind.i64.wrap (x - L) = x - L := by rw [IntKind.wrap_i64]; omega
  have w2 : IntKind.i64.wrap q = q := by rw [IntKind.wrap_i64]; omega
  have w3 : IntKind.i64.wrap ((y : Int) - L) = (y : Int) - L := by rw [IntKind.wrap_i64]; omega
  by_cases hc : (y : Int) - L ≤ L
  · rw [if_pos hc] at hN
    have w4 : IntKind.i64.wrap (q + 1) = V := by rw [IntKind.wrap_i64]; omega
    clear hq hL h1 h2 h3 hqb hx hN
    go_enter Try.func47, Try.ntmps47
    go_wp2_with fail
    refine (cM _).mono ?_
    rintro e w' ⟨rfl, rfl⟩
    go_wp2_with fail
    go_ret
    exact ⟨rfl, rfl⟩
  · rw [if_neg hc] at hN
    subst hN
    clear hq hL h1 h2 h3 hqb hx
    go_enter Try.func47, Try.ntmps47
    go_wp2_with fail
    refine (cM _).mono ?_
    rintro e w' ⟨rfl, rfl⟩
    go_wp2_with fail
    go_ret
    exact ⟨rfl, rfl⟩

set_option maxRecDepth 100000 in
theorem l7Near_any (x : Int) (y : Nat) (hy : 1 ≤ y) (hy2 : y ≤ 1000000) (hx : -1000000000 ≤ x ∧ x ≤ 1000000000) (w : World) :
    Calls Try.prog 27 #[.int .i64 x, .int .i64 y] w fun e w' => e = .returned (.int .i64 (nrS x y)) ∧ w' = w := by
  have c := l1Down_any (2 * x + y) (2 * y) (by omega) (by omega) (by omega) (by omega)
  rw [show ((2 * y : Nat) : Int) = 2 * (y : Int) by omega] at c
  have HV : Hid ((2 * x + y) / (2 * (y : Int)) = nrS x y) := rfl
  rw [HV.out] at c
  have e1 : IntKind.i64.wrap (2 * x) = 2 * x := by rw [IntKind.wrap_i64]; omega
  have e2 : IntKind.i64.wrap (2 * x + y) = 2 * x + y := by rw [IntKind.wrap_i64]; omega
  have e3 : IntKind.i64.wrap (2 * (y : Int)) = 2 * (y : Int) := by rw [IntKind.wrap_i64]; omega
  clear HV
  generalize nrS x y = V at *
  clear hy hy2 hx
  go_enter Try.func27, Try.ntmps27
  go_wp2_with fail
  refine (c _).mono ?_
  rintro e w' ⟨rfl, rfl⟩
  go_wp2_with fail
  go_ret
  exact ⟨rfl, rfl⟩

theorem vxV_out {t : Nat → Int} {X Y Z x y z : Int} (h : ¬ ((0 ≤ x ∧ x ≤ X - 1) ∧ (0 ≤ y ∧ y ≤ Y - 1) ∧ (0 ≤ z ∧ z ≤ Z - 1))) : vxV t X Y Z x y z = 0 := by
  unfold vxV
  rw [if_neg (fun e => h (inV_iff.1 e))]

set_option maxRecDepth 100000 in
set_option maxHeartbeats 2000000 in
theorem l7At_any (X Y Z : Int) (a : Option Addr) (n cap : Nat) (t : Nat → Int) (hX : 1 ≤ X ∧ X ≤ 32) (hY : 1 ≤ Y ∧ Y ≤ 32) (hZ : 1 ≤ Z ∧ Z ≤ 32) (hn : (n : Int) = X * Y * Z) (x y z : Int) (w : World) (h : Px a n t w) :
    Calls Try.prog 26 #[vVolume X Y Z a n cap, .int .i64 x, .int .i64 y, .int .i64 z] w fun e w' => e = .returned (.int .i64 (vxV t X Y Z x y z)) ∧ Below w.heap.size w w' := by
  have HB : Hid (Below w.heap.size w (w.alloc (.cells #[.int .i64 X, .int .i64 Y, .int .i64 Z, .slice a n cap] 29))) := bnew _ _
  by_cases hx : x < 0
  · have HO := hide (vxV_out (t := t) (X := X) (Y := Y) (Z := Z) (x := x) (y := y) (z := z) (by omega))
    clear hn h
    go_enter Try.func26, Try.ntmps26
    go_wp2_with fail
    go_ret
    exact ⟨by rw [HO.out]; rfl, HB.out⟩
  by_cases hy : y < 0
  · have HO := hide (vxV_out (t := t) (X := X) (Y := Y) (Z := Z) (x := x) (y := y) (z := z) (by omega))
    clear hn h
    go_enter Try.func26, Try.ntmps26
    go_wp2_with fail
    go_ret
    exact ⟨by rw [HO.out]; rfl, HB.out⟩
  by_cases hz : z < 0
  · have HO := hide (vxV_out (t := t) (X := X) (Y := Y) (Z := Z) (x := x) (y := y) (z := z) (by omega))
    clear hn h
    go_enter Try.func26, Try.ntmps26
    go_wp2_with fail
    go_ret
    exact ⟨by rw [HO.out]; rfl, HB.out⟩
  by_cases hx' : X ≤ x
  · have HO := hide (vxV_out (t := t) (X := X) (Y := Y) (Z := Z) (x := x) (y := y) (z := z) (by omega))
    clear hn h
    go_enter Try.func26, Try.ntmps26
    go_wp2_with fail
    go_ret
    exact ⟨by rw [HO.out]; rfl, HB.out⟩
  by_cases hy' : Y ≤ y
  · have HO := hide (vxV_out (t := t) (X := X) (Y := Y) (Z := Z) (x := x) (y := y) (z := z) (by omega))
    clear hn h
    go_enter Try.func26, Try.ntmps26
    go_wp2_with fail
    go_ret
    exact ⟨by rw [HO.out]; rfl, HB.out⟩
  by_cases hz' : Z ≤ z
  · have HO := hide (vxV_out (t := t) (X := X) (Y := Y) (Z := Z) (x := x) (y := y) (z := z) (by omega))
    clear hn h
    go_enter Try.func26, Try.ntmps26
    go_wp2_with fail
    go_ret
    exact ⟨by rw [HO.out]; rfl, HB.out⟩
  have hin : inV X Y Z x y z = true := inV_iff.2 (by omega)
  obtain ⟨p0, p1, p2, p3, p4, p5⟩ := num_in hX hY hZ hin hn
  obtain ⟨i, hi⟩ : ∃ i : Nat, (i : Int) = (z * Y + y) * X + x := ⟨((z * Y + y) * X + x).toNat, by omega⟩
  have HO : Hid (vxV t X Y Z x y z = t i) := by
    show _ = _
    unfold vxV
    rw [if_pos hin, ← hi]
    rfl
  have hin' : i < n := by omega
  obtain ⟨b, off, rfl, hc⟩ := (h.below HB.out).at hin'
  have e1 : IntKind.i64.wrap (z * Y) = z * Y := by rw [IntKind.wrap_i64]; omega
  have e2 : IntKind.i64.wrap (z * Y + y) = z * Y + y := by rw [IntKind.wrap_i64]; omega
  have e3 : IntKind.i64.wrap ((z * Y + y) * X) = (z * Y + y) * X := by rw [IntKind.wrap_i64]; omega
  have e4 : IntKind.i64.wrap ((z * Y + y) * X + x) = (i : Int) := by rw [← hi, IntKind.wrap_i64]; omega
  clear hn h p0 p1 p2 p3 p4 p5 hi hin
  go_enter Try.func26, Try.ntmps26
  go_wp2_with fail
  go_ret
  exact ⟨by rw [HO.out]; rfl, HB.out⟩

theorem inB_f {x lo hi : Int} (h : ¬ (lo ≤ x ∧ x ≤ hi)) : inB x lo hi = false := by unfold inB; simp; omega
theorem inB_t {x lo hi : Int} (h : lo ≤ x ∧ x ≤ hi) : inB x lo hi = true := by unfold inB; simp; omega

set_option maxRecDepth 100000 in
set_option maxHeartbeats 2000000 in
theorem voxelAt_any (X Y Z : Int) (a : Option Addr) (n cap : Nat) (t : Nat → Int) (hX : 1 ≤ X ∧ X ≤ 32) (hY : 1 ≤ Y ∧ Y ≤ 32) (hZ : 1 ≤ Z ∧ Z ≤ 32) (hn : (n : Int) = X * Y * Z) (x y z : Int) (w : World) (h : Px a n t w) :
    Calls Try.prog 46 #[vVolume X Y Z a n cap, v3v x y z] w fun e w' => e = .returned (.int .i64 (vxV t X Y Z x y z)) ∧ Below w.heap.size w w' := by
  have HS0 := hide (((St.start w).box [.int .i64 X, .int .i64 Y, .int .i64 Z, .slice a n cap] 29).box' [.int .i64 x, .int .i64 y, .int .i64 z] 58 (b := w.heap.size + 1) (by simp))
  have uX : IntKind.i64.wrap (X - 1) = X - 1 := by rw [IntKind.wrap_i64]; omega
  have uY : IntKind.i64.wrap (Y - 1) = Y - 1 := by rw [IntKind.wrap_i64]; omega
  have uZ : IntKind.i64.wrap (Z - 1) = Z - 1 := by rw [IntKind.wrap_i64]; omega
  have c1 := fun w' => within_any x 0 (X - 1) w'
  have c2 := fun w' => within_any y 0 (Y - 1) w'
  have c3 := fun w' => within_any z 0 (Z - 1) w'
  have HP := hide (h.below HS0.out.below)
  have HX := hide hX
  have HY := hide hY
  have HZ := hide hZ
  have HN := hide hn
  clear h hn hX hY hZ
  generalize hA : (w.alloc (.cells [.int .i64 X, .int .i64 Y, .int .i64 Z, .slice a n cap].toArray 29)).alloc (.cells [.int .i64 x, .int .i64 y, .int .i64 z].toArray 58) = wA at HS0 HP
  have hA' : (w.alloc (.cells #[.int .i64 X, .int .i64 Y, .int .i64 Z, .slice a n cap] 29)).alloc (.cells #[.int .i64 x, .int .i64 y, .int .i64 z] 58) = wA := hA
  clear hA
  obtain ⟨i0, i1, i2, i3⟩ := HS0.out.im4 1 rfl
  obtain ⟨j0, j1, j2⟩ := HS0.out.im3 0 rfl
  by_cases hx : 0 ≤ x ∧ x ≤ X - 1
  · rw [inB_t hx] at c1
    by_cases hy : 0 ≤ y ∧ y ≤ Y - 1
    · rw [inB_t hy] at c2
      by_cases hz : 0 ≤ z ∧ z ≤ Z - 1
      · rw [inB_t hz] at c3
        have hin : inV X Y Z x y z = true := inV_iff.2 ⟨hx, hy, hz⟩
        obtain ⟨p0, p1, p2, p3, p4, p5⟩ := num_in HX.out HY.out HZ.out hin HN.out
        obtain ⟨i, hi⟩ : ∃ i : Nat, (i : Int) = (z * Y + y) * X + x := ⟨((z * Y + y) * X + x).toNat, by omega⟩
        have HO : Hid (vxV t X Y Z x y z = t i) := by
          show _ = _
          unfold vxV
          rw [if_pos hin, ← hi]
          rfl
        have hin' : i < n := by omega
        obtain ⟨b, off, rfl, hc⟩ := HP.out.at hin'
        have hX' := HX.out
        have hY' := HY.out
        have hZ' := HZ.out
        have e2 : IntKind.i64.wrap (z * Y + y) = z * Y + y := by rw [IntKind.wrap_i64]; omega
        have c4 := fun w' => numberIn_any X Y Z (some ⟨b, off, none⟩) n cap x y z (z * Y) ((z * Y + y) * X) (by rw [IntKind.wrap_i64]; omega) (by rw [e2, IntKind.wrap_i64]; omega) e2 (i : Int) (by rw [← hi, IntKind.wrap_i64]; omega) w'
        clear e2 p0 p1 p2 p3 p4 p5 hi hin hx hy hz HP HN HX HY HZ hX' hY' hZ'
        go_enter Try.func46, Try.ntmps46
        go_wp2_with fail
        refine (c1 _).mono ?_
        rintro e w1 ⟨rfl, h1⟩
        obtain rfl := h1.symm
        go_wp2_with fail
        refine (c2 _).mono ?_
        rintro e w1 ⟨rfl, h1⟩
        obtain rfl := h1.symm
        go_wp2_with fail
        refine (c3 _).mono ?_
        rintro e w1 ⟨rfl, h1⟩
        obtain rfl := h1.symm
        go_upto_region 3 with fail
        have u0 := fun pp : Up wA => pp.cell i0
        have u1 := fun pp : Up wA => pp.cell i1
        have u2 := fun pp : Up wA => pp.cell i2
        have u3 := fun pp : Up wA => pp.cell i3
        have v0 := fun pp : Up wA => pp.cell j0
        have v1 := fun pp : Up wA => pp.cell j1
        have v2 := fun pp : Up wA => pp.cell j2
        have vc := fun pp : Up wA => pp.cell hc
        refine region_up (by kernel_rfl) (by kernel_rfl) ?_
        repeat (go_big_quiet_step (first
          | exact rfl
          | (go_at_call 56; exact calls_up (c4 _))))
        refine wpQuiet_nil ?_
        intro _ hw2
        obtain ⟨pq, hw3⟩ := hw2
        subst hw3
        have HE := hide (HS0.out.next pq.below).below
        go_wp2_with fail
        go_ret
        exact ⟨by rw [HO.out]; rfl, HE.out⟩
      · rw [inB_f hz] at c3
        have HO := hide (vxV_out (t := t) (X := X) (Y := Y) (Z := Z) (x := x) (y := y) (z := z) (fun h => hz h.2.2))
        have HE := hide HS0.out.below
        clear hx hy hz HP HN HX HY HZ
        go_enter Try.func46, Try.ntmps46
        go_wp2_with fail
        refine (c1 _).mono ?_
        rintro e w1 ⟨rfl, h1⟩
        obtain rfl := h1.symm
        go_wp2_with fail
        refine (c2 _).mono ?_
        rintro e w1 ⟨rfl, h1⟩
        obtain rfl := h1.symm
        go_wp2_with fail
        refine (c3 _).mono ?_
        rintro e w1 ⟨rfl, h1⟩
        obtain rfl := h1.symm
        go_wp2_with fail
        go_ret
        exact ⟨by rw [HO.out]; rfl, HE.out⟩
    · rw [inB_f hy] at c2
      have HO := hide (vxV_out (t := t) (X := X) (Y := Y) (Z := Z) (x := x) (y := y) (z := z) (fun h => hy h.2.1))
      have HE := hide HS0.out.below
      clear hx hy HP HN HX HY HZ
      go_enter Try.func46, Try.ntmps46
      go_wp2_with fail
      refine (c1 _).mono ?_
      rintro e w1 ⟨rfl, h1⟩
      obtain rfl := h1.symm
      go_wp2_with fail
      refine (c2 _).mono ?_
      rintro e w1 ⟨rfl, h1⟩
      obtain rfl := h1.symm
      go_wp2_with fail
      go_ret
      exact ⟨by rw [HO.out]; rfl, HE.out⟩
  · rw [inB_f hx] at c1
    have HO := hide (vxV_out (t := t) (X := X) (Y := Y) (Z := Z) (x := x) (y := y) (z := z) (fun h => hx h.1))
    have HE := hide HS0.out.below
    clear hx HP HN HX HY HZ
    go_enter Try.func46, Try.ntmps46
    go_wp2_with fail
    refine (c1 _).mono ?_
    rintro e w1 ⟨rfl, h1⟩
    obtain rfl := h1.symm
    go_wp2_with fail
    go_ret
    exact ⟨by rw [HO.out]; rfl, HE.out⟩

end Go.Proofs.Ytpbeogepgjbacaa
