/- The voxel at a place: both sides. -/
import Derived.Test.YtncaekmjpfjneaaDoorFcn
import Derived.Test.YtncaekmjpfjneaaDoorTwi
import Derived.Test.YtncaekmjpfjneaaDoorQup
namespace Go.Proofs.YtncaekmjpfjneaaDoor
open Go.RowKit

theorem cAt_out {t : Nat → Int} {X x y z : Int} (h : ¬ ((0 ≤ x ∧ x ≤ X - 1) ∧ (0 ≤ y ∧ y ≤ X - 1) ∧ (0 ≤ z ∧ z ≤ X - 1))) : cAt t X x y z = 0 := by
  unfold cAt
  rw [if_neg (fun e => h (inC_iff.1 e))]

set_option maxRecDepth 100000 in
set_option maxHeartbeats 2000000 in
theorem l7At_any (X : Int) (a : Option Addr) (n cap : Nat) (t : Nat → Int) (hX : 1 ≤ X ∧ X ≤ 32) (hn : (n : Int) = X * X * X) (x y z : Int) (w : World) (h : Px a n t w) :
    Calls Tryd.prog 28 #[vVolume X X X a n cap, .int .i64 x, .int .i64 y, .int .i64 z] w fun e w' => e = .returned (.int .i64 (cAt t X x y z)) ∧ Below w.heap.size w w' := by
  have HB : Hid (Below w.heap.size w (w.alloc (.cells #[.int .i64 X, .int .i64 X, .int .i64 X, .slice a n cap] 27))) := bnew _ _
  by_cases hx : x < 0
  · have HO := hide (cAt_out (t := t) (X := X) (x := x) (y := y) (z := z) (by omega))
    clear hn h
    go_enter Tryd.func28, Tryd.ntmps28
    go_wp2_with fail
    go_ret
    exact ⟨by rw [HO.out]; rfl, HB.out⟩
  by_cases hy : y < 0
  · have HO := hide (cAt_out (t := t) (X := X) (x := x) (y := y) (z := z) (by omega))
    clear hn h
    go_enter Tryd.func28, Tryd.ntmps28
    go_wp2_with fail
    go_ret
    exact ⟨by rw [HO.out]; rfl, HB.out⟩
  by_cases hz : z < 0
  · have HO := hide (cAt_out (t := t) (X := X) (x := x) (y := y) (z := z) (by omega))
    clear hn h
    go_enter Tryd.func28, Tryd.ntmps28
    go_wp2_with fail
    go_ret
    exact ⟨by rw [HO.out]; rfl, HB.out⟩
  by_cases hx' : X ≤ x
  · have HO := hide (cAt_out (t := t) (X := X) (x := x) (y := y) (z := z) (by omega))
    clear hn h
    go_enter Tryd.func28, Tryd.ntmps28
    go_wp2_with fail
    go_ret
    exact ⟨by rw [HO.out]; rfl, HB.out⟩
  by_cases hy' : X ≤ y
  · have HO := hide (cAt_out (t := t) (X := X) (x := x) (y := y) (z := z) (by omega))
    clear hn h
    go_enter Tryd.func28, Tryd.ntmps28
    go_wp2_with fail
    go_ret
    exact ⟨by rw [HO.out]; rfl, HB.out⟩
  by_cases hz' : X ≤ z
  · have HO := hide (cAt_out (t := t) (X := X) (x := x) (y := y) (z := z) (by omega))
    clear hn h
    go_enter Tryd.func28, Tryd.ntmps28
    go_wp2_with fail
    go_ret
    exact ⟨by rw [HO.out]; rfl, HB.out⟩
  have hin : inC X x y z = true := inC_iff.2 (by omega)
  obtain ⟨p0, p1, p2, p3, p4, p5⟩ := num_in hX hin hn
  obtain ⟨i, hi⟩ : ∃ i : Nat, (i : Int) = (z * X + y) * X + x := ⟨((z * X + y) * X + x).toNat, by omega⟩
  have HO : Hid (cAt t X x y z = t i) := by
    show _ = _
    unfold cAt
    rw [if_pos hin, ← hi]
    rfl
  have hin' : i < n := by omega
  obtain ⟨b, off, rfl, hc⟩ := (h.below HB.out).at hin'
  have e1 : IntKind.i64.wrap (z * X) = z * X := by rw [IntKind.wrap_i64]; omega
  have e2 : IntKind.i64.wrap (z * X + y) = z * X + y := by rw [IntKind.wrap_i64]; omega
  have e3 : IntKind.i64.wrap ((z * X + y) * X) = (z * X + y) * X := by rw [IntKind.wrap_i64]; omega
  have e4 : IntKind.i64.wrap ((z * X + y) * X + x) = (i : Int) := by rw [← hi, IntKind.wrap_i64]; omega
  clear hn h p0 p1 p2 p3 p4 p5 hi hin
  go_enter Tryd.func28, Tryd.ntmps28
  go_wp2_with fail
  go_ret
  exact ⟨by rw [HO.out]; rfl, HB.out⟩

theorem inB_f {x lo hi : Int} (h : ¬ (lo ≤ x ∧ x ≤ hi)) : inB x lo hi = false := by unfold inB; simp; omega
theorem inB_t {x lo hi : Int} (h : lo ≤ x ∧ x ≤ hi) : inB x lo hi = true := by unfold inB; simp; omega

set_option maxRecDepth 100000 in
set_option maxHeartbeats 2000000 in
theorem voxelAt_any (X : Int) (a : Option Addr) (n cap : Nat) (t : Nat → Int) (hX : 1 ≤ X ∧ X ≤ 32) (hn : (n : Int) = X * X * X) (x y z : Int) (w : World) (h : Px a n t w) :
    Calls Tryd.prog 33 #[vVolume X X X a n cap, v3v x y z] w fun e w' => e = .returned (.int .i64 (cAt t X x y z)) ∧ Below w.heap.size w w' := by
  have HS0 := hide (((St.start w).box [.int .i64 X, .int .i64 X, .int .i64 X, .slice a n cap] 27).box' [.int .i64 x, .int .i64 y, .int .i64 z] 46 (b := w.heap.size + 1) (by simp))
  have uX : IntKind.i64.wrap (X - 1) = X - 1 := by rw [IntKind.wrap_i64]; omega
  have c1 := fun w' => within_any x 0 (X - 1) w'
  have c2 := fun w' => within_any y 0 (X - 1) w'
  have c3 := fun w' => within_any z 0 (X - 1) w'
  have HP := hide (h.below HS0.out.below)
  have HX := hide hX
  have HN := hide hn
  clear h hn hX
  generalize hA : (w.alloc (.cells [.int .i64 X, .int .i64 X, .int .i64 X, .slice a n cap].toArray 27)).alloc (.cells [.int .i64 x, .int .i64 y, .int .i64 z].toArray 46) = wA at HS0 HP
  have hA' : (w.alloc (.cells #[.int .i64 X, .int .i64 X, .int .i64 X, .slice a n cap] 27)).alloc (.cells #[.int .i64 x, .int .i64 y, .int .i64 z] 46) = wA := hA
  clear hA
  obtain ⟨i0, i1, i2, i3⟩ := HS0.out.im4 1 rfl
  obtain ⟨j0, j1, j2⟩ := HS0.out.im3 0 rfl
  by_cases hx : 0 ≤ x ∧ x ≤ X - 1
  · rw [inB_t hx] at c1
    by_cases hy : 0 ≤ y ∧ y ≤ X - 1
    · rw [inB_t hy] at c2
      by_cases hz : 0 ≤ z ∧ z ≤ X - 1
      · rw [inB_t hz] at c3
        have hin : inC X x y z = true := inC_iff.2 ⟨hx, hy, hz⟩
        obtain ⟨p0, p1, p2, p3, p4, p5⟩ := num_in HX.out hin HN.out
        obtain ⟨i, hi⟩ : ∃ i : Nat, (i : Int) = (z * X + y) * X + x := ⟨((z * X + y) * X + x).toNat, by omega⟩
        have HO : Hid (cAt t X x y z = t i) := by
          show _ = _
          unfold cAt
          rw [if_pos hin, ← hi]
          rfl
        have hin' : i < n := by omega
        obtain ⟨b, off, rfl, hc⟩ := HP.out.at hin'
        have hX' := HX.out
        have e2 : IntKind.i64.wrap (z * X + y) = z * X + y := by rw [IntKind.wrap_i64]; omega
        have c4 := fun w' => numberIn_any X X X (some ⟨b, off, none⟩) n cap x y z (z * X) ((z * X + y) * X) (by rw [IntKind.wrap_i64]; omega) (by rw [e2, IntKind.wrap_i64]; omega) e2 (i : Int) (by rw [← hi, IntKind.wrap_i64]; omega) w'
        clear e2 p0 p1 p2 p3 p4 p5 hi hin hx hy hz HP HN HX hX'
        go_enter Tryd.func33, Tryd.ntmps33
        go_wp2_with fail
        refine (c1 _).mono ?_
        rintro e w1 ⟨rfl, h1⟩
        obtain rfl := h1.symm
        go_wp2_with fail
        refine (c2 _).mono ?_
        rintro e w1 ⟨rfl, h1⟩
        obtain rfl := h1.symm
        go_wp2_with fail
        refine (c3 _).mono ?_
        rintro e w1 ⟨rfl, h1⟩
        obtain rfl := h1.symm
        go_upto_region 3 with fail
        have u0 := fun pp : Up wA => pp.cell i0
        have u1 := fun pp : Up wA => pp.cell i1
        have u2 := fun pp : Up wA => pp.cell i2
        have u3 := fun pp : Up wA => pp.cell i3
        have v0 := fun pp : Up wA => pp.cell j0
        have v1 := fun pp : Up wA => pp.cell j1
        have v2 := fun pp : Up wA => pp.cell j2
        have vc := fun pp : Up wA => pp.cell hc
        refine region_up (by kernel_rfl) (by kernel_rfl) ?_
        repeat (go_big_quiet_step (first
          | exact rfl
          | (go_at_call 39; exact calls_up (c4 _))))
        refine wpQuiet_nil ?_
        intro _ hw2
        obtain ⟨pq, hw3⟩ := hw2
        subst hw3
        have HE := hide (HS0.out.next pq.below).below
        go_wp2_with fail
        go_ret
        exact ⟨by rw [HO.out]; rfl, HE.out⟩
      · rw [inB_f hz] at c3
        have HO := hide (cAt_out (t := t) (X := X) (x := x) (y := y) (z := z) (fun h => hz h.2.2))
        have HE := hide HS0.out.below
        clear hx hy hz HP HN HX
        go_enter Tryd.func33, Tryd.ntmps33
        go_wp2_with fail
        refine (c1 _).mono ?_
        rintro e w1 ⟨rfl, h1⟩
        obtain rfl := h1.symm
        go_wp2_with fail
        refine (c2 _).mono ?_
        rintro e w1 ⟨rfl, h1⟩
        obtain rfl := h1.symm
        go_wp2_with fail
        refine (c3 _).mono ?_
        rintro e w1 ⟨rfl, h1⟩
        obtain rfl := h1.symm
        go_wp2_with fail
        go_ret
        exact ⟨by rw [HO.out]; rfl, HE.out⟩
    · rw [inB_f hy] at c2
      have HO := hide (cAt_out (t := t) (X := X) (x := x) (y := y) (z := z) (fun h => hy h.2.1))
      have HE := hide HS0.out.below
      clear hx hy HP HN HX
      go_enter Tryd.func33, Tryd.ntmps33
      go_wp2_with fail
      refine (c1 _).mono ?_
      rintro e w1 ⟨rfl, h1⟩
      obtain rfl := h1.symm
      go_wp2_with fail
      refine (c2 _).mono ?_
      rintro e w1 ⟨rfl, h1⟩
      obtain rfl := h1.symm
      go_wp2_with fail
      go_ret
      exact ⟨by rw [HO.out]; rfl, HE.out⟩
  · rw [inB_f hx] at c1
    have HO := hide (cAt_out (t := t) (X := X) (x := x) (y := y) (z := z) (fun h => hx h.1))
    have HE := hide HS0.out.below
    clear hx HP HN HX
    go_enter Tryd.func33, Tryd.ntmps33
    go_wp2_with fail
    refine (c1 _).mono ?_
    rintro e w1 ⟨rfl, h1⟩
    obtain rfl := h1.symm
    go_wp2_with fail
    go_ret
    exact ⟨by rw [HO.out]; rfl, HE.out⟩

end Go.Proofs.YtncaekmjpfjneaaDoor
