/- The law on FitCost, walked. -/
import Derived.Test.YtncaekmjpfjneaaDoorFfs
import Derived.Test.YtncaekmjpfjneaaDoorFfi
import Derived.Test.YtncaekmjpfjneaaDoorRVol
import Derived.Deep.RegionHeld3
import Derived.Deep.DrawnRows
namespace Go.Proofs.YtncaekmjpfjneaaDoor
open Go.RowKit

set_option maxRecDepth 100000 in
set_option maxHeartbeats 4000000 in
theorem fnExactFitCost_walk (X0 Y0 Z0 : Int) (a0 : Option Addr) (n0 cap0 : Nat) (f0 : Nat → Int) (hl0 : n0 ≤ maxLen) (X1 Y1 Z1 : Int) (a1 : Option Addr) (n1 cap1 : Nat) (f1 : Nat → Int) (hl1 : n1 ≤ maxLen) (x2 : Int) (x3 : Int) (x4 : Int) (x5 : Int) (w : World) (h0 : Px a0 (n0) f0 w) (h1 : Px a1 (n1) f1 w) (hT : Tbl w) :
    Calls Tryd.prog 3 #[vVolume X0 Y0 Z0 a0 n0 cap0, vVolume X1 Y1 Z1 a1 n1 cap1, .int .i64 x2, .int .i64 x3, .int .i64 x4, .int .i64 x5] w fun e w' => e = .returned (.bool true) ∧ Below w.heap.size w w' := by
  unfold maxLen at hl0 hl1
  have HS0 := hide (((St.start w).box [.int .i64 X0, .int .i64 Y0, .int .i64 Z0, .slice a0 n0 cap0] 24).box' [.int .i64 X1, .int .i64 Y1, .int .i64 Z1, .slice a1 n1 cap1] 24 (b := w.heap.size + 1) (by simp))
  have HP0 := hide h0
  have HP1 := hide h1
  have HTB := hide hT
  clear hT
  clear h0 h1
  have hz0 := szVolume_any X0 Y0 Z0 a0 n0 cap0 (1048576) (by omega) (by omega) (by omega)
  by_cases hb0 : (1048576 : Int) < n0
  · rw [if_pos hb0] at hz0
    clear hb0 hl0 hl1
    go_enter Tryd.func3, Tryd.ntmps3
    go_wp2_with fail
    refine (hz0 _).mono ?_
    rintro e wz0 ⟨rfl, hb⟩
    have HZ0 := hide (HS0.out.next hb)
    clear hb
    have HB := hide HZ0.out.below
    go_wp2_with fail
    go_ret
    exact ⟨rfl, HB.out⟩
  rw [if_neg hb0] at hz0
  have hn0 : ¬ (1048576 - (n0 : Int) : Int) < 0 := by omega
  have hz1 := szVolume_any X1 Y1 Z1 a1 n1 cap1 (1048576 - (n0 : Int)) (by omega) (by omega) (by omega)
  by_cases hb1 : (1048576 - (n0 : Int) : Int) < n1
  · rw [if_pos hb1] at hz1
    clear hb1 hl0 hl1
    go_enter Tryd.func3, Tryd.ntmps3
    go_wp2_with fail
    refine (hz0 _).mono ?_
    rintro e wz0 ⟨rfl, hb⟩
    have HZ0 := hide (HS0.out.next hb)
    clear hb
    obtain ⟨i0, i1, i2, i3⟩ := HZ0.out.im4 0 rfl
    go_wp2_with fail
    refine (hz1 _).mono ?_
    rintro e wz1 ⟨rfl, hb⟩
    have HZ1 := hide (HZ0.out.next hb)
    clear hb
    have HB := hide HZ1.out.below
    go_wp2_with fail
    go_ret
    exact ⟨rfl, HB.out⟩
  rw [if_neg hb1] at hz1
  have hn1 : ¬ (1048576 - (n0 : Int) - (n1 : Int) : Int) < 0 := by omega
  have hL0 : n0 ≤ 1048576 := by omega
  have hL1 : n1 ≤ 1048576 := by omega
  have hN : n0 + n1 ≤ 1048576 := by omega
  have cT0 := fun w' h => toVolume_any X0 Y0 Z0 a0 n0 cap0 f0 hL0 w' h
  have cA0 := fun b b' w' h h' => eqVolume_any X0 Y0 Z0 (some ⟨b, 0, none⟩) (some ⟨b', 0, none⟩) n0 n0 n0 f0 hL0 w' h h'
  have cT1 := fun w' h => toVolume_any X1 Y1 Z1 a1 n1 cap1 f1 hL1 w' h
  have cA1 := fun b b' w' h h' => eqVolume_any X1 Y1 Z1 (some ⟨b, 0, none⟩) (some ⟨b', 0, none⟩) n1 n1 n1 f1 hL1 w' h h'
  have cS := fun b0 b1 w' h0 h1 => specFitCost_any X0 Y0 Z0 b0 n0 n0 f0 hL0 X1 Y1 Z1 b1 n1 n1 f1 hL1 x2 x3 x4 x5 w' h0 h1
  have cI := fun b0 b1 w' (hb : Below w.heap.size w w') h0 h1 => implFitCost_any X0 Y0 Z0 b0 n0 n0 f0 hL0 X1 Y1 Z1 b1 n1 n1 f1 hL1 x2 x3 x4 x5 w' (HTB.out.below hb (Nat.le_refl _)) h0 h1
  generalize fitV tqT X0 Y0 Z0 n0 f0 X1 Y1 Z1 n1 f1 x2 x3 x4 x5 = rC at *
  clear hl0 hl1 hN
  have qc : (rC != rC) = false := by simp
  go_enter Tryd.func3, Tryd.ntmps3
  go_wp2_with fail
  refine (hz0 _).mono ?_
  rintro e v1 ⟨rfl, hb⟩
  have HS1 := hide (HS0.out.next hb)
  clear HS0 hb hz0
  obtain ⟨i0, i1, i2, i3⟩ := HS1.out.im4 0 rfl
  go_wp2_with fail
  refine (hz1 _).mono ?_
  rintro e v2 ⟨rfl, hb⟩
  have HS2 := hide (HS1.out.next hb)
  clear HS1 hb hz1 i0 i1 i2 i3
  obtain ⟨i0, i1, i2, i3⟩ := HS2.out.im4 1 rfl
  obtain ⟨j0, j1, j2, j3⟩ := HS2.out.im4 0 rfl
  have SKa := hide (And.intro i0 (And.intro i1 (And.intro i2 (And.intro i3 (And.intro j0 (And.intro j1 (And.intro j2 (j3))))))))
  go_upto_region 8 with fail
  go_region_held3 (fun (w' : World) => w'.cell? ⟨w.heap.size, 0, none⟩ = some (.int .i64 X0) ∧ w'.cell? ⟨w.heap.size, 1, none⟩ = some (.int .i64 Y0) ∧ w'.cell? ⟨w.heap.size, 2, none⟩ = some (.int .i64 Z0) ∧ w'.cell? ⟨w.heap.size, 3, none⟩ = some (.slice a0 n0 cap0) ∧ w'.cell? ⟨w.heap.size + 1, 0, none⟩ = some (.int .i64 X1) ∧ w'.cell? ⟨w.heap.size + 1, 1, none⟩ = some (.int .i64 Y1) ∧ w'.cell? ⟨w.heap.size + 1, 2, none⟩ = some (.int .i64 Z1) ∧ w'.cell? ⟨w.heap.size + 1, 3, none⟩ = some (.slice a1 n1 cap1))
    (first | exact SKa.out | exact SK0 | exact SK1 | exact SK2)
    (first
      | (go_at_call 7; (with_reducible refine (cT0 _ (HP0.out.below HS2.out.drew.below)).mono ?_); rintro e wq0 ⟨b1q, rfl, h2_0, hr_0, hb_0⟩; have HQ0 := hide (HS2.out.drew.own hb_0 hr_0.v (.inr h2_0)); obtain ⟨y0_0_0, y0_0_1, y0_0_2, y0_0_3⟩ := HQ0.out.im4 1 rfl; obtain ⟨y0_1_0, y0_1_1, y0_1_2, y0_1_3⟩ := HQ0.out.im4 0 rfl; have SK0 := And.intro y0_0_0 (And.intro y0_0_1 (And.intro y0_0_2 (And.intro y0_0_3 (And.intro y0_1_0 (And.intro y0_1_1 (And.intro y0_1_2 (y0_1_3))))))))
      | (go_at_call 7; (with_reducible refine (cT1 _ (HP1.out.below HQ0.out.below)).mono ?_); rintro e wq1 ⟨b2q, rfl, h2_1, hr_1, hb_1⟩; have HQ1 := hide (HQ0.out.own hb_1 hr_1.v (.inr h2_1)); obtain ⟨y1_0_0, y1_0_1, y1_0_2, y1_0_3⟩ := HQ1.out.im4 1 rfl; obtain ⟨y1_1_0, y1_1_1, y1_1_2, y1_1_3⟩ := HQ1.out.im4 0 rfl; have SK1 := And.intro y1_0_0 (And.intro y1_0_1 (And.intro y1_0_2 (And.intro y1_0_3 (And.intro y1_1_0 (And.intro y1_1_1 (And.intro y1_1_2 (y1_1_3))))))))
      | (go_at_call 6; (with_reducible refine (cS _ _ _ (HQ1.out.nthO 1 rfl).px (HQ1.out.nthO 0 rfl).px).mono ?_); rintro e wq2 ⟨rfl, hb⟩; have HQ2 := hide (HQ1.out.next hb); obtain ⟨y2_0_0, y2_0_1, y2_0_2, y2_0_3⟩ := HQ2.out.im4 1 rfl; obtain ⟨y2_1_0, y2_1_1, y2_1_2, y2_1_3⟩ := HQ2.out.im4 0 rfl; have SK2 := And.intro y2_0_0 (And.intro y2_0_1 (And.intro y2_0_2 (And.intro y2_0_3 (And.intro y2_1_0 (And.intro y2_1_1 (And.intro y2_1_2 (y2_1_3)))))))))
  have HS3 := hide HQ2.out
  clear SKa h2_0 hr_0 hb_0 y0_0_0 y0_0_1 y0_0_2 y0_0_3 y0_1_0 y0_1_1 y0_1_2 y0_1_3 SK0 h2_1 hr_1 hb_1 y1_0_0 y1_0_1 y1_0_2 y1_0_3 y1_1_0 y1_1_1 y1_1_2 y1_1_3 SK1 y2_0_0 y2_0_1 y2_0_2 y2_0_3 y2_1_0 y2_1_1 y2_1_2 y2_1_3 SK2 hb HQ0 HQ1 HQ2 HS2 cS i0 i1 i2 i3 j0 j1 j2 j3
  obtain ⟨i0, i1, i2, i3⟩ := HS3.out.im4 1 rfl
  go_wp2_with fail
  refine (cT0 _ (HP0.out.below HS3.out.below)).mono ?_
  rintro e v3 ⟨b4q, rfl, h2, hr, hb⟩
  have HS4 := hide (HS3.out.own hb hr.v (.inr h2))
  clear HS3 hb hr h2 i0 i1 i2 i3
  have HS5 := hide (HS4.out.box [.int .i64 X0, .int .i64 Y0, .int .i64 Z0, .slice (some ⟨b4q, 0, none⟩) n0 n0] 27)
  generalize hx : World.alloc _ (.cells [.int .i64 X0, .int .i64 Y0, .int .i64 Z0, .slice (some ⟨b4q, 0, none⟩) n0 n0].toArray 27) = v4 at HS5
  have hy : World.alloc _ (.cells #[.int .i64 X0, .int .i64 Y0, .int .i64 Z0, .slice (some ⟨b4q, 0, none⟩) n0 n0] 27) = v4 := hx
  clear hx HS4
  obtain ⟨i0, i1, i2, i3⟩ := HS5.out.im4 1 rfl
  go_wp2_with fail
  refine (cT1 _ (HP1.out.below HS5.out.below)).mono ?_
  rintro e v5 ⟨b5q, rfl, h2, hr, hb⟩
  have HS6 := hide (HS5.out.own hb hr.v (.inr h2))
  clear HS5 hb hr h2 i0 i1 i2 i3
  have HS7 := hide (HS6.out.box [.int .i64 X1, .int .i64 Y1, .int .i64 Z1, .slice (some ⟨b5q, 0, none⟩) n1 n1] 27)
  generalize hx : World.alloc _ (.cells [.int .i64 X1, .int .i64 Y1, .int .i64 Z1, .slice (some ⟨b5q, 0, none⟩) n1 n1].toArray 27) = v6 at HS7
  have hy : World.alloc _ (.cells #[.int .i64 X1, .int .i64 Y1, .int .i64 Z1, .slice (some ⟨b5q, 0, none⟩) n1 n1] 27) = v6 := hx
  clear hx HS6
  obtain ⟨i0, i1, i2, i3⟩ := HS7.out.im4 1 rfl
  obtain ⟨j0, j1, j2, j3⟩ := HS7.out.im4 0 rfl
  have p0 := (HS7.out.nthO 1 rfl).px
  have p1 := (HS7.out.nthO 0 rfl).px
  go_wp2_with fail
  refine (cI _ _ _ HS7.out.below p0 p1).mono ?_
  rintro e v7 ⟨rfl, hb⟩
  have HS8 := hide (HS7.out.next hb)
  clear HS7 hb p0 p1 i0 i1 i2 i3 j0 j1 j2 j3
  obtain ⟨i0, i1, i2, i3⟩ := HS8.out.im4 3 rfl
  obtain ⟨j0, j1, j2, j3⟩ := HS8.out.im4 1 rfl
  go_upto_region 14 with fail
  go_region_with (first
    | (go_at_call 7; (with_reducible refine (cT0 _ (HP0.out.below HS8.out.drew.below)).mono ?_); rintro e wq ⟨b3, rfl, -, hr, hb⟩; have HQ := hide (HS8.out.drew.next hb); obtain ⟨k0, k1, k2, k3⟩ := HQ.out.im4 1 rfl)
    | (go_at_call 9; (with_reducible refine (cA0 _ _ _ (HQ.out.nthO 1 rfl).px hr.px).mono ?_); rintro e wp ⟨rfl, hb11⟩))
  all_goals
    have HS9 := hide (HQ.out.next hb11)
    clear hb hr hb11 HQ HS8 k0 k1 k2 k3 i0 i1 i2 i3 j0 j1 j2 j3
    obtain ⟨i0, i1, i2, i3⟩ := HS9.out.im4 2 rfl
    obtain ⟨j0, j1, j2, j3⟩ := HS9.out.im4 0 rfl
    go_upto_region 16 with fail
    go_region_with (first
      | (go_at_call 7; (with_reducible refine (cT1 _ (HP1.out.below HS9.out.drew.below)).mono ?_); rintro e wq ⟨b3, rfl, -, hr, hb⟩; have HQ := hide (HS9.out.drew.next hb); obtain ⟨k0, k1, k2, k3⟩ := HQ.out.im4 0 rfl)
      | (go_at_call 9; (with_reducible refine (cA1 _ _ _ (HQ.out.nthO 0 rfl).px hr.px).mono ?_); rintro e wp ⟨rfl, hb11⟩))
    all_goals
      have HS10 := hide (HQ.out.next hb11)
      clear hb hr hb11 HQ HS9 k0 k1 k2 k3 i0 i1 i2 i3 j0 j1 j2 j3
      have HB := hide HS10.out.below
      clear HS10
      go_wp2_with fail
      go_ret
      exact ⟨rfl, HB.out⟩

end Go.Proofs.YtncaekmjpfjneaaDoor
