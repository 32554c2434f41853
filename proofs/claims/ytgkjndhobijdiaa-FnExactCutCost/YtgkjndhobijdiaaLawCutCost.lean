/- The law on CutCost, walked. -/
import Derived.Test.YtgkjndhobijdiaaCcs
import Derived.Test.YtgkjndhobijdiaaCci
import Derived.Deep.RegionHeld3
import Derived.Deep.DrawnRows
namespace Go.Proofs.Ytgkjndhobijdiaa
open Go.RowKit

set_option maxRecDepth 100000 in
set_option maxHeartbeats 4000000 in
theorem fnExactCutCost_walk (W0 H0 : Int) (a0 : Option Addr) (n0 cap0 : Nat) (f0 : Nat → Int) (hl0 : n0 ≤ maxLen) (W1 H1 : Int) (a1 : Option Addr) (n1 cap1 : Nat) (f1 : Nat → Int) (hl1 : n1 ≤ maxLen) (W2 H2 : Int) (a2 : Option Addr) (n2 cap2 : Nat) (f2 : Nat → Int) (hl2 : n2 ≤ maxLen) (x3 : Int) (w : World) (h0 : Px a0 (n0) f0 w) (h1 : Px a1 (n1) f1 w) (h2 : Px a2 (n2) f2 w) :
    Calls Try.prog 10 #[im W0 H0 a0 n0 cap0, im W1 H1 a1 n1 cap1, im W2 H2 a2 n2 cap2, .int .i64 x3] w fun e w' => e = .returned (.bool true) ∧ Below w.heap.size w w' := by
  unfold maxLen at hl0 hl1 hl2
  have HS0 := hide ((((St.start w).box [.int .i64 W0, .int .i64 H0, .slice a0 n0 cap0] 52).box' [.int .i64 W1, .int .i64 H1, .slice a1 n1 cap1] 52 (b := w.heap.size + 1) (by simp)).box' [.int .i64 W2, .int .i64 H2, .slice a2 n2 cap2] 52 (b := w.heap.size + 2) (by simp))
  have HP0 := hide h0
  have HP1 := hide h1
  have HP2 := hide h2
  clear h0 h1 h2
  have hz0 := szImage_any W0 H0 a0 n0 cap0 (1048576) (by omega) (by omega) (by omega)
  by_cases hb0 : (1048576 : Int) < n0
  · rw [if_pos hb0] at hz0
    clear hb0 hl0 hl1 hl2
    go_enter Try.func10, Try.ntmps10
    go_wp2_with fail
    refine (hz0 _).mono ?_
    rintro e wz0 ⟨rfl, hb⟩
    have HZ0 := hide (HS0.out.next hb)
    clear hb
    have HB := hide HZ0.out.below
    go_wp2_with fail
    go_ret
    exact ⟨rfl, HB.out⟩
  rw [if_neg hb0] at hz0
  have hn0 : ¬ (1048576 - (n0 : Int) : Int) < 0 := by omega
  have hz1 := szImage_any W1 H1 a1 n1 cap1 (1048576 - (n0 : Int)) (by omega) (by omega) (by omega)
  by_cases hb1 : (1048576 - (n0 : Int) : Int) < n1
  · rw [if_pos hb1] at hz1
    clear hb1 hl0 hl1 hl2
    go_enter Try.func10, Try.ntmps10
    go_wp2_with fail
    refine (hz0 _).mono ?_
    rintro e wz0 ⟨rfl, hb⟩
    have HZ0 := hide (HS0.out.next hb)
    clear hb
    obtain ⟨i0, i1, i2⟩ := HZ0.out.im3 1 rfl
    go_wp2_with fail
    refine (hz1 _).mono ?_
    rintro e wz1 ⟨rfl, hb⟩
    have HZ1 := hide (HZ0.out.next hb)
    clear hb
    have HB := hide HZ1.out.below
    go_wp2_with fail
    go_ret
    exact ⟨rfl, HB.out⟩
  rw [if_neg hb1] at hz1
  have hn1 : ¬ (1048576 - (n0 : Int) - (n1 : Int) : Int) < 0 := by omega
  have hz2 := szImage_any W2 H2 a2 n2 cap2 (1048576 - (n0 : Int) - (n1 : Int)) (by omega) (by omega) (by omega)
  by_cases hb2 : (1048576 - (n0 : Int) - (n1 : Int) : Int) < n2
  · rw [if_pos hb2] at hz2
    clear hb2 hl0 hl1 hl2
    go_enter Try.func10, Try.ntmps10
    go_wp2_with fail
    refine (hz0 _).mono ?_
    rintro e wz0 ⟨rfl, hb⟩
    have HZ0 := hide (HS0.out.next hb)
    clear hb
    obtain ⟨i0, i1, i2⟩ := HZ0.out.im3 1 rfl
    go_wp2_with fail
    refine (hz1 _).mono ?_
    rintro e wz1 ⟨rfl, hb⟩
    have HZ1 := hide (HZ0.out.next hb)
    clear hb
    obtain ⟨i0, i1, i2⟩ := HZ1.out.im3 0 rfl
    go_wp2_with fail
    refine (hz2 _).mono ?_
    rintro e wz2 ⟨rfl, hb⟩
    have HZ2 := hide (HZ1.out.next hb)
    clear hb
    have HB := hide HZ2.out.below
    go_wp2_with fail
    go_ret
    exact ⟨rfl, HB.out⟩
  rw [if_neg hb2] at hz2
  have hn2 : ¬ (1048576 - (n0 : Int) - (n1 : Int) - (n2 : Int) : Int) < 0 := by omega
  have hL0 : n0 ≤ 1048576 := by omega
  have hL1 : n1 ≤ 1048576 := by omega
  have hL2 : n2 ≤ 1048576 := by omega
  have hN : n0 + n1 + n2 ≤ 1048576 := by omega
  have cT0 := fun w' h => toImage_any W0 H0 a0 n0 cap0 f0 hL0 w' h
  have cA0 := fun b b' w' h h' => eqImage_any W0 H0 (some ⟨b, 0, none⟩) (some ⟨b', 0, none⟩) n0 n0 n0 f0 hL0 w' h h'
  have cT1 := fun w' h => toImage_any W1 H1 a1 n1 cap1 f1 hL1 w' h
  have cA1 := fun b b' w' h h' => eqImage_any W1 H1 (some ⟨b, 0, none⟩) (some ⟨b', 0, none⟩) n1 n1 n1 f1 hL1 w' h h'
  have cT2 := fun w' h => toImage_any W2 H2 a2 n2 cap2 f2 hL2 w' h
  have cA2 := fun b b' w' h h' => eqImage_any W2 H2 (some ⟨b, 0, none⟩) (some ⟨b', 0, none⟩) n2 n2 n2 f2 hL2 w' h h'
  have cS := fun b0 b1 b2 w' h0 h1 h2 => specCutCost_any W0 H0 b0 n0 n0 f0 hL0 W1 H1 b1 n1 n1 f1 hL1 W2 H2 b2 n2 n2 f2 hL2 x3 w' h0 h1 h2
  have cI := fun b0 b1 b2 w' h0 h1 h2 => implCutCost_any W0 H0 b0 n0 n0 f0 hL0 W1 H1 b1 n1 n1 f1 hL1 W2 H2 b2 n2 n2 f2 hL2 x3 w' h0 h1 h2
  generalize cstV W0 H0 n0 f0 W1 H1 n1 f1 W2 H2 n2 f2 x3 = rC at *
  clear hl0 hl1 hl2 hN
  have qc : (rC != rC) = false := by simp
  go_enter Try.func10, Try.ntmps10
  go_wp2_with fail
  refine (hz0 _).mono ?_
  rintro e v1 ⟨rfl, hb⟩
  have HS1 := hide (HS0.out.next hb)
  clear HS0 hb hz0
  obtain ⟨i0, i1, i2⟩ := HS1.out.im3 1 rfl
  go_wp2_with fail
  refine (hz1 _).mono ?_
  rintro e v2 ⟨rfl, hb⟩
  have HS2 := hide (HS1.out.next hb)
  clear HS1 hb hz1 i0 i1 i2
  obtain ⟨i0, i1, i2⟩ := HS2.out.im3 0 rfl
  go_wp2_with fail
  refine (hz2 _).mono ?_
  rintro e v3 ⟨rfl, hb⟩
  have HS3 := hide (HS2.out.next hb)
  clear HS2 hb hz2 i0 i1 i2
  obtain ⟨i0, i1, i2⟩ := HS3.out.im3 2 rfl
  obtain ⟨j0, j1, j2⟩ := HS3.out.im3 1 rfl
  obtain ⟨k0, k1, k2⟩ := HS3.out.im3 0 rfl
  have SKa := hide (And.intro i0 (And.intro i1 (And.intro i2 (And.intro j0 (And.intro j1 (And.intro j2 (And.intro k0 (And.intro k1 (k2)))))))))
  go_upto_region 11 with fail
  go_region_held3 (fun (w' : World) => w'.cell? ⟨w.heap.size, 0, none⟩ = some (.int .i64 W0) ∧ w'.cell? ⟨w.heap.size, 1, none⟩ = some (.int .i64 H0) ∧ w'.cell? ⟨w.heap.size, 2, none⟩ = some (.slice a0 n0 cap0) ∧ w'.cell? ⟨w.heap.size + 1, 0, none⟩ = some (.int .i64 W1) ∧ w'.cell? ⟨w.heap.size + 1, 1, none⟩ = some (.int .i64 H1) ∧ w'.cell? ⟨w.heap.size + 1, 2, none⟩ = some (.slice a1 n1 cap1) ∧ w'.cell? ⟨w.heap.size + 2, 0, none⟩ = some (.int .i64 W2) ∧ w'.cell? ⟨w.heap.size + 2, 1, none⟩ = some (.int .i64 H2) ∧ w'.cell? ⟨w.heap.size + 2, 2, none⟩ = some (.slice a2 n2 cap2))
    (first | exact SKa.out | exact SK0 | exact SK1 | exact SK2 | exact SK3)
    (first
      | (go_at_call 38; (with_reducible refine (cT0 _ (HP0.out.below HS3.out.drew.below)).mono ?_); rintro e wq0 ⟨b1q, rfl, h2_0, -, hr_0, hb_0⟩; have HQ0 := hide (HS3.out.drew.own hb_0 hr_0.v (.inr h2_0)); obtain ⟨y0_0_0, y0_0_1, y0_0_2⟩ := HQ0.out.im3 2 rfl; obtain ⟨y0_1_0, y0_1_1, y0_1_2⟩ := HQ0.out.im3 1 rfl; obtain ⟨y0_2_0, y0_2_1, y0_2_2⟩ := HQ0.out.im3 0 rfl; have SK0 := And.intro y0_0_0 (And.intro y0_0_1 (And.intro y0_0_2 (And.intro y0_1_0 (And.intro y0_1_1 (And.intro y0_1_2 (And.intro y0_2_0 (And.intro y0_2_1 (y0_2_2)))))))))
      | (go_at_call 38; (with_reducible refine (cT1 _ (HP1.out.below HQ0.out.below)).mono ?_); rintro e wq1 ⟨b2q, rfl, h2_1, -, hr_1, hb_1⟩; have HQ1 := hide (HQ0.out.own hb_1 hr_1.v (.inr h2_1)); obtain ⟨y1_0_0, y1_0_1, y1_0_2⟩ := HQ1.out.im3 2 rfl; obtain ⟨y1_1_0, y1_1_1, y1_1_2⟩ := HQ1.out.im3 1 rfl; obtain ⟨y1_2_0, y1_2_1, y1_2_2⟩ := HQ1.out.im3 0 rfl; have SK1 := And.intro y1_0_0 (And.intro y1_0_1 (And.intro y1_0_2 (And.intro y1_1_0 (And.intro y1_1_1 (And.intro y1_1_2 (And.intro y1_2_0 (And.intro y1_2_1 (y1_2_2)))))))))
      | (go_at_call 38; (with_reducible refine (cT2 _ (HP2.out.below HQ1.out.below)).mono ?_); rintro e wq2 ⟨b3q, rfl, h2_2, -, hr_2, hb_2⟩; have HQ2 := hide (HQ1.out.own hb_2 hr_2.v (.inr h2_2)); obtain ⟨y2_0_0, y2_0_1, y2_0_2⟩ := HQ2.out.im3 2 rfl; obtain ⟨y2_1_0, y2_1_1, y2_1_2⟩ := HQ2.out.im3 1 rfl; obtain ⟨y2_2_0, y2_2_1, y2_2_2⟩ := HQ2.out.im3 0 rfl; have SK2 := And.intro y2_0_0 (And.intro y2_0_1 (And.intro y2_0_2 (And.intro y2_1_0 (And.intro y2_1_1 (And.intro y2_1_2 (And.intro y2_2_0 (And.intro y2_2_1 (y2_2_2)))))))))
      | (go_at_call 27; (with_reducible refine (cS _ _ _ _ (HQ2.out.nthO 2 rfl).px (HQ2.out.nthO 1 rfl).px (HQ2.out.nthO 0 rfl).px).mono ?_); rintro e wq3 ⟨rfl, hb⟩; have HQ3 := hide (HQ2.out.next hb); obtain ⟨y3_0_0, y3_0_1, y3_0_2⟩ := HQ3.out.im3 2 rfl; obtain ⟨y3_1_0, y3_1_1, y3_1_2⟩ := HQ3.out.im3 1 rfl; obtain ⟨y3_2_0, y3_2_1, y3_2_2⟩ := HQ3.out.im3 0 rfl; have SK3 := And.intro y3_0_0 (And.intro y3_0_1 (And.intro y3_0_2 (And.intro y3_1_0 (And.intro y3_1_1 (And.intro y3_1_2 (And.intro y3_2_0 (And.intro y3_2_1 (y3_2_2))))))))))
  have HS4 := hide HQ3.out
  clear SKa h2_0 hr_0 hb_0 y0_0_0 y0_0_1 y0_0_2 y0_1_0 y0_1_1 y0_1_2 y0_2_0 y0_2_1 y0_2_2 SK0 h2_1 hr_1 hb_1 y1_0_0 y1_0_1 y1_0_2 y1_1_0 y1_1_1 y1_1_2 y1_2_0 y1_2_1 y1_2_2 SK1 h2_2 hr_2 hb_2 y2_0_0 y2_0_1 y2_0_2 y2_1_0 y2_1_1 y2_1_2 y2_2_0 y2_2_1 y2_2_2 SK2 y3_0_0 y3_0_1 y3_0_2 y3_1_0 y3_1_1 y3_1_2 y3_2_0 y3_2_1 y3_2_2 SK3 hb HQ0 HQ1 HQ2 HQ3 HS3 cS i0 i1 i2 j0 j1 j2 k0 k1 k2
  obtain ⟨i0, i1, i2⟩ := HS4.out.im3 2 rfl
  go_wp2_with fail
  refine (cT0 _ (HP0.out.below HS4.out.below)).mono ?_
  rintro e v4 ⟨b5q, rfl, h2, -, hr, hb⟩
  have HS5 := hide (HS4.out.own hb hr.v (.inr h2))
  clear HS4 hb hr h2 i0 i1 i2
  have HS6 := hide (HS5.out.box [.int .i64 W0, .int .i64 H0, .slice (some ⟨b5q, 0, none⟩) n0 n0] 30)
  generalize hx : World.alloc _ (.cells [.int .i64 W0, .int .i64 H0, .slice (some ⟨b5q, 0, none⟩) n0 n0].toArray 30) = v5 at HS6
  have hy : World.alloc _ (.cells #[.int .i64 W0, .int .i64 H0, .slice (some ⟨b5q, 0, none⟩) n0 n0] 30) = v5 := hx
  clear hx HS5
  obtain ⟨i0, i1, i2⟩ := HS6.out.im3 2 rfl
  go_wp2_with fail
  refine (cT1 _ (HP1.out.below HS6.out.below)).mono ?_
  rintro e v6 ⟨b6q, rfl, h2, -, hr, hb⟩
  have HS7 := hide (HS6.out.own hb hr.v (.inr h2))
  clear HS6 hb hr h2 i0 i1 i2
  have HS8 := hide (HS7.out.box [.int .i64 W1, .int .i64 H1, .slice (some ⟨b6q, 0, none⟩) n1 n1] 30)
  generalize hx : World.alloc _ (.cells [.int .i64 W1, .int .i64 H1, .slice (some ⟨b6q, 0, none⟩) n1 n1].toArray 30) = v7 at HS8
  have hy : World.alloc _ (.cells #[.int .i64 W1, .int .i64 H1, .slice (some ⟨b6q, 0, none⟩) n1 n1] 30) = v7 := hx
  clear hx HS7
  obtain ⟨i0, i1, i2⟩ := HS8.out.im3 2 rfl
  go_wp2_with fail
  refine (cT2 _ (HP2.out.below HS8.out.below)).mono ?_
  rintro e v8 ⟨b7q, rfl, h2, -, hr, hb⟩
  have HS9 := hide (HS8.out.own hb hr.v (.inr h2))
  clear HS8 hb hr h2 i0 i1 i2
  have HS10 := hide (HS9.out.box [.int .i64 W2, .int .i64 H2, .slice (some ⟨b7q, 0, none⟩) n2 n2] 30)
  generalize hx : World.alloc _ (.cells [.int .i64 W2, .int .i64 H2, .slice (some ⟨b7q, 0, none⟩) n2 n2].toArray 30) = v9 at HS10
  have hy : World.alloc _ (.cells #[.int .i64 W2, .int .i64 H2, .slice (some ⟨b7q, 0, none⟩) n2 n2] 30) = v9 := hx
  clear hx HS9
  obtain ⟨i0, i1, i2⟩ := HS10.out.im3 2 rfl
  obtain ⟨j0, j1, j2⟩ := HS10.out.im3 1 rfl
  obtain ⟨k0, k1, k2⟩ := HS10.out.im3 0 rfl
  have p0 := (HS10.out.nthO 2 rfl).px
  have p1 := (HS10.out.nthO 1 rfl).px
  have p2 := (HS10.out.nthO 0 rfl).px
  go_wp2_with fail
  refine (cI _ _ _ _ p0 p1 p2).mono ?_
  rintro e v10 ⟨rfl, hb⟩
  have HS11 := hide (HS10.out.next hb)
  clear HS10 hb p0 p1 p2 i0 i1 i2 j0 j1 j2 k0 k1 k2
  have SKa : Hid (_ ∧ _ ∧ _ ∧ _ ∧ _ ∧ _) := ⟨HS11.out.cell 5 rfl 0 rfl, HS11.out.cell 5 rfl 1 rfl, HS11.out.cell 5 rfl 2 rfl, HS11.out.cell 2 rfl 0 rfl, HS11.out.cell 2 rfl 1 rfl, HS11.out.cell 2 rfl 2 rfl⟩
  go_upto_region 18 with fail
  go_region_held3 (fun (w' : World) => w'.cell? ⟨w.heap.size, 0, none⟩ = some (.int .i64 W0) ∧ w'.cell? ⟨w.heap.size, 1, none⟩ = some (.int .i64 H0) ∧ w'.cell? ⟨w.heap.size, 2, none⟩ = some (.slice a0 n0 cap0) ∧ w'.cell? ⟨v4.heap.size, 0, none⟩ = some (.int .i64 W0) ∧ w'.cell? ⟨v4.heap.size, 1, none⟩ = some (.int .i64 H0) ∧ w'.cell? ⟨v4.heap.size, 2, none⟩ = some (.slice (some ⟨b5q, 0, none⟩) n0 n0))
    (first | exact SKc.out | exact SKb.out | exact SKa.out)
    (first
      | (go_at_call 38; (with_reducible refine (cT0 _ (HP0.out.below HS11.out.drew.below)).mono ?_); rintro e wq ⟨b3, rfl, -, -, hr, hb⟩; have HQ := hide (HS11.out.drew.next hb); have SKb : Hid (_ ∧ _ ∧ _ ∧ _ ∧ _ ∧ _) := ⟨HQ.out.cell 5 rfl 0 rfl, HQ.out.cell 5 rfl 1 rfl, HQ.out.cell 5 rfl 2 rfl, HQ.out.cell 2 rfl 0 rfl, HQ.out.cell 2 rfl 1 rfl, HQ.out.cell 2 rfl 2 rfl⟩)
      | (go_at_call 41; (with_reducible refine (cA0 _ _ _ (HQ.out.nthO 2 rfl).px hr.px).mono ?_); rintro e wp ⟨rfl, hb11⟩; have HS12 := hide (HQ.out.next hb11); have SKc : Hid (_ ∧ _ ∧ _ ∧ _ ∧ _ ∧ _) := ⟨HS12.out.cell 5 rfl 0 rfl, HS12.out.cell 5 rfl 1 rfl, HS12.out.cell 5 rfl 2 rfl, HS12.out.cell 2 rfl 0 rfl, HS12.out.cell 2 rfl 1 rfl, HS12.out.cell 2 rfl 2 rfl⟩))
  clear hb hr hb11 HQ HS11 SKa SKb SKc
  have SKa : Hid (_ ∧ _ ∧ _ ∧ _ ∧ _ ∧ _) := ⟨HS12.out.cell 4 rfl 0 rfl, HS12.out.cell 4 rfl 1 rfl, HS12.out.cell 4 rfl 2 rfl, HS12.out.cell 1 rfl 0 rfl, HS12.out.cell 1 rfl 1 rfl, HS12.out.cell 1 rfl 2 rfl⟩
  go_upto_region 20 with fail
  go_region_held3 (fun (w' : World) => w'.cell? ⟨w.heap.size + 1, 0, none⟩ = some (.int .i64 W1) ∧ w'.cell? ⟨w.heap.size + 1, 1, none⟩ = some (.int .i64 H1) ∧ w'.cell? ⟨w.heap.size + 1, 2, none⟩ = some (.slice a1 n1 cap1) ∧ w'.cell? ⟨v6.heap.size, 0, none⟩ = some (.int .i64 W1) ∧ w'.cell? ⟨v6.heap.size, 1, none⟩ = some (.int .i64 H1) ∧ w'.cell? ⟨v6.heap.size, 2, none⟩ = some (.slice (some ⟨b6q, 0, none⟩) n1 n1))
    (first | exact SKc.out | exact SKb.out | exact SKa.out)
    (first
      | (go_at_call 38; (with_reducible refine (cT1 _ (HP1.out.below HS12.out.drew.below)).mono ?_); rintro e wq ⟨b3, rfl, -, -, hr, hb⟩; have HQ := hide (HS12.out.drew.next hb); have SKb : Hid (_ ∧ _ ∧ _ ∧ _ ∧ _ ∧ _) := ⟨HQ.out.cell 4 rfl 0 rfl, HQ.out.cell 4 rfl 1 rfl, HQ.out.cell 4 rfl 2 rfl, HQ.out.cell 1 rfl 0 rfl, HQ.out.cell 1 rfl 1 rfl, HQ.out.cell 1 rfl 2 rfl⟩)
      | (go_at_call 41; (with_reducible refine (cA1 _ _ _ (HQ.out.nthO 1 rfl).px hr.px).mono ?_); rintro e wp ⟨rfl, hb11⟩; have HS13 := hide (HQ.out.next hb11); have SKc : Hid (_ ∧ _ ∧ _ ∧ _ ∧ _ ∧ _) := ⟨HS13.out.cell 4 rfl 0 rfl, HS13.out.cell 4 rfl 1 rfl, HS13.out.cell 4 rfl 2 rfl, HS13.out.cell 1 rfl 0 rfl, HS13.out.cell 1 rfl 1 rfl, HS13.out.cell 1 rfl 2 rfl⟩))
  clear hb hr hb11 HQ HS12 SKa SKb SKc
  have SKa : Hid (_ ∧ _ ∧ _ ∧ _ ∧ _ ∧ _) := ⟨HS13.out.cell 3 rfl 0 rfl, HS13.out.cell 3 rfl 1 rfl, HS13.out.cell 3 rfl 2 rfl, HS13.out.cell 0 rfl 0 rfl, HS13.out.cell 0 rfl 1 rfl, HS13.out.cell 0 rfl 2 rfl⟩
  go_upto_region 22 with fail
  go_region_held3 (fun (w' : World) => w'.cell? ⟨w.heap.size + 2, 0, none⟩ = some (.int .i64 W2) ∧ w'.cell? ⟨w.heap.size + 2, 1, none⟩ = some (.int .i64 H2) ∧ w'.cell? ⟨w.heap.size + 2, 2, none⟩ = some (.slice a2 n2 cap2) ∧ w'.cell? ⟨v8.heap.size, 0, none⟩ = some (.int .i64 W2) ∧ w'.cell? ⟨v8.heap.size, 1, none⟩ = some (.int .i64 H2) ∧ w'.cell? ⟨v8.heap.size, 2, none⟩ = some (.slice (some ⟨b7q, 0, none⟩) n2 n2))
    (first | exact SKc.out | exact SKb.out | exact SKa.out)
    (first
      | (go_at_call 38; (with_reducible refine (cT2 _ (HP2.out.below HS13.out.drew.below)).mono ?_); rintro e wq ⟨b3, rfl, -, -, hr, hb⟩; have HQ := hide (HS13.out.drew.next hb); have SKb : Hid (_ ∧ _ ∧ _ ∧ _ ∧ _ ∧ _) := ⟨HQ.out.cell 3 rfl 0 rfl, HQ.out.cell 3 rfl 1 rfl, HQ.out.cell 3 rfl 2 rfl, HQ.out.cell 0 rfl 0 rfl, HQ.out.cell 0 rfl 1 rfl, HQ.out.cell 0 rfl 2 rfl⟩)
      | (go_at_call 41; (with_reducible refine (cA2 _ _ _ (HQ.out.nthO 0 rfl).px hr.px).mono ?_); rintro e wp ⟨rfl, hb11⟩; have HS14 := hide (HQ.out.next hb11); have SKc : Hid (_ ∧ _ ∧ _ ∧ _ ∧ _ ∧ _) := ⟨HS14.out.cell 3 rfl 0 rfl, HS14.out.cell 3 rfl 1 rfl, HS14.out.cell 3 rfl 2 rfl, HS14.out.cell 0 rfl 0 rfl, HS14.out.cell 0 rfl 1 rfl, HS14.out.cell 0 rfl 2 rfl⟩))
  clear hb hr hb11 HQ HS13 SKa SKb SKc
  have HB := hide HS14.out.below
  clear HS14
  go_wp2_with fail
  go_ret
  exact ⟨rfl, HB.out⟩

end Go.Proofs.Ytgkjndhobijdiaa
