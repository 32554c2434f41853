/- The law on JointCounts, walked. -/
import Derived.Test.YtfpcenaaenondaaJcs
import Derived.Test.YtfpcenaaenondaaJcj
import Derived.Test.YtfpcenaaenondaaJnm
import Derived.Test.YtfpcenaaenondaaHom
import Derived.Deep.RegionHeld3
import Derived.Deep.DrawnRows
namespace Go.Proofs.Ytfpcenaaenondaa
open Go.RowKit

set_option maxRecDepth 100000 in
set_option maxHeartbeats 4000000 in
theorem fnExactJointCounts_walk (W0 H0 : Int) (a0 : Option Addr) (n0 cap0 : Nat) (f0 : Nat → Int) (hl0 : n0 ≤ maxLen) (W1 H1 : Int) (a1 : Option Addr) (n1 cap1 : Nat) (f1 : Nat → Int) (hl1 : n1 ≤ maxLen) (w : World) (h0 : Px a0 (n0) f0 w) (h1 : Px a1 (n1) f1 w) :
    Calls Try.prog 3 #[im W0 H0 a0 n0 cap0, im W1 H1 a1 n1 cap1] w fun e w' => e = .returned (.bool true) ∧ Below w.heap.size w w' := by
  unfold maxLen at hl0 hl1
  have HS0 := hide (((St.start w).box [.int .i64 W0, .int .i64 H0, .slice a0 n0 cap0] 24).box' [.int .i64 W1, .int .i64 H1, .slice a1 n1 cap1] 24 (b := w.heap.size + 1) (by simp))
  have HP0 := hide h0
  have HP1 := hide h1
  clear h0 h1
  have hz0 := szImage_any W0 H0 a0 n0 cap0 (1048576) (by omega) (by omega) (by omega)
  by_cases hb0 : (1048576 : Int) < n0
  · rw [if_pos hb0] at hz0
    clear hb0 hl0 hl1
    go_enter Try.func3, Try.ntmps3
    go_wp2_with fail
    refine (hz0 _).mono ?_
    rintro e wz0 ⟨rfl, hb⟩
    have HZ0 := hide (HS0.out.next hb)
    clear hb
    have HB := hide HZ0.out.below
    go_wp2_with fail
    go_ret
    exact ⟨rfl, HB.out⟩
  rw [if_neg hb0] at hz0
  have hn0 : ¬ (1048576 - (n0 : Int) : Int) < 0 := by omega
  have hz1 := szImage_any W1 H1 a1 n1 cap1 (1048576 - (n0 : Int)) (by omega) (by omega) (by omega)
  by_cases hb1 : (1048576 - (n0 : Int) : Int) < n1
  · rw [if_pos hb1] at hz1
    clear hb1 hl0 hl1
    go_enter Try.func3, Try.ntmps3
    go_wp2_with fail
    refine (hz0 _).mono ?_
    rintro e wz0 ⟨rfl, hb⟩
    have HZ0 := hide (HS0.out.next hb)
    clear hb
    obtain ⟨i0, i1, i2⟩ := HZ0.out.im3 0 rfl
    go_wp2_with fail
    refine (hz1 _).mono ?_
    rintro e wz1 ⟨rfl, hb⟩
    have HZ1 := hide (HZ0.out.next hb)
    clear hb
    have HB := hide HZ1.out.below
    go_wp2_with fail
    go_ret
    exact ⟨rfl, HB.out⟩
  rw [if_neg hb1] at hz1
  have hn1 : ¬ (1048576 - (n0 : Int) - (n1 : Int) : Int) < 0 := by omega
  have hL0 : n0 ≤ 1048576 := by omega
  have hL1 : n1 ≤ 1048576 := by omega
  have hN : n0 + n1 ≤ 1048576 := by omega
  have cT0 := fun w' h => toImage_any W0 H0 a0 n0 cap0 f0 hL0 w' h
  have cA0 := fun b b' w' h h' => eqImage_any W0 H0 (some ⟨b, 0, none⟩) (some ⟨b', 0, none⟩) n0 n0 n0 f0 hL0 w' h h'
  have cT1 := fun w' h => toImage_any W1 H1 a1 n1 cap1 f1 hL1 w' h
  have cA1 := fun b b' w' h h' => eqImage_any W1 H1 (some ⟨b, 0, none⟩) (some ⟨b', 0, none⟩) n1 n1 n1 f1 hL1 w' h h'
  have cS := fun b0 b1 w' h0 h1 => specJointCounts_any W0 H0 b0 n0 n0 f0 hL0 W1 H1 b1 n1 n1 f1 hL1 w' h0 h1
  have cI := fun b0 b1 w' h0 h1 => implJointCounts_any W0 H0 b0 n0 n0 f0 hL0 W1 H1 b1 n1 n1 f1 hL1 w' h0 h1
  unfold JlR at cS cI
  have hrn : (jcL (jcB W0 H0 n0 f0 W1 H1 n1 f1) f0 f1 n0).length ≤ 1048576 := Nat.le_trans jcL_len hL0
  have cM0 := fun a' b => markImage_any W0 H0 a' b n0 n0 f0 (1) (by omega) (by omega) hL0
  have cM1 := fun a' b => markImage_any W1 H1 a' b n1 n1 f1 (1 + (n0 : Int)) (by omega) (by omega) hL1
  have qm : ¬ 1 + (n0 : Int) + (n1 : Int) < 0 := by omega
  generalize (jcL (jcB W0 H0 n0 f0 W1 H1 n1 f1) f0 f1 n0).length = rN at *
  generalize jlF (jcL (jcB W0 H0 n0 f0 W1 H1 n1 f1) f0 f1 n0) = s at *
  clear hl0 hl1 hN
  have cE := fun a1 a2 c1 c2 => eqJointS_any a1 a2 rN c1 c2 s hrn
  have cN := fun a' b c1 => markJointS_any a' b rN c1 s hrn
  have cH := fun a' b c1 => heldJointS_any a' b rN c1 hrn
  have q0 : ¬ 1 + 3 * (rN : Int) < 0 := by omega
  have q1 : (1 + 3 * (rN : Int) != 1 + 3 * (rN : Int)) = false := by simp
  go_enter Try.func3, Try.ntmps3
  go_wp2_with fail
  refine (hz0 _).mono ?_
  rintro e v1 ⟨rfl, hb⟩
  have HS1 := hide (HS0.out.next hb)
  clear HS0 hb hz0
  obtain ⟨i0, i1, i2⟩ := HS1.out.im3 0 rfl
  go_wp2_with fail
  refine (hz1 _).mono ?_
  rintro e v2 ⟨rfl, hb⟩
  have HS2 := hide (HS1.out.next hb)
  clear HS1 hb hz1 i0 i1 i2
  obtain ⟨i0, i1, i2⟩ := HS2.out.im3 1 rfl
  obtain ⟨j0, j1, j2⟩ := HS2.out.im3 0 rfl
  have SKa := hide (And.intro i0 (And.intro i1 (And.intro i2 (And.intro j0 (And.intro j1 (j2))))))
  go_upto_region 8 with fail
  go_region_held3 (fun (w' : World) => w'.cell? ⟨w.heap.size, 0, none⟩ = some (.int .i64 W0) ∧ w'.cell? ⟨w.heap.size, 1, none⟩ = some (.int .i64 H0) ∧ w'.cell? ⟨w.heap.size, 2, none⟩ = some (.slice a0 n0 cap0) ∧ w'.cell? ⟨w.heap.size + 1, 0, none⟩ = some (.int .i64 W1) ∧ w'.cell? ⟨w.heap.size + 1, 1, none⟩ = some (.int .i64 H1) ∧ w'.cell? ⟨w.heap.size + 1, 2, none⟩ = some (.slice a1 n1 cap1))
    (first | exact SKa.out | exact SK0 | exact SK1 | exact SK2)
    (first
      | (go_at_call 6; (with_reducible refine (cT0 _ (HP0.out.below HS2.out.drew.below)).mono ?_); rintro e wq0 ⟨b1q, rfl, h2_0, -, hr_0, hb_0⟩; have HQ0 := hide (HS2.out.drew.own hb_0 hr_0.v (.inr h2_0)); obtain ⟨y0_0_0, y0_0_1, y0_0_2⟩ := HQ0.out.im3 1 rfl; obtain ⟨y0_1_0, y0_1_1, y0_1_2⟩ := HQ0.out.im3 0 rfl; have SK0 := And.intro y0_0_0 (And.intro y0_0_1 (And.intro y0_0_2 (And.intro y0_1_0 (And.intro y0_1_1 (y0_1_2))))))
      | (go_at_call 6; (with_reducible refine (cT1 _ (HP1.out.below HQ0.out.below)).mono ?_); rintro e wq1 ⟨b2q, rfl, h2_1, -, hr_1, hb_1⟩; have HQ1 := hide (HQ0.out.own hb_1 hr_1.v (.inr h2_1)); obtain ⟨y1_0_0, y1_0_1, y1_0_2⟩ := HQ1.out.im3 1 rfl; obtain ⟨y1_1_0, y1_1_1, y1_1_2⟩ := HQ1.out.im3 0 rfl; have SK1 := And.intro y1_0_0 (And.intro y1_0_1 (And.intro y1_0_2 (And.intro y1_1_0 (And.intro y1_1_1 (y1_1_2))))))
      | (go_at_call 5; (with_reducible refine (cS _ _ _ (HQ1.out.nthO 1 rfl).px (HQ1.out.nthO 0 rfl).px).mono ?_); rintro e wq2 ⟨ra3, rc3, rb3, rfl, ho, h1, hb⟩; have HQ2 := hide (HQ1.out.own hb ho.v h1); obtain ⟨y2_0_0, y2_0_1, y2_0_2⟩ := HQ2.out.im3 1 rfl; obtain ⟨y2_1_0, y2_1_1, y2_1_2⟩ := HQ2.out.im3 0 rfl; have SK2 := And.intro y2_0_0 (And.intro y2_0_1 (And.intro y2_0_2 (And.intro y2_1_0 (And.intro y2_1_1 (y2_1_2)))))))
  have HS3 := hide HQ2.out
  clear SKa h2_0 hr_0 hb_0 y0_0_0 y0_0_1 y0_0_2 y0_1_0 y0_1_1 y0_1_2 SK0 h2_1 hr_1 hb_1 y1_0_0 y1_0_1 y1_0_2 y1_1_0 y1_1_1 y1_1_2 SK1 y2_0_0 y2_0_1 y2_0_2 y2_1_0 y2_1_1 y2_1_2 SK2 ho h1 hb HQ0 HQ1 HQ2 HS2 cS i0 i1 i2 j0 j1 j2
  obtain ⟨i0, i1, i2⟩ := HS3.out.im3 1 rfl
  go_wp2_with fail
  refine (cT0 _ (HP0.out.below HS3.out.below)).mono ?_
  rintro e v3 ⟨b4q, rfl, h2, -, hr, hb⟩
  have HS4 := hide (HS3.out.own hb hr.v (.inr h2))
  clear HS3 hb hr h2 i0 i1 i2
  have HS5 := hide (HS4.out.box [.int .i64 W0, .int .i64 H0, .slice (some ⟨b4q, 0, none⟩) n0 n0] 28)
  generalize hx : World.alloc _ (.cells [.int .i64 W0, .int .i64 H0, .slice (some ⟨b4q, 0, none⟩) n0 n0].toArray 28) = v4 at HS5
  have hy : World.alloc _ (.cells #[.int .i64 W0, .int .i64 H0, .slice (some ⟨b4q, 0, none⟩) n0 n0] 28) = v4 := hx
  clear hx HS4
  obtain ⟨i0, i1, i2⟩ := HS5.out.im3 1 rfl
  go_wp2_with fail
  refine (cT1 _ (HP1.out.below HS5.out.below)).mono ?_
  rintro e v5 ⟨b5q, rfl, h2, -, hr, hb⟩
  have HS6 := hide (HS5.out.own hb hr.v (.inr h2))
  clear HS5 hb hr h2 i0 i1 i2
  have HS7 := hide (HS6.out.box [.int .i64 W1, .int .i64 H1, .slice (some ⟨b5q, 0, none⟩) n1 n1] 28)
  generalize hx : World.alloc _ (.cells [.int .i64 W1, .int .i64 H1, .slice (some ⟨b5q, 0, none⟩) n1 n1].toArray 28) = v6 at HS7
  have hy : World.alloc _ (.cells #[.int .i64 W1, .int .i64 H1, .slice (some ⟨b5q, 0, none⟩) n1 n1] 28) = v6 := hx
  clear hx HS6
  obtain ⟨i0, i1, i2⟩ := HS7.out.im3 1 rfl
  obtain ⟨j0, j1, j2⟩ := HS7.out.im3 0 rfl
  have p0 := (HS7.out.nthO 1 rfl).px
  have p1 := (HS7.out.nthO 0 rfl).px
  go_wp2_with fail
  refine (cI _ _ _ p0 p1).mono ?_
  rintro e v7 ⟨ra6, rc6, rb6, rfl, ho, h1, hb⟩
  have HS8 := hide (HS7.out.own hb ho.v h1)
  clear HS7 hb ho h1 p0 p1 i0 i1 i2 j0 j1 j2
  have pA := (HS8.out.nthO 0 rfl).px
  have pB := (HS8.out.nthO 3 rfl).px
  go_wp2_with fail
  refine (cE _ _ _ _ _ pA pB).mono ?_
  rintro e v8 ⟨rfl, hb⟩
  have HS9 := hide (HS8.out.next hb)
  clear HS8 hb pA pB
  obtain ⟨i0, i1, i2⟩ := HS9.out.im3 3 rfl
  obtain ⟨j0, j1, j2⟩ := HS9.out.im3 1 rfl
  go_upto_region 14 with fail
  go_region_with (first
    | (go_at_call 6; (with_reducible refine (cT0 _ (HP0.out.below HS9.out.drew.below)).mono ?_); rintro e wq ⟨b3, rfl, -, -, hr, hb⟩; have HQ := hide (HS9.out.drew.next hb); obtain ⟨k0, k1, k2⟩ := HQ.out.im3 1 rfl)
    | (go_at_call 9; (with_reducible refine (cA0 _ _ _ (HQ.out.nthO 2 rfl).px hr.px).mono ?_); rintro e wp ⟨rfl, hb11⟩))
  all_goals
    have HS10 := hide (HQ.out.next hb11)
    clear hb hr hb11 HQ HS9 k0 k1 k2 i0 i1 i2 j0 j1 j2
    obtain ⟨i0, i1, i2⟩ := HS10.out.im3 2 rfl
    obtain ⟨j0, j1, j2⟩ := HS10.out.im3 0 rfl
    go_upto_region 16 with fail
    go_region_with (first
      | (go_at_call 6; (with_reducible refine (cT1 _ (HP1.out.below HS10.out.drew.below)).mono ?_); rintro e wq ⟨b3, rfl, -, -, hr, hb⟩; have HQ := hide (HS10.out.drew.next hb); obtain ⟨k0, k1, k2⟩ := HQ.out.im3 0 rfl)
      | (go_at_call 9; (with_reducible refine (cA1 _ _ _ (HQ.out.nthO 1 rfl).px hr.px).mono ?_); rintro e wp ⟨rfl, hb11⟩))
    all_goals
      have HS11 := hide (HQ.out.next hb11)
      clear hb hr hb11 HQ HS10 k0 k1 k2 i0 i1 i2 j0 j1 j2
      obtain ⟨i0, i1, i2⟩ := HS11.out.im3 1 rfl
      go_wp2_with fail
      refine (cM0 _ _ _ (HS11.out.nthO 2 rfl).bk.i).mono ?_
      rintro e v9 ⟨rfl, ho, hk⟩
      have HS12 := hide (HS11.out.mark (O1 := [_, _]) hk ho.v)
      clear HS11 hk ho cM0 i0 i1 i2
      obtain ⟨i0, i1, i2⟩ := HS12.out.im3 0 rfl
      go_wp2_with fail
      refine (cM1 _ _ _ (HS12.out.nthO 1 rfl).bk.i).mono ?_
      rintro e v10 ⟨rfl, ho, hk⟩
      have HS13 := hide (HS12.out.mark (O1 := [_]) hk ho.v)
      clear HS12 hk ho cM1 i0 i1 i2
      have pA := (HS13.out.nthO 0 rfl).px
      have pB := (HS13.out.nthO 3 rfl).px
      go_wp2_with fail
      refine (cE _ _ _ _ _ pA pB).mono ?_
      rintro e v11 ⟨rfl, hb⟩
      have HS14 := hide (HS13.out.next hb)
      clear HS13 hb pA pB
      go_wp2_with fail
      refine (cN _ _ _ _ (HS14.out.nthO 0 rfl).bk.i).mono ?_
      rintro e v12 ⟨rfl, ho, hk⟩
      have HS15 := hide (HS14.out.mark (O1 := []) hk ho.v)
      clear HS14 hk ho
      go_wp2_with fail
      refine (cH _ _ _ _ (HS15.out.nthO 0 rfl).i).mono ?_
      rintro e v13 ⟨rfl, rfl⟩
      obtain ⟨i0, i1, i2⟩ := HS15.out.im3 3 rfl
      obtain ⟨j0, j1, j2⟩ := HS15.out.im3 2 rfl
      have SKa := hide (And.intro i0 (And.intro i1 (And.intro i2 (And.intro j0 (And.intro j1 (j2))))))
      go_upto_region 31 with fail
      go_region_held3 (fun (w' : World) => w'.cell? ⟨w.heap.size, 0, none⟩ = some (.int .i64 W0) ∧ w'.cell? ⟨w.heap.size, 1, none⟩ = some (.int .i64 H0) ∧ w'.cell? ⟨w.heap.size, 2, none⟩ = some (.slice a0 n0 cap0) ∧ w'.cell? ⟨w.heap.size + 1, 0, none⟩ = some (.int .i64 W1) ∧ w'.cell? ⟨w.heap.size + 1, 1, none⟩ = some (.int .i64 H1) ∧ w'.cell? ⟨w.heap.size + 1, 2, none⟩ = some (.slice a1 n1 cap1))
        (first | exact SKa.out | exact SK0 | exact SK1 | exact SK2)
        (first
          | (go_at_call 6; (with_reducible refine (cT0 _ (HP0.out.below HS15.out.drew.below)).mono ?_); rintro e wq0 ⟨b7q, rfl, h2_0, -, hr_0, hb_0⟩; have HQ0 := hide (HS15.out.drew.own hb_0 hr_0.v (.inr h2_0)); obtain ⟨y0_0_0, y0_0_1, y0_0_2⟩ := HQ0.out.im3 3 rfl; obtain ⟨y0_1_0, y0_1_1, y0_1_2⟩ := HQ0.out.im3 2 rfl; have SK0 := And.intro y0_0_0 (And.intro y0_0_1 (And.intro y0_0_2 (And.intro y0_1_0 (And.intro y0_1_1 (y0_1_2))))))
          | (go_at_call 6; (with_reducible refine (cT1 _ (HP1.out.below HQ0.out.below)).mono ?_); rintro e wq1 ⟨b8q, rfl, h2_1, -, hr_1, hb_1⟩; have HQ1 := hide (HQ0.out.own hb_1 hr_1.v (.inr h2_1)); obtain ⟨y1_0_0, y1_0_1, y1_0_2⟩ := HQ1.out.im3 3 rfl; obtain ⟨y1_1_0, y1_1_1, y1_1_2⟩ := HQ1.out.im3 2 rfl; have SK1 := And.intro y1_0_0 (And.intro y1_0_1 (And.intro y1_0_2 (And.intro y1_1_0 (And.intro y1_1_1 (y1_1_2))))))
          | (go_at_call 7; (with_reducible refine (cI _ _ _ (HQ1.out.nthO 1 rfl).px (HQ1.out.nthO 0 rfl).px).mono ?_); rintro e wq2 ⟨ra9, rc9, rb9, rfl, ho, h1, hb⟩; have HQ2 := hide (HQ1.out.own hb ho.v h1); obtain ⟨y2_0_0, y2_0_1, y2_0_2⟩ := HQ2.out.im3 3 rfl; obtain ⟨y2_1_0, y2_1_1, y2_1_2⟩ := HQ2.out.im3 2 rfl; have SK2 := And.intro y2_0_0 (And.intro y2_0_1 (And.intro y2_0_2 (And.intro y2_1_0 (And.intro y2_1_1 (y2_1_2)))))))
      have HS18 := hide HQ2.out
      clear SKa h2_0 hr_0 hb_0 y0_0_0 y0_0_1 y0_0_2 y0_1_0 y0_1_1 y0_1_2 SK0 h2_1 hr_1 hb_1 y1_0_0 y1_0_1 y1_0_2 y1_1_0 y1_1_1 y1_1_2 SK1 y2_0_0 y2_0_1 y2_0_2 y2_1_0 y2_1_1 y2_1_2 SK2 ho h1 hb HQ0 HQ1 HQ2 HS15 cI i0 i1 i2 j0 j1 j2
      have pA := (HS18.out.nthO 0 rfl).px
      have pB := (HS18.out.nthO 6 rfl).px
      go_wp2_with fail
      refine (cE _ _ _ _ _ pA pB).mono ?_
      rintro e v17 ⟨rfl, hb⟩
      have HS19 := hide (HS18.out.next hb)
      clear HS18 hb pA pB
      go_wp2_with fail
      refine (cH _ _ _ _ (HS19.out.nthO 3 rfl).i).mono ?_
      rintro e v18 ⟨rfl, rfl⟩
      have HB := hide HS19.out.below
      clear HS19
      go_wp2_with fail
      go_ret
      exact ⟨rfl, HB.out⟩

end Go.Proofs.Ytfpcenaaenondaa
