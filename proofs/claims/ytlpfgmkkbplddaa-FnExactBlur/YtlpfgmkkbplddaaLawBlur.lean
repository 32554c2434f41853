/- The law on Blur, walked. -/
import Derived.Test.YtlpfgmkkbplddaaBls8
namespace Go.Proofs.Ytlpfgmkkbplddaa
open Go.RowKit

set_option maxRecDepth 100000 in
set_option maxHeartbeats 4000000 in
theorem fnExactBlur_walk (W0 H0 : Int) (a0 : Option Addr) (n0 cap0 : Nat) (f0 : Nat → Int) (hl0 : n0 ≤ maxLen) (a1 : Option Addr) (n1 cap1 : Nat) (f1 : Nat → Int) (hl1 : n1 ≤ maxLen) (x2 : Int) (w : World) (h0 : Px a0 (n0) f0 w) (h1 : Px a1 (n1) f1 w) :
    Calls Try.prog 13 #[im W0 H0 a0 n0 cap0, .slice a1 n1 cap1, .int .i64 x2] w fun e w' => e = .returned (.bool true) ∧ Below w.heap.size w w' := by
  unfold maxLen at hl0 hl1
  have HS0 := hide ((St.start w).box [.int .i64 W0, .int .i64 H0, .slice a0 n0 cap0] 44)
  have HP0 := hide h0
  have HP1 := hide h1
  clear h0 h1
  by_cases hb1 : (1048576 : Int) < n1
  · have HB := hide HS0.out.below
    clear hl0 hl1
    go_enter Try.func13, Try.ntmps13
    go_wp2_with fail
    go_ret
    exact ⟨rfl, HB.out⟩
  have hz0 := szImage_any W0 H0 a0 n0 cap0 (1048576) (by omega) (by omega) (by omega)
  by_cases hb0 : (1048576 : Int) < n0
  · rw [if_pos hb0] at hz0
    clear hb0 hl0 hl1
    go_enter Try.func13, Try.ntmps13
    go_wp2_with fail
    refine (hz0 _).mono ?_
    rintro e wz0 ⟨rfl, hb⟩
    have HZ0 := hide (HS0.out.next hb)
    clear hb
    have HB := hide HZ0.out.below
    go_wp2_with fail
    go_ret
    exact ⟨rfl, HB.out⟩
  rw [if_neg hb0] at hz0
  have hn0 : ¬ (1048576 - (n0 : Int) : Int) < 0 := by omega
  have hL0 : n0 ≤ 1048576 := by omega
  have hL1 : n1 ≤ 1048576 := by omega
  have hN : n0 ≤ 1048576 := by omega
  have cT0 := fun w' h => toImage_any W0 H0 a0 n0 cap0 f0 hL0 w' h
  have cA0 := fun b b' w' h h' => eqImage_any W0 H0 (some ⟨b, 0, none⟩) (some ⟨b', 0, none⟩) n0 n0 n0 f0 hL0 w' h h'
  have cT1 := fun w' h => toInts_any a1 n1 cap1 f1 hL1 w' h
  have cA1 := fun a1 a2 => eqInts_b a1 a2 n1 n1 n1 f1 hL1
  have cS := fun b0 b1 w' h0 h1 => specBlur_law W0 H0 b0 n0 n0 f0 hL0 b1 n1 n1 f1 hL1 x2 w' h0 h1
  have cI := fun b0 b1 w' h0 h1 => implBlur_any W0 H0 b0 n0 n0 f0 hL0 b1 n1 n1 f1 hL1 x2 w' h0 h1
  unfold ImR at cS cI
  have hrn : pickN (bluB W0 H0 n0 f0 n1 f1 x2) n0 ≤ 1048576 := Nat.le_trans (pickN_le _ _) hL0
  have cM0 := fun a' b => markImage_any W0 H0 a' b n0 n0 f0 (1) (by omega) (by omega) hL0
  have cM1 := fun a' b => mark_any a' b n1 n1 f1 (1 + (n0 : Int)) (by omega) (by omega) hL1
  have qm : ¬ 1 + (n0 : Int) + (n1 : Int) < 0 := by omega
  generalize pickI (bluB W0 H0 n0 f0 n1 f1 x2) W0 = rW at *
  generalize pickI (bluB W0 H0 n0 f0 n1 f1 x2) H0 = rH at *
  generalize pickN (bluB W0 H0 n0 f0 n1 f1 x2) n0 = rN at *
  generalize bluS W0 H0 f0 f1 x2.toNat = s at *
  clear hl0 hl1 hN
  have cE := fun x y c1 c2 w' h h' => eqImage_any rW rH x y rN c1 c2 s hrn w' h h'
  have cN := fun x b c1 => markImage_any rW rH x b rN c1 s 1 (by omega) (by omega) hrn
  have cH := fun x b c1 => heldImage_any rW rH x b rN c1 1 (by omega) (by omega) hrn
  have q0 : ¬ 1 + (rN : Int) < 0 := by omega
  have q1 : (1 + (rN : Int) != 1 + (rN : Int)) = false := by simp
  go_enter Try.func13, Try.ntmps13
  go_wp2_with fail
  refine (hz0 _).mono ?_
  rintro e v1 ⟨rfl, hb⟩
  have HS1 := hide (HS0.out.next hb)
  clear HS0 hb hz0
  obtain ⟨i0, i1, i2⟩ := HS1.out.im3 0 rfl
  go_wp2_with fail
  refine (cT0 _ (HP0.out.below HS1.out.below)).mono ?_
  rintro e v2 ⟨b1q, rfl, h2, -, hr, hb⟩
  have HS2 := hide (HS1.out.own hb hr.v (.inr h2))
  clear HS1 hb hr h2 i0 i1 i2
  go_wp2_with fail
  refine (cT1 _ (HP1.out.below HS2.out.below)).mono ?_
  rintro e v3 ⟨rfl, hr, hb, -⟩
  have HS3 := hide (HS2.out.own hb hr.v (.inr (Nat.le_refl _)))
  clear HS2 hb hr
  have p0 := (HS3.out.nthO 1 rfl).px
  have p1 := (HS3.out.nthO 0 rfl).px
  go_wp2_with fail
  refine (cS _ _ _ p0 p1).mono ?_
  rintro e v4 ⟨ra3, rc3, rb3, rfl, ho, h1, hb⟩
  have HS4 := hide (HS3.out.own hb ho.v h1)
  clear HS3 hb ho h1 p0 p1  cS
  have HS5 := hide (HS4.out.box [.int .i64 rW, .int .i64 rH, .slice ra3 rN rc3] 26)
  generalize hx : World.alloc _ (.cells [.int .i64 rW, .int .i64 rH, .slice ra3 rN rc3].toArray 26) = v5 at HS5
  have hy : World.alloc _ (.cells #[.int .i64 rW, .int .i64 rH, .slice ra3 rN rc3] 26) = v5 := hx
  clear hx HS4
  obtain ⟨i0, i1, i2⟩ := HS5.out.im3 1 rfl
  go_wp2_with fail
  refine (cT0 _ (HP0.out.below HS5.out.below)).mono ?_
  rintro e v6 ⟨b4q, rfl, h2, -, hr, hb⟩
  have HS6 := hide (HS5.out.own hb hr.v (.inr h2))
  clear HS5 hb hr h2 i0 i1 i2
  have HS7 := hide (HS6.out.box [.int .i64 W0, .int .i64 H0, .slice (some ⟨b4q, 0, none⟩) n0 n0] 26)
  generalize hx : World.alloc _ (.cells [.int .i64 W0, .int .i64 H0, .slice (some ⟨b4q, 0, none⟩) n0 n0].toArray 26) = v7 at HS7
  have hy : World.alloc _ (.cells #[.int .i64 W0, .int .i64 H0, .slice (some ⟨b4q, 0, none⟩) n0 n0] 26) = v7 := hx
  clear hx HS6
  go_wp2_with fail
  refine (cT1 _ (HP1.out.below HS7.out.below)).mono ?_
  rintro e v8 ⟨rfl, hr, hb, -⟩
  have HS8 := hide (HS7.out.own hb hr.v (.inr (Nat.le_refl _)))
  clear HS7 hb hr
  obtain ⟨i0, i1, i2⟩ := HS8.out.im3 0 rfl
  have p0 := (HS8.out.nthO 1 rfl).px
  have p1 := (HS8.out.nthO 0 rfl).px
  go_wp2_with fail
  refine (cI _ _ _ p0 p1).mono ?_
  rintro e v9 ⟨ra6, rc6, rb6, rfl, ho, h1, hb⟩
  have HS9 := hide (HS8.out.own hb ho.v h1)
  clear HS8 hb ho h1 p0 p1 i0 i1 i2
  have HS10 := hide (HS9.out.box [.int .i64 rW, .int .i64 rH, .slice ra6 rN rc6] 26)
  generalize hx : World.alloc _ (.cells [.int .i64 rW, .int .i64 rH, .slice ra6 rN rc6].toArray 26) = v10 at HS10
  have hy : World.alloc _ (.cells #[.int .i64 rW, .int .i64 rH, .slice ra6 rN rc6] 26) = v10 := hx
  clear hx HS9
  obtain ⟨i0, i1, i2⟩ := HS10.out.im3 0 rfl
  obtain ⟨j0, j1, j2⟩ := HS10.out.im3 2 rfl
  have pA := (HS10.out.nthO 0 rfl).px
  have pB := (HS10.out.nthO 3 rfl).px
  go_wp2_with fail
  refine (cE _ _ _ _ _ pA pB).mono ?_
  rintro e v11 ⟨rfl, hb⟩
  have HS11 := hide (HS10.out.next hb)
  clear HS10 hb pA pB i0 i1 i2 j0 j1 j2
  obtain ⟨i0, i1, i2⟩ := HS11.out.im3 3 rfl
  obtain ⟨j0, j1, j2⟩ := HS11.out.im3 1 rfl
  go_upto_region 13 with fail
  go_region_with (first
    | (go_at_call 34; (with_reducible refine (cT0 _ (HP0.out.below HS11.out.drew.below)).mono ?_); rintro e wq ⟨b3, rfl, -, -, hr, hb⟩; have HQ := hide (HS11.out.drew.next hb); obtain ⟨k0, k1, k2⟩ := HQ.out.im3 1 rfl)
    | (go_at_call 35; (with_reducible refine (cA0 _ _ _ (HQ.out.nthO 2 rfl).px hr.px).mono ?_); rintro e wp ⟨rfl, hb11⟩))
  all_goals
    have HS12 := hide (HQ.out.next hb11)
    clear hb hr hb11 HQ HS11 k0 k1 k2 i0 i1 i2 j0 j1 j2
    go_wp2_with fail
    refine (cT1 _ (HP1.out.below HS12.out.below)).mono ?_
    rintro e v12 ⟨rfl, hr, hb, -⟩
    have pB := hr.px
    have HS13 := hide (HS12.out.next hb)
    clear HS12 hb hr
    have pA := (HS13.out.nthO 1 rfl).px
    go_wp2_with fail
    refine (cA1 _ _ _ pA pB).mono ?_
    rintro e v13 ⟨rfl, hb⟩
    have HS14 := hide (HS13.out.next hb)
    clear HS13 hb pA pB
    obtain ⟨i0, i1, i2⟩ := HS14.out.im3 1 rfl
    go_wp2_with fail
    refine (cM0 _ _ _ (HS14.out.nthO 2 rfl).bk.i).mono ?_
    rintro e v14 ⟨rfl, ho, hk⟩
    have HS15 := hide (HS14.out.mark (O1 := [_, _]) hk ho.v)
    clear HS14 hk ho cM0 i0 i1 i2
    go_wp2_with fail
    refine (cM1 _ _ _ (HS15.out.nthO 1 rfl).bk.i).mono ?_
    rintro e v15 ⟨rfl, ho, hk, -⟩
    have HS16 := hide (HS15.out.mark (O1 := [_]) hk ho.v)
    clear HS15 hk ho cM1
    obtain ⟨i0, i1, i2⟩ := HS16.out.im3 0 rfl
    obtain ⟨j0, j1, j2⟩ := HS16.out.im3 2 rfl
    have pA := (HS16.out.nthO 0 rfl).px
    have pB := (HS16.out.nthO 3 rfl).px
    go_wp2_with fail
    refine (cE _ _ _ _ _ pA pB).mono ?_
    rintro e v16 ⟨rfl, hb⟩
    have HS17 := hide (HS16.out.next hb)
    clear HS16 hb pA pB i0 i1 i2 j0 j1 j2
    obtain ⟨i0, i1, i2⟩ := HS17.out.im3 0 rfl
    go_wp2_with fail
    refine (cN _ _ _ _ (HS17.out.nthO 0 rfl).bk.i).mono ?_
    rintro e v17 ⟨rfl, ho, hk⟩
    have HS18 := hide (HS17.out.mark (O1 := []) hk ho.v)
    clear HS17 hk ho i0 i1 i2
    obtain ⟨i0, i1, i2⟩ := HS18.out.im3 0 rfl
    go_wp2_with fail
    refine (cH _ _ _ _ (HS18.out.nthO 0 rfl).i).mono ?_
    rintro e v18 ⟨rfl, hb⟩
    have HS19 := hide (HS18.out.next hb)
    clear HS18 hb i0 i1 i2
    obtain ⟨i0, i1, i2⟩ := HS19.out.im3 3 rfl
    go_wp2_with fail
    refine (cT0 _ (HP0.out.below HS19.out.below)).mono ?_
    rintro e v19 ⟨b7q, rfl, h2, -, hr, hb⟩
    have HS20 := hide (HS19.out.own hb hr.v (.inr h2))
    clear HS19 hb hr h2 i0 i1 i2
    go_wp2_with fail
    refine (cT1 _ (HP1.out.below HS20.out.below)).mono ?_
    rintro e v20 ⟨rfl, hr, hb, -⟩
    have HS21 := hide (HS20.out.own hb hr.v (.inr (Nat.le_refl _)))
    clear HS20 hb hr
    have p0 := (HS21.out.nthO 1 rfl).px
    have p1 := (HS21.out.nthO 0 rfl).px
    go_wp2_with fail
    refine (cI _ _ _ p0 p1).mono ?_
    rintro e v21 ⟨ra9, rc9, rb9, rfl, ho, h1, hb⟩
    have HS22 := hide (HS21.out.own hb ho.v h1)
    clear HS21 hb ho h1 p0 p1  cI
    have HS23 := hide (HS22.out.box [.int .i64 rW, .int .i64 rH, .slice ra9 rN rc9] 26)
    generalize hx : World.alloc _ (.cells [.int .i64 rW, .int .i64 rH, .slice ra9 rN rc9].toArray 26) = v22 at HS23
    have hy : World.alloc _ (.cells #[.int .i64 rW, .int .i64 rH, .slice ra9 rN rc9] 26) = v22 := hx
    clear hx HS22
    obtain ⟨i0, i1, i2⟩ := HS23.out.im3 0 rfl
    obtain ⟨j0, j1, j2⟩ := HS23.out.im3 3 rfl
    have pA := (HS23.out.nthO 0 rfl).px
    have pB := (HS23.out.nthO 6 rfl).px
    go_wp2_with fail
    refine (cE _ _ _ _ _ pA pB).mono ?_
    rintro e v23 ⟨rfl, hb⟩
    have HS24 := hide (HS23.out.next hb)
    clear HS23 hb pA pB i0 i1 i2 j0 j1 j2
    obtain ⟨i0, i1, i2⟩ := HS24.out.im3 1 rfl
    go_wp2_with fail
    refine (cH _ _ _ _ (HS24.out.nthO 3 rfl).i).mono ?_
    rintro e v24 ⟨rfl, hb⟩
    have HS25 := hide (HS24.out.next hb)
    clear HS24 hb i0 i1 i2
    have HB := hide HS25.out.below
    clear HS25
    go_wp2_with fail
    go_ret
    exact ⟨rfl, HB.out⟩

end Go.Proofs.Ytlpfgmkkbplddaa
