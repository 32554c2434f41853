/- The law on Label, walked. -/
import Derived.Test.YtfaponkmmiiehaaLbj
import Derived.Test.YtfaponkmmiiehaaLbi
import Derived.Test.YtfaponkmmiiehaaHom
namespace Go.Proofs.Ytfaponkmmiiehaa
open Go.RowKit

set_option maxRecDepth 100000 in
set_option maxHeartbeats 4000000 in
theorem fnExactLabel_walk (W0 H0 : Int) (a0 : Option Addr) (n0 cap0 : Nat) (f0 : Nat → Int) (hl0 : n0 ≤ maxLen) (w : World) (h0 : Px a0 (n0) f0 w) :
    Calls Try.prog 4 #[im W0 H0 a0 n0 cap0] w fun e w' => e = .returned (.bool true) ∧ Below w.heap.size w w' := by
  unfold maxLen at hl0
  have HS0 := hide ((St.start w).box [.int .i64 W0, .int .i64 H0, .slice a0 n0 cap0] 30)
  have HP0 := hide h0
  clear h0
  have hz0 := szImage_any W0 H0 a0 n0 cap0 (1048576) (by omega) (by omega) (by omega)
  by_cases hb0 : (1048576 : Int) < n0
  · rw [if_pos hb0] at hz0
    clear hb0 hl0
    go_enter Try.func4, Try.ntmps4
    go_wp2_with fail
    refine (hz0 _).mono ?_
    rintro e wz0 ⟨rfl, hb⟩
    have HZ0 := hide (HS0.out.next hb)
    clear hb
    have HB := hide HZ0.out.below
    go_wp2_with fail
    go_ret
    exact ⟨rfl, HB.out⟩
  rw [if_neg hb0] at hz0
  have hn0 : ¬ (1048576 - (n0 : Int) : Int) < 0 := by omega
  have hL0 : n0 ≤ 1048576 := by omega
  have hN : n0 ≤ 1048576 := by omega
  have cT0 := fun w' h => toImage_any W0 H0 a0 n0 cap0 f0 hL0 w' h
  have cA0 := fun b b' w' h h' => eqImage_any W0 H0 (some ⟨b, 0, none⟩) (some ⟨b', 0, none⟩) n0 n0 n0 f0 hL0 w' h h'
  have cS := fun b0 w' h0 => specLabel_any W0 H0 b0 n0 n0 f0 hL0 w' h0
  have cI := fun b0 w' h0 => implLabel_any W0 H0 b0 n0 n0 f0 hL0 w' h0
  have hrn : pickN (maskB W0 H0 n0 f0) n0 ≤ 1048576 := Nat.le_trans (pickN_le _ _) hL0
  have cM0 := fun a' b => markImage_any W0 H0 a' b n0 n0 f0 (1) (by omega) (by omega) hL0
  have qm : ¬ 1 + (n0 : Int) < 0 := by omega
  generalize pickI (maskB W0 H0 n0 f0) W0 = rW at *
  generalize pickI (maskB W0 H0 n0 f0) H0 = rH at *
  generalize pickN (maskB W0 H0 n0 f0) n0 = rN at *
  generalize labV W0 H0 n0 f0 = s at *
  clear hl0 hN
  have cE := fun x y c1 c2 w' h h' => eqImage_any rW rH x y rN c1 c2 s hrn w' h h'
  have cN := fun x b c1 => markImage_any rW rH x b rN c1 s 1 (by omega) (by omega) hrn
  have cH := fun x b c1 => heldImage_any rW rH x b rN c1 1 (by omega) (by omega) hrn
  have q0 : ¬ 1 + (rN : Int) < 0 := by omega
  have q1 : (1 + (rN : Int) != 1 + (rN : Int)) = false := by simp
  go_enter Try.func4, Try.ntmps4
  go_wp2_with fail
  refine (hz0 _).mono ?_
  rintro e v1 ⟨rfl, hb⟩
  have HS1 := hide (HS0.out.next hb)
  clear HS0 hb hz0
  obtain ⟨i0, i1, i2⟩ := HS1.out.im3 0 rfl
  go_wp2_with fail
  refine (cT0 _ (HP0.out.below HS1.out.below)).mono ?_
  rintro e v2 ⟨b1q, rfl, h2, -, hr, hb⟩
  have HS2 := hide (HS1.out.own hb hr.v (.inr h2))
  clear HS1 hb hr h2 i0 i1 i2
  have p0 := (HS2.out.nthO 0 rfl).px
  go_wp2_with fail
  refine (cS _ _ p0).mono ?_
  rintro e v3 ⟨ra2, rc2, rb2, rfl, ho, h1, hb⟩
  have HS3 := hide (HS2.out.own hb ho.v h1)
  clear HS2 hb ho h1 p0  cS
  have HS4 := hide (HS3.out.box [.int .i64 rW, .int .i64 rH, .slice ra2 rN rc2] 26)
  generalize hx : World.alloc _ (.cells [.int .i64 rW, .int .i64 rH, .slice ra2 rN rc2].toArray 26) = v4 at HS4
  have hy : World.alloc _ (.cells #[.int .i64 rW, .int .i64 rH, .slice ra2 rN rc2] 26) = v4 := hx
  clear hx HS3
  obtain ⟨i0, i1, i2⟩ := HS4.out.im3 1 rfl
  go_wp2_with fail
  refine (cT0 _ (HP0.out.below HS4.out.below)).mono ?_
  rintro e v5 ⟨b3q, rfl, h2, -, hr, hb⟩
  have HS5 := hide (HS4.out.own hb hr.v (.inr h2))
  clear HS4 hb hr h2 i0 i1 i2
  have HS6 := hide (HS5.out.box [.int .i64 W0, .int .i64 H0, .slice (some ⟨b3q, 0, none⟩) n0 n0] 26)
  generalize hx : World.alloc _ (.cells [.int .i64 W0, .int .i64 H0, .slice (some ⟨b3q, 0, none⟩) n0 n0].toArray 26) = v6 at HS6
  have hy : World.alloc _ (.cells #[.int .i64 W0, .int .i64 H0, .slice (some ⟨b3q, 0, none⟩) n0 n0] 26) = v6 := hx
  clear hx HS5
  obtain ⟨i0, i1, i2⟩ := HS6.out.im3 0 rfl
  have p0 := (HS6.out.nthO 0 rfl).px
  go_wp2_with fail
  refine (cI _ _ p0).mono ?_
  rintro e v7 ⟨ra4, rc4, rb4, rfl, ho, h1, hb⟩
  have HS7 := hide (HS6.out.own hb ho.v h1)
  clear HS6 hb ho h1 p0 i0 i1 i2
  have HS8 := hide (HS7.out.box [.int .i64 rW, .int .i64 rH, .slice ra4 rN rc4] 26)
  generalize hx : World.alloc _ (.cells [.int .i64 rW, .int .i64 rH, .slice ra4 rN rc4].toArray 26) = v8 at HS8
  have hy : World.alloc _ (.cells #[.int .i64 rW, .int .i64 rH, .slice ra4 rN rc4] 26) = v8 := hx
  clear hx HS7
  obtain ⟨i0, i1, i2⟩ := HS8.out.im3 0 rfl
  obtain ⟨j0, j1, j2⟩ := HS8.out.im3 2 rfl
  have pA := (HS8.out.nthO 0 rfl).px
  have pB := (HS8.out.nthO 2 rfl).px
  go_wp2_with fail
  refine (cE _ _ _ _ _ pA pB).mono ?_
  rintro e v9 ⟨rfl, hb⟩
  have HS9 := hide (HS8.out.next hb)
  clear HS8 hb pA pB i0 i1 i2 j0 j1 j2
  obtain ⟨i0, i1, i2⟩ := HS9.out.im3 3 rfl
  obtain ⟨j0, j1, j2⟩ := HS9.out.im3 1 rfl
  go_upto_region 10 with fail
  go_region_with (first
    | (go_at_call 12; (with_reducible refine (cT0 _ (HP0.out.below HS9.out.drew.below)).mono ?_); rintro e wq ⟨b3, rfl, -, -, hr, hb⟩; have HQ := hide (HS9.out.drew.next hb); obtain ⟨k0, k1, k2⟩ := HQ.out.im3 1 rfl)
    | (go_at_call 13; (with_reducible refine (cA0 _ _ _ (HQ.out.nthO 1 rfl).px hr.px).mono ?_); rintro e wp ⟨rfl, hb11⟩))
  all_goals
    have HS10 := hide (HQ.out.next hb11)
    clear hb hr hb11 HQ HS9 k0 k1 k2 i0 i1 i2 j0 j1 j2
    obtain ⟨i0, i1, i2⟩ := HS10.out.im3 1 rfl
    go_wp2_with fail
    refine (cM0 _ _ _ (HS10.out.nthO 1 rfl).bk.i).mono ?_
    rintro e v10 ⟨rfl, ho, hk⟩
    have HS11 := hide (HS10.out.mark (O1 := [_]) hk ho.v)
    clear HS10 hk ho cM0 i0 i1 i2
    obtain ⟨i0, i1, i2⟩ := HS11.out.im3 0 rfl
    obtain ⟨j0, j1, j2⟩ := HS11.out.im3 2 rfl
    have pA := (HS11.out.nthO 0 rfl).px
    have pB := (HS11.out.nthO 2 rfl).px
    go_wp2_with fail
    refine (cE _ _ _ _ _ pA pB).mono ?_
    rintro e v11 ⟨rfl, hb⟩
    have HS12 := hide (HS11.out.next hb)
    clear HS11 hb pA pB i0 i1 i2 j0 j1 j2
    obtain ⟨i0, i1, i2⟩ := HS12.out.im3 0 rfl
    go_wp2_with fail
    refine (cN _ _ _ _ (HS12.out.nthO 0 rfl).bk.i).mono ?_
    rintro e v12 ⟨rfl, ho, hk⟩
    have HS13 := hide (HS12.out.mark (O1 := []) hk ho.v)
    clear HS12 hk ho i0 i1 i2
    obtain ⟨i0, i1, i2⟩ := HS13.out.im3 0 rfl
    go_wp2_with fail
    refine (cH _ _ _ _ (HS13.out.nthO 0 rfl).i).mono ?_
    rintro e v13 ⟨rfl, hb⟩
    have HS14 := hide (HS13.out.next hb)
    clear HS13 hb i0 i1 i2
    obtain ⟨i0, i1, i2⟩ := HS14.out.im3 3 rfl
    go_wp2_with fail
    refine (cT0 _ (HP0.out.below HS14.out.below)).mono ?_
    rintro e v14 ⟨b5q, rfl, h2, -, hr, hb⟩
    have HS15 := hide (HS14.out.own hb hr.v (.inr h2))
    clear HS14 hb hr h2 i0 i1 i2
    have p0 := (HS15.out.nthO 0 rfl).px
    go_wp2_with fail
    refine (cI _ _ p0).mono ?_
    rintro e v15 ⟨ra6, rc6, rb6, rfl, ho, h1, hb⟩
    have HS16 := hide (HS15.out.own hb ho.v h1)
    clear HS15 hb ho h1 p0  cI
    have HS17 := hide (HS16.out.box [.int .i64 rW, .int .i64 rH, .slice ra6 rN rc6] 26)
    generalize hx : World.alloc _ (.cells [.int .i64 rW, .int .i64 rH, .slice ra6 rN rc6].toArray 26) = v16 at HS17
    have hy : World.alloc _ (.cells #[.int .i64 rW, .int .i64 rH, .slice ra6 rN rc6] 26) = v16 := hx
    clear hx HS16
    obtain ⟨i0, i1, i2⟩ := HS17.out.im3 0 rfl
    obtain ⟨j0, j1, j2⟩ := HS17.out.im3 3 rfl
    have pA := (HS17.out.nthO 0 rfl).px
    have pB := (HS17.out.nthO 4 rfl).px
    go_wp2_with fail
    refine (cE _ _ _ _ _ pA pB).mono ?_
    rintro e v17 ⟨rfl, hb⟩
    have HS18 := hide (HS17.out.next hb)
    clear HS17 hb pA pB i0 i1 i2 j0 j1 j2
    obtain ⟨i0, i1, i2⟩ := HS18.out.im3 1 rfl
    go_wp2_with fail
    refine (cH _ _ _ _ (HS18.out.nthO 2 rfl).i).mono ?_
    rintro e v18 ⟨rfl, hb⟩
    have HS19 := hide (HS18.out.next hb)
    clear HS18 hb i0 i1 i2
    have HB := hide HS19.out.below
    clear HS19
    go_wp2_with fail
    go_ret
    exact ⟨rfl, HB.out⟩

end Go.Proofs.Ytfaponkmmiiehaa
