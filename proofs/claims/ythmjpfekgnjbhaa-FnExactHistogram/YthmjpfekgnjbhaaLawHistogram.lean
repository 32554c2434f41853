/- The law on Histogram, walked. -/
import Derived.Test.YthmjpfekgnjbhaaHgs
import Derived.Test.YthmjpfekgnjbhaaHgi
import Derived.Test.YthmjpfekgnjbhaaHom
namespace Go.Proofs.Ythmjpfekgnjbhaa
open Go.RowKit

set_option maxRecDepth 100000 in
set_option maxHeartbeats 4000000 in
theorem fnExactHistogram_walk (W0 H0 : Int) (a0 : Option Addr) (n0 cap0 : Nat) (f0 : Nat → Int) (hl0 : n0 ≤ maxLen) (w : World) (h0 : Px a0 (n0) f0 w) :
    Calls Try.prog 3 #[im W0 H0 a0 n0 cap0] w fun e w' => e = .returned (.bool true) ∧ Below w.heap.size w w' := by
  unfold maxLen at hl0
  have HS0 := hide ((St.start w).box [.int .i64 W0, .int .i64 H0, .slice a0 n0 cap0] 24)
  have HP0 := hide h0
  clear h0
  have hz0 := szImage_any W0 H0 a0 n0 cap0 (1048576) (by omega) (by omega) (by omega)
  by_cases hb0 : (1048576 : Int) < n0
  · rw [if_pos hb0] at hz0
    clear hb0 hl0
    go_enter Try.func3, Try.ntmps3
    go_wp2_with fail
    refine (hz0 _).mono ?_
    rintro e wz0 ⟨rfl, hb⟩
    have HZ0 := hide (HS0.out.next hb)
    clear hb
    have HB := hide HZ0.out.below
    go_wp2_with fail
    go_ret
    exact ⟨rfl, HB.out⟩
  rw [if_neg hb0] at hz0
  have hn0 : ¬ (1048576 - (n0 : Int) : Int) < 0 := by omega
  have hL0 : n0 ≤ 1048576 := by omega
  have hN : n0 ≤ 1048576 := by omega
  have cT0 := fun w' h => toImage_any W0 H0 a0 n0 cap0 f0 hL0 w' h
  have cA0 := fun b b' w' h h' => eqImage_any W0 H0 (some ⟨b, 0, none⟩) (some ⟨b', 0, none⟩) n0 n0 n0 f0 hL0 w' h h'
  have cS := fun b0 w' h0 => specHistogram_any W0 H0 b0 n0 n0 f0 hL0 w' h0
  have cI := fun b0 w' h0 => implHistogram_any W0 H0 b0 n0 n0 f0 hL0 w' h0
  unfold LsR at cS cI
  have hrn : hgN W0 H0 n0 f0 ≤ 1048576 := hgN_le _ _ _ _
  have cM0 := fun a' b => markImage_any W0 H0 a' b n0 n0 f0 (1) (by omega) (by omega) hL0
  have qm : ¬ 1 + (n0 : Int) < 0 := by omega
  generalize hgN W0 H0 n0 f0 = rN at *
  generalize hst f0 n0 = s at *
  clear hl0 hN
  have cE := fun a1 a2 c1 c2 => eqInts_b a1 a2 rN c1 c2 s hrn
  have cN := fun a' b c1 => mark_any a' b rN c1 s 1 (by omega) (by omega) hrn
  have cH := fun a' b c1 => held_any a' b rN c1 1 (by omega) (by omega) hrn
  have q0 : ¬ 1 + (rN : Int) < 0 := by omega
  have q1 : (1 + (rN : Int) != 1 + (rN : Int)) = false := by simp
  go_enter Try.func3, Try.ntmps3
  go_wp2_with fail
  refine (hz0 _).mono ?_
  rintro e v1 ⟨rfl, hb⟩
  have HS1 := hide (HS0.out.next hb)
  clear HS0 hb hz0
  obtain ⟨i0, i1, i2⟩ := HS1.out.im3 0 rfl
  go_wp2_with fail
  refine (cT0 _ (HP0.out.below HS1.out.below)).mono ?_
  rintro e v2 ⟨b1q, rfl, h2, -, hr, hb⟩
  have HS2 := hide (HS1.out.own hb hr.v (.inr h2))
  clear HS1 hb hr h2 i0 i1 i2
  have p0 := (HS2.out.nthO 0 rfl).px
  go_wp2_with fail
  refine (cS _ _ p0).mono ?_
  rintro e v3 ⟨ra2, rc2, rb2, rfl, ho, h1, hb⟩
  have HS3 := hide (HS2.out.own hb ho.v h1)
  clear HS2 hb ho h1 p0  cS
  obtain ⟨i0, i1, i2⟩ := HS3.out.im3 0 rfl
  go_wp2_with fail
  refine (cT0 _ (HP0.out.below HS3.out.below)).mono ?_
  rintro e v4 ⟨b3q, rfl, h2, -, hr, hb⟩
  have HS4 := hide (HS3.out.own hb hr.v (.inr h2))
  clear HS3 hb hr h2 i0 i1 i2
  have HS5 := hide (HS4.out.box [.int .i64 W0, .int .i64 H0, .slice (some ⟨b3q, 0, none⟩) n0 n0] 27)
  generalize hx : World.alloc _ (.cells [.int .i64 W0, .int .i64 H0, .slice (some ⟨b3q, 0, none⟩) n0 n0].toArray 27) = v5 at HS5
  have hy : World.alloc _ (.cells #[.int .i64 W0, .int .i64 H0, .slice (some ⟨b3q, 0, none⟩) n0 n0] 27) = v5 := hx
  clear hx HS4
  obtain ⟨i0, i1, i2⟩ := HS5.out.im3 0 rfl
  have p0 := (HS5.out.nthO 0 rfl).px
  go_wp2_with fail
  refine (cI _ _ p0).mono ?_
  rintro e v6 ⟨ra4, rc4, rb4, rfl, ho, h1, hb⟩
  have HS6 := hide (HS5.out.own hb ho.v h1)
  clear HS5 hb ho h1 p0 i0 i1 i2
  have pA := (HS6.out.nthO 0 rfl).px
  have pB := (HS6.out.nthO 2 rfl).px
  go_wp2_with fail
  refine (cE _ _ _ _ _ pA pB).mono ?_
  rintro e v7 ⟨rfl, hb⟩
  have HS7 := hide (HS6.out.next hb)
  clear HS6 hb pA pB
  obtain ⟨i0, i1, i2⟩ := HS7.out.im3 1 rfl
  obtain ⟨j0, j1, j2⟩ := HS7.out.im3 0 rfl
  go_upto_region 10 with fail
  go_region_with (first
    | (go_at_call 6; (with_reducible refine (cT0 _ (HP0.out.below HS7.out.drew.below)).mono ?_); rintro e wq ⟨b3, rfl, -, -, hr, hb⟩; have HQ := hide (HS7.out.drew.next hb); obtain ⟨k0, k1, k2⟩ := HQ.out.im3 0 rfl)
    | (go_at_call 9; (with_reducible refine (cA0 _ _ _ (HQ.out.nthO 1 rfl).px hr.px).mono ?_); rintro e wp ⟨rfl, hb11⟩))
  all_goals
    have HS8 := hide (HQ.out.next hb11)
    clear hb hr hb11 HQ HS7 k0 k1 k2 i0 i1 i2 j0 j1 j2
    obtain ⟨i0, i1, i2⟩ := HS8.out.im3 0 rfl
    go_wp2_with fail
    refine (cM0 _ _ _ (HS8.out.nthO 1 rfl).bk.i).mono ?_
    rintro e v8 ⟨rfl, ho, hk⟩
    have HS9 := hide (HS8.out.mark (O1 := [_]) hk ho.v)
    clear HS8 hk ho cM0 i0 i1 i2
    have pA := (HS9.out.nthO 0 rfl).px
    have pB := (HS9.out.nthO 2 rfl).px
    go_wp2_with fail
    refine (cE _ _ _ _ _ pA pB).mono ?_
    rintro e v9 ⟨rfl, hb⟩
    have HS10 := hide (HS9.out.next hb)
    clear HS9 hb pA pB
    go_wp2_with fail
    refine (cN _ _ _ _ (HS10.out.nthO 0 rfl).bk.i).mono ?_
    rintro e v10 ⟨rfl, ho, hk, -⟩
    have HS11 := hide (HS10.out.mark (O1 := []) hk ho.v)
    clear HS10 hk ho
    go_wp2_with fail
    refine (cH _ _ _ _ (HS11.out.nthO 0 rfl).i).mono ?_
    rintro e v11 ⟨rfl, rfl⟩
    obtain ⟨i0, i1, i2⟩ := HS11.out.im3 1 rfl
    go_wp2_with fail
    refine (cT0 _ (HP0.out.below HS11.out.below)).mono ?_
    rintro e v12 ⟨b5q, rfl, h2, -, hr, hb⟩
    have HS12 := hide (HS11.out.own hb hr.v (.inr h2))
    clear HS11 hb hr h2 i0 i1 i2
    have p0 := (HS12.out.nthO 0 rfl).px
    go_wp2_with fail
    refine (cI _ _ p0).mono ?_
    rintro e v13 ⟨ra6, rc6, rb6, rfl, ho, h1, hb⟩
    have HS13 := hide (HS12.out.own hb ho.v h1)
    clear HS12 hb ho h1 p0  cI
    have pA := (HS13.out.nthO 0 rfl).px
    have pB := (HS13.out.nthO 4 rfl).px
    go_wp2_with fail
    refine (cE _ _ _ _ _ pA pB).mono ?_
    rintro e v14 ⟨rfl, hb⟩
    have HS14 := hide (HS13.out.next hb)
    clear HS13 hb pA pB
    go_wp2_with fail
    refine (cH _ _ _ _ (HS14.out.nthO 2 rfl).i).mono ?_
    rintro e v15 ⟨rfl, rfl⟩
    have HB := hide HS14.out.below
    clear HS14
    go_wp2_with fail
    go_ret
    exact ⟨rfl, HB.out⟩

end Go.Proofs.Ythmjpfekgnjbhaa
