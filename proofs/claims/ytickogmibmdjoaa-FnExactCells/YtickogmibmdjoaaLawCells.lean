/- The law on Cells, walked. -/
import Derived.Test.YtickogmibmdjoaaWdc
import Derived.Test.YtickogmibmdjoaaPtm
import Derived.Test.YtickogmibmdjoaaHom
namespace Go.Proofs.Ytickogmibmdjoaa
open Go.RowKit

set_option maxRecDepth 100000 in
set_option maxHeartbeats 4000000 in
theorem fnExactCells_walk (a0 : Option Addr) (n0 cap0 : Nat) (f0 : Nat → Int) (hl0 : n0 ≤ maxLen) (w : World) (h0 : Px a0 (n0 * 4) f0 w) :
    Calls Try.prog 3 #[.slice a0 n0 cap0] w fun e w' => e = .returned (.bool true) ∧ Below w.heap.size w w' := by
  unfold maxLen at hl0
  have HS0 := hide (St.start w)
  have HP0 := hide h0
  clear h0
  have hz0 := szPatientS_any a0 n0 cap0 (1048576) (by omega) (by omega) (by omega)
  by_cases hb0 : (1048576 : Int) < n0
  · rw [if_pos hb0] at hz0
    clear hb0 hl0
    go_enter Try.func3, Try.ntmps3
    go_wp2_with fail
    refine (hz0 _).mono ?_
    rintro e wz0 ⟨rfl, rfl⟩
    have HB := hide HS0.out.below
    go_wp2_with fail
    go_ret
    exact ⟨rfl, HB.out⟩
  rw [if_neg hb0] at hz0
  have hn0 : ¬ (1048576 - (n0 : Int) : Int) < 0 := by omega
  have hL0 : n0 ≤ 1048576 := by omega
  have hN : n0 ≤ 1048576 := by omega
  have cT0 := fun w' h => toPatientS_any a0 n0 cap0 f0 hL0 w' h
  have cA0 := fun a1 a2 => eqPatientS_any a1 a2 n0 n0 n0 f0 hL0
  have cS := fun b0 w' h0 => specCells_any b0 n0 n0 f0 hL0 w' h0
  have cI := fun b0 w' h0 => implCells_any b0 n0 n0 f0 hL0 w' h0
  unfold LsR at cS cI
  have hrn : ceN f0 n0 ≤ 1048576 := ceN_le _ _
  have cM0 := fun a' b => markPatientK_any a' b n0 n0 f0 hL0 (1) (by omega) (by omega)
  have qm : ¬ 1 + 4 * (n0 : Int) < 0 := by omega
  generalize ceN f0 n0 = rN at *
  generalize clN f0 n0 = s at *
  clear hl0 hN
  have cE := fun a1 a2 c1 c2 => eqInts_b a1 a2 rN c1 c2 s hrn
  have cN := fun a' b c1 => mark_any a' b rN c1 s 1 (by omega) (by omega) hrn
  have cH := fun a' b c1 => held_any a' b rN c1 1 (by omega) (by omega) hrn
  have q0 : ¬ 1 + (rN : Int) < 0 := by omega
  have q1 : (1 + (rN : Int) != 1 + (rN : Int)) = false := by simp
  go_enter Try.func3, Try.ntmps3
  go_wp2_with fail
  refine (hz0 _).mono ?_
  rintro e v1 ⟨rfl, rfl⟩
  clear hz0
  go_wp2_with fail
  refine (cT0 _ (HP0.out.below HS0.out.below)).mono ?_
  rintro e v2 ⟨rfl, hr, hb, -⟩
  have HS1 := hide (HS0.out.own hb hr.v (.inr (Nat.le_refl _)))
  clear HS0 hb hr
  have p0 := (HS1.out.nthO 0 rfl).px
  go_wp2_with fail
  refine (cS _ _ p0).mono ?_
  rintro e v3 ⟨ra2, rc2, rb2, rfl, ho, h1, hb⟩
  have HS2 := hide (HS1.out.own hb ho.v h1)
  clear HS1 hb ho h1 p0  cS
  go_wp2_with fail
  refine (cT0 _ (HP0.out.below HS2.out.below)).mono ?_
  rintro e v4 ⟨rfl, hr, hb, -⟩
  have HS3 := hide (HS2.out.own hb hr.v (.inr (Nat.le_refl _)))
  clear HS2 hb hr
  have p0 := (HS3.out.nthO 0 rfl).px
  go_wp2_with fail
  refine (cI _ _ p0).mono ?_
  rintro e v5 ⟨ra4, rc4, rb4, rfl, ho, h1, hb⟩
  have HS4 := hide (HS3.out.own hb ho.v h1)
  clear HS3 hb ho h1 p0
  have pA := (HS4.out.nthO 0 rfl).px
  have pB := (HS4.out.nthO 2 rfl).px
  go_wp2_with fail
  refine (cE _ _ _ _ _ pA pB).mono ?_
  rintro e v6 ⟨rfl, hb⟩
  have HS5 := hide (HS4.out.next hb)
  clear HS4 hb pA pB
  go_wp2_with fail
  refine (cT0 _ (HP0.out.below HS5.out.below)).mono ?_
  rintro e v7 ⟨rfl, hr, hb, -⟩
  have pB := hr.px
  have HS6 := hide (HS5.out.next hb)
  clear HS5 hb hr
  have pA := (HS6.out.nthO 1 rfl).px
  go_wp2_with fail
  refine (cA0 _ _ _ pA pB).mono ?_
  rintro e v8 ⟨rfl, hb⟩
  have HS7 := hide (HS6.out.next hb)
  clear HS6 hb pA pB
  go_wp2_with fail
  refine (cM0 _ _ _ (HS7.out.nthO 1 rfl).bk.i).mono ?_
  rintro e v9 ⟨rfl, ho, hk⟩
  have HS8 := hide (HS7.out.mark (O1 := [_]) hk ho.v)
  clear HS7 hk ho cM0
  have pA := (HS8.out.nthO 0 rfl).px
  have pB := (HS8.out.nthO 2 rfl).px
  go_wp2_with fail
  refine (cE _ _ _ _ _ pA pB).mono ?_
  rintro e v10 ⟨rfl, hb⟩
  have HS9 := hide (HS8.out.next hb)
  clear HS8 hb pA pB
  go_wp2_with fail
  refine (cN _ _ _ _ (HS9.out.nthO 0 rfl).bk.i).mono ?_
  rintro e v11 ⟨rfl, ho, hk, -⟩
  have HS10 := hide (HS9.out.mark (O1 := []) hk ho.v)
  clear HS9 hk ho
  go_wp2_with fail
  refine (cH _ _ _ _ (HS10.out.nthO 0 rfl).i).mono ?_
  rintro e v12 ⟨rfl, rfl⟩
  go_wp2_with fail
  refine (cT0 _ (HP0.out.below HS10.out.below)).mono ?_
  rintro e v13 ⟨rfl, hr, hb, -⟩
  have HS11 := hide (HS10.out.own hb hr.v (.inr (Nat.le_refl _)))
  clear HS10 hb hr
  have p0 := (HS11.out.nthO 0 rfl).px
  go_wp2_with fail
  refine (cI _ _ p0).mono ?_
  rintro e v14 ⟨ra6, rc6, rb6, rfl, ho, h1, hb⟩
  have HS12 := hide (HS11.out.own hb ho.v h1)
  clear HS11 hb ho h1 p0  cI
  have pA := (HS12.out.nthO 0 rfl).px
  have pB := (HS12.out.nthO 4 rfl).px
  go_wp2_with fail
  refine (cE _ _ _ _ _ pA pB).mono ?_
  rintro e v15 ⟨rfl, hb⟩
  have HS13 := hide (HS12.out.next hb)
  clear HS12 hb pA pB
  go_wp2_with fail
  refine (cH _ _ _ _ (HS13.out.nthO 2 rfl).i).mono ?_
  rintro e v16 ⟨rfl, rfl⟩
  have HB := hide HS13.out.below
  clear HS13
  go_wp2_with fail
  go_ret
  exact ⟨rfl, HB.out⟩

end Go.Proofs.Ytickogmibmdjoaa
