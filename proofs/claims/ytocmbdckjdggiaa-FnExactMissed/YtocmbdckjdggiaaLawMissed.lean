/- The law on Missed, walked. -/
import Derived.Test.YtocmbdckjdggiaaMds
import Derived.Test.YtocmbdckjdggiaaGlm
import Derived.Test.YtocmbdckjdggiaaHom
namespace Go.Proofs.Ytocmbdckjdggiaa
open Go.RowKit

set_option maxRecDepth 100000 in
set_option maxHeartbeats 4000000 in
theorem fnExactMissed_walk (a0 : Option Addr) (n0 cap0 : Nat) (f0 : Nat → Int) (hl0 : n0 ≤ maxLen) (a1 : Option Addr) (n1 cap1 : Nat) (f1 : Nat → Int) (hl1 : n1 ≤ maxLen) (a2 : Option Addr) (n2 cap2 : Nat) (f2 : Nat → Int) (hl2 : n2 ≤ maxLen) (w : World) (h0 : Px a0 (n0) f0 w) (h1 : Px a1 (n1) f1 w) (h2 : Px a2 (n2 * 4) f2 w) :
    Calls Try.prog 10 #[.slice a0 n0 cap0, .slice a1 n1 cap1, .slice a2 n2 cap2] w fun e w' => e = .returned (.bool true) ∧ Below w.heap.size w w' := by
  unfold maxLen at hl0 hl1 hl2
  have HS0 := hide (St.start w)
  have HP0 := hide h0
  have HP1 := hide h1
  have HP2 := hide h2
  clear h0 h1 h2
  by_cases hb0 : (1048576 : Int) < n0
  · have HB := hide HS0.out.below
    clear hl0 hl1 hl2
    go_enter Try.func10, Try.ntmps10
    go_wp2_with fail
    go_ret
    exact ⟨rfl, HB.out⟩
  by_cases hb1 : (1048576 : Int) < n1
  · have HB := hide HS0.out.below
    clear hl0 hl1 hl2
    go_enter Try.func10, Try.ntmps10
    go_wp2_with fail
    go_ret
    exact ⟨rfl, HB.out⟩
  have hz2 := szGoalS_any a2 n2 cap2 (1048576) (by omega) (by omega) (by omega)
  by_cases hb2 : (1048576 : Int) < n2
  · rw [if_pos hb2] at hz2
    clear hb2 hl0 hl1 hl2
    go_enter Try.func10, Try.ntmps10
    go_wp2_with fail
    refine (hz2 _).mono ?_
    rintro e wz2 ⟨rfl, rfl⟩
    have HB := hide HS0.out.below
    go_wp2_with fail
    go_ret
    exact ⟨rfl, HB.out⟩
  rw [if_neg hb2] at hz2
  have hn2 : ¬ (1048576 - (n2 : Int) : Int) < 0 := by omega
  have hL0 : n0 ≤ 1048576 := by omega
  have hL1 : n1 ≤ 1048576 := by omega
  have hL2 : n2 ≤ 1048576 := by omega
  have hN : n2 ≤ 1048576 := by omega
  have cT0 := fun w' h => toInts_any a0 n0 cap0 f0 hL0 w' h
  have cA0 := fun a1 a2 => eqInts_b a1 a2 n0 n0 n0 f0 hL0
  have cT1 := fun w' h => toInts_any a1 n1 cap1 f1 hL1 w' h
  have cA1 := fun a1 a2 => eqInts_b a1 a2 n1 n1 n1 f1 hL1
  have cT2 := fun w' h => toGoalS_any a2 n2 cap2 f2 hL2 w' h
  have cA2 := fun a1 a2 => eqGoalS_any a1 a2 n2 n2 n2 f2 hL2
  have cS := fun b0 b1 b2 w' h0 h1 h2 => specMissed_any b0 n0 n0 f0 hL0 b1 n1 n1 f1 hL1 b2 n2 n2 f2 hL2 w' h0 h1 h2
  have cI := fun b0 b1 b2 w' h0 h1 h2 => implMissed_any b0 n0 n0 f0 hL0 b1 n1 n1 f1 hL1 b2 n2 n2 f2 hL2 w' h0 h1 h2
  unfold LsR at cS cI
  have hrn : mzN n0 n1 n2 f0 f1 f2 ≤ 1048576 := mzN_le _ _ _ _ _ _ hL2
  have cM0 := fun a' b => mark_any a' b n0 n0 f0 (1) (by omega) (by omega) hL0
  have cM1 := fun a' b => mark_any a' b n1 n1 f1 (1 + (n0 : Int)) (by omega) (by omega) hL1
  have cM2 := fun a' b => markGoalK_any a' b n2 n2 f2 hL2 (1 + (n0 : Int) + (n1 : Int)) (by omega) (by omega)
  have qm : ¬ 1 + (n0 : Int) + (n1 : Int) + 4 * (n2 : Int) < 0 := by omega
  generalize mzN n0 n1 n2 f0 f1 f2 = rN at *
  generalize (fun q => (msL f0 f1 f2 n0 n2).getD q 0) = s at *
  clear hl0 hl1 hl2 hN
  have cE := fun a1 a2 c1 c2 => eqInts_b a1 a2 rN c1 c2 s hrn
  have cN := fun a' b c1 => mark_any a' b rN c1 s 1 (by omega) (by omega) hrn
  have cH := fun a' b c1 => held_any a' b rN c1 1 (by omega) (by omega) hrn
  have q0 : ¬ 1 + (rN : Int) < 0 := by omega
  have q1 : (1 + (rN : Int) != 1 + (rN : Int)) = false := by simp
  go_enter Try.func10, Try.ntmps10
  go_wp2_with fail
  refine (hz2 _).mono ?_
  rintro e v1 ⟨rfl, rfl⟩
  clear hz2
  go_wp2_with fail
  refine (cT0 _ (HP0.out.below HS0.out.below)).mono ?_
  rintro e v2 ⟨rfl, hr, hb, -⟩
  have HS1 := hide (HS0.out.own hb hr.v (.inr (Nat.le_refl _)))
  clear HS0 hb hr
  go_wp2_with fail
  refine (cT1 _ (HP1.out.below HS1.out.below)).mono ?_
  rintro e v3 ⟨rfl, hr, hb, -⟩
  have HS2 := hide (HS1.out.own hb hr.v (.inr (Nat.le_refl _)))
  clear HS1 hb hr
  go_wp2_with fail
  refine (cT2 _ (HP2.out.below HS2.out.below)).mono ?_
  rintro e v4 ⟨rfl, hr, hb, -⟩
  have HS3 := hide (HS2.out.own hb hr.v (.inr (Nat.le_refl _)))
  clear HS2 hb hr
  have p0 := (HS3.out.nthO 2 rfl).px
  have p1 := (HS3.out.nthO 1 rfl).px
  have p2 := (HS3.out.nthO 0 rfl).px
  go_wp2_with fail
  refine (cS _ _ _ _ p0 p1 p2).mono ?_
  rintro e v5 ⟨ra4, rc4, rb4, rfl, ho, h1, hb⟩
  have HS4 := hide (HS3.out.own hb ho.v h1)
  clear HS3 hb ho h1 p0 p1 p2  cS
  go_wp2_with fail
  refine (cT0 _ (HP0.out.below HS4.out.below)).mono ?_
  rintro e v6 ⟨rfl, hr, hb, -⟩
  have HS5 := hide (HS4.out.own hb hr.v (.inr (Nat.le_refl _)))
  clear HS4 hb hr
  go_wp2_with fail
  refine (cT1 _ (HP1.out.below HS5.out.below)).mono ?_
  rintro e v7 ⟨rfl, hr, hb, -⟩
  have HS6 := hide (HS5.out.own hb hr.v (.inr (Nat.le_refl _)))
  clear HS5 hb hr
  go_wp2_with fail
  refine (cT2 _ (HP2.out.below HS6.out.below)).mono ?_
  rintro e v8 ⟨rfl, hr, hb, -⟩
  have HS7 := hide (HS6.out.own hb hr.v (.inr (Nat.le_refl _)))
  clear HS6 hb hr
  have p0 := (HS7.out.nthO 2 rfl).px
  have p1 := (HS7.out.nthO 1 rfl).px
  have p2 := (HS7.out.nthO 0 rfl).px
  go_wp2_with fail
  refine (cI _ _ _ _ p0 p1 p2).mono ?_
  rintro e v9 ⟨ra8, rc8, rb8, rfl, ho, h1, hb⟩
  have HS8 := hide (HS7.out.own hb ho.v h1)
  clear HS7 hb ho h1 p0 p1 p2
  have pA := (HS8.out.nthO 0 rfl).px
  have pB := (HS8.out.nthO 4 rfl).px
  go_wp2_with fail
  refine (cE _ _ _ _ _ pA pB).mono ?_
  rintro e v10 ⟨rfl, hb⟩
  have HS9 := hide (HS8.out.next hb)
  clear HS8 hb pA pB
  go_wp2_with fail
  refine (cT0 _ (HP0.out.below HS9.out.below)).mono ?_
  rintro e v11 ⟨rfl, hr, hb, -⟩
  have pB := hr.px
  have HS10 := hide (HS9.out.next hb)
  clear HS9 hb hr
  have pA := (HS10.out.nthO 3 rfl).px
  go_wp2_with fail
  refine (cA0 _ _ _ pA pB).mono ?_
  rintro e v12 ⟨rfl, hb⟩
  have HS11 := hide (HS10.out.next hb)
  clear HS10 hb pA pB
  go_wp2_with fail
  refine (cT1 _ (HP1.out.below HS11.out.below)).mono ?_
  rintro e v13 ⟨rfl, hr, hb, -⟩
  have pB := hr.px
  have HS12 := hide (HS11.out.next hb)
  clear HS11 hb hr
  have pA := (HS12.out.nthO 2 rfl).px
  go_wp2_with fail
  refine (cA1 _ _ _ pA pB).mono ?_
  rintro e v14 ⟨rfl, hb⟩
  have HS13 := hide (HS12.out.next hb)
  clear HS12 hb pA pB
  go_wp2_with fail
  refine (cT2 _ (HP2.out.below HS13.out.below)).mono ?_
  rintro e v15 ⟨rfl, hr, hb, -⟩
  have pB := hr.px
  have HS14 := hide (HS13.out.next hb)
  clear HS13 hb hr
  have pA := (HS14.out.nthO 1 rfl).px
  go_wp2_with fail
  refine (cA2 _ _ _ pA pB).mono ?_
  rintro e v16 ⟨rfl, hb⟩
  have HS15 := hide (HS14.out.next hb)
  clear HS14 hb pA pB
  go_wp2_with fail
  refine (cM0 _ _ _ (HS15.out.nthO 3 rfl).bk.i).mono ?_
  rintro e v17 ⟨rfl, ho, hk, -⟩
  have HS16 := hide (HS15.out.mark (O1 := [_, _, _]) hk ho.v)
  clear HS15 hk ho cM0
  go_wp2_with fail
  refine (cM1 _ _ _ (HS16.out.nthO 2 rfl).bk.i).mono ?_
  rintro e v18 ⟨rfl, ho, hk, -⟩
  have HS17 := hide (HS16.out.mark (O1 := [_, _]) hk ho.v)
  clear HS16 hk ho cM1
  go_wp2_with fail
  refine (cM2 _ _ _ (HS17.out.nthO 1 rfl).bk.i).mono ?_
  rintro e v19 ⟨rfl, ho, hk⟩
  have HS18 := hide (HS17.out.mark (O1 := [_]) hk ho.v)
  clear HS17 hk ho cM2
  have pA := (HS18.out.nthO 0 rfl).px
  have pB := (HS18.out.nthO 4 rfl).px
  go_wp2_with fail
  refine (cE _ _ _ _ _ pA pB).mono ?_
  rintro e v20 ⟨rfl, hb⟩
  have HS19 := hide (HS18.out.next hb)
  clear HS18 hb pA pB
  go_wp2_with fail
  refine (cN _ _ _ _ (HS19.out.nthO 0 rfl).bk.i).mono ?_
  rintro e v21 ⟨rfl, ho, hk, -⟩
  have HS20 := hide (HS19.out.mark (O1 := []) hk ho.v)
  clear HS19 hk ho
  go_wp2_with fail
  refine (cH _ _ _ _ (HS20.out.nthO 0 rfl).i).mono ?_
  rintro e v22 ⟨rfl, rfl⟩
  go_wp2_with fail
  refine (cT0 _ (HP0.out.below HS20.out.below)).mono ?_
  rintro e v23 ⟨rfl, hr, hb, -⟩
  have HS21 := hide (HS20.out.own hb hr.v (.inr (Nat.le_refl _)))
  clear HS20 hb hr
  go_wp2_with fail
  refine (cT1 _ (HP1.out.below HS21.out.below)).mono ?_
  rintro e v24 ⟨rfl, hr, hb, -⟩
  have HS22 := hide (HS21.out.own hb hr.v (.inr (Nat.le_refl _)))
  clear HS21 hb hr
  go_wp2_with fail
  refine (cT2 _ (HP2.out.below HS22.out.below)).mono ?_
  rintro e v25 ⟨rfl, hr, hb, -⟩
  have HS23 := hide (HS22.out.own hb hr.v (.inr (Nat.le_refl _)))
  clear HS22 hb hr
  have p0 := (HS23.out.nthO 2 rfl).px
  have p1 := (HS23.out.nthO 1 rfl).px
  have p2 := (HS23.out.nthO 0 rfl).px
  go_wp2_with fail
  refine (cI _ _ _ _ p0 p1 p2).mono ?_
  rintro e v26 ⟨ra12, rc12, rb12, rfl, ho, h1, hb⟩
  have HS24 := hide (HS23.out.own hb ho.v h1)
  clear HS23 hb ho h1 p0 p1 p2  cI
  have pA := (HS24.out.nthO 0 rfl).px
  have pB := (HS24.out.nthO 8 rfl).px
  go_wp2_with fail
  refine (cE _ _ _ _ _ pA pB).mono ?_
  rintro e v27 ⟨rfl, hb⟩
  have HS25 := hide (HS24.out.next hb)
  clear HS24 hb pA pB
  go_wp2_with fail
  refine (cH _ _ _ _ (HS25.out.nthO 4 rfl).i).mono ?_
  rintro e v28 ⟨rfl, rfl⟩
  have HB := hide HS25.out.below
  clear HS25
  go_wp2_with fail
  go_ret
  exact ⟨rfl, HB.out⟩

end Go.Proofs.Ytocmbdckjdggiaa
