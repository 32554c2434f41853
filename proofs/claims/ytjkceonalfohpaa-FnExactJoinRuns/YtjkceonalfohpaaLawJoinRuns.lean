/- The law on JoinRuns, walked. -/
import Derived.Test.YtjkceonalfohpaaJrs
namespace Go.Proofs.Ytjkceonalfohpaa
open Go.RowKit

set_option maxRecDepth 100000 in
set_option maxHeartbeats 4000000 in
theorem fnExactJoinRuns_walk (x0 : Int) (a1 : Option Addr) (n1 cap1 : Nat) (f1 : Nat → Int) (hl1 : n1 ≤ maxLen) (a2 : Option Addr) (n2 cap2 : Nat) (f2 : Nat → Int) (hl2 : n2 ≤ maxLen) (x3 : Int) (w : World) (h1 : Px a1 (n1) f1 w) (h2 : Px a2 (n2) f2 w) :
    Calls Try.prog 17 #[.int .i64 x0, .slice a1 n1 cap1, .slice a2 n2 cap2, .int .i64 x3] w fun e w' => e = .returned (.bool true) ∧ Below w.heap.size w w' := by
  unfold maxLen at hl1 hl2
  have HS0 := hide (St.start w)
  have HP1 := hide h1
  have HP2 := hide h2
  clear h1 h2
  by_cases hb1 : (1048576 : Int) < n1
  · have HB := hide HS0.out.below
    clear hl1 hl2
    go_enter Try.func17, Try.ntmps17
    go_wp2_with fail
    go_ret
    exact ⟨rfl, HB.out⟩
  by_cases hb2 : (1048576 : Int) < n2
  · have HB := hide HS0.out.below
    clear hl1 hl2
    go_enter Try.func17, Try.ntmps17
    go_wp2_with fail
    go_ret
    exact ⟨rfl, HB.out⟩
  have hL1 : n1 ≤ 1048576 := by omega
  have hL2 : n2 ≤ 1048576 := by omega
  have cT1 := fun w' h => toInts_any a1 n1 cap1 f1 hL1 w' h
  have cA1 := fun a1 a2 => eqInts_b a1 a2 n1 n1 n1 f1 hL1
  have cT2 := fun w' h => toInts_any a2 n2 cap2 f2 hL2 w' h
  have cA2 := fun a1 a2 => eqInts_b a1 a2 n2 n2 n2 f2 hL2
  have cS := fun b1 b2 w' h1 h2 => specJoinRuns_any x0 b1 n1 n1 f1 hL1 b2 n2 n2 f2 hL2 x3 w' h1 h2
  have cI := fun b1 b2 w' h1 h2 => implJoinRuns_any x0 b1 n1 n1 f1 hL1 b2 n2 n2 f2 hL2 x3 w' h1 h2
  unfold LsR at cS cI
  have hrn : jruN x0 n1 f1 n2 f2 x3 ≤ 1048576 := jruN_le _ _ _ _ _ _
  have cM1 := fun a' b => mark_any a' b n1 n1 f1 (1) (by omega) (by omega) hL1
  have cM2 := fun a' b => mark_any a' b n2 n2 f2 (1 + (n1 : Int)) (by omega) (by omega) hL2
  have qm : ¬ 1 + (n1 : Int) + (n2 : Int) < 0 := by omega
  generalize jruN x0 n1 f1 n2 f2 x3 = rN at *
  generalize rval (jruF x3 n1 f1 n2 f2) x0.toNat = s at *
  clear hl1 hl2
  have cE := fun a1 a2 c1 c2 => eqInts_b a1 a2 rN c1 c2 s hrn
  have cN := fun a' b c1 => mark_any a' b rN c1 s 1 (by omega) (by omega) hrn
  have cH := fun a' b c1 => held_any a' b rN c1 1 (by omega) (by omega) hrn
  have q0 : ¬ 1 + (rN : Int) < 0 := by omega
  have q1 : (1 + (rN : Int) != 1 + (rN : Int)) = false := by simp
  go_enter Try.func17, Try.ntmps17
  go_wp2_with fail
  refine (cT1 _ (HP1.out.below HS0.out.below)).mono ?_
  rintro e v1 ⟨rfl, hr, hb, -⟩
  have HS1 := hide (HS0.out.own hb hr.v (.inr (Nat.le_refl _)))
  clear HS0 hb hr
  go_wp2_with fail
  refine (cT2 _ (HP2.out.below HS1.out.below)).mono ?_
  rintro e v2 ⟨rfl, hr, hb, -⟩
  have HS2 := hide (HS1.out.own hb hr.v (.inr (Nat.le_refl _)))
  clear HS1 hb hr
  have p1 := (HS2.out.nthO 1 rfl).px
  have p2 := (HS2.out.nthO 0 rfl).px
  go_wp2_with fail
  refine (cS _ _ _ p1 p2).mono ?_
  rintro e v3 ⟨ra3, rc3, rb3, rfl, ho, h1, hb⟩
  have HS3 := hide (HS2.out.own hb ho.v h1)
  clear HS2 hb ho h1 p1 p2  cS
  go_wp2_with fail
  refine (cT1 _ (HP1.out.below HS3.out.below)).mono ?_
  rintro e v4 ⟨rfl, hr, hb, -⟩
  have HS4 := hide (HS3.out.own hb hr.v (.inr (Nat.le_refl _)))
  clear HS3 hb hr
  go_wp2_with fail
  refine (cT2 _ (HP2.out.below HS4.out.below)).mono ?_
  rintro e v5 ⟨rfl, hr, hb, -⟩
  have HS5 := hide (HS4.out.own hb hr.v (.inr (Nat.le_refl _)))
  clear HS4 hb hr
  have p1 := (HS5.out.nthO 1 rfl).px
  have p2 := (HS5.out.nthO 0 rfl).px
  go_wp2_with fail
  refine (cI _ _ _ p1 p2).mono ?_
  rintro e v6 ⟨ra6, rc6, rb6, rfl, ho, h1, hb⟩
  have HS6 := hide (HS5.out.own hb ho.v h1)
  clear HS5 hb ho h1 p1 p2
  have pA := (HS6.out.nthO 0 rfl).px
  have pB := (HS6.out.nthO 3 rfl).px
  go_wp2_with fail
  refine (cE _ _ _ _ _ pA pB).mono ?_
  rintro e v7 ⟨rfl, hb⟩
  have HS7 := hide (HS6.out.next hb)
  clear HS6 hb pA pB
  go_wp2_with fail
  refine (cT1 _ (HP1.out.below HS7.out.below)).mono ?_
  rintro e v8 ⟨rfl, hr, hb, -⟩
  have pB := hr.px
  have HS8 := hide (HS7.out.next hb)
  clear HS7 hb hr
  have pA := (HS8.out.nthO 2 rfl).px
  go_wp2_with fail
  refine (cA1 _ _ _ pA pB).mono ?_
  rintro e v9 ⟨rfl, hb⟩
  have HS9 := hide (HS8.out.next hb)
  clear HS8 hb pA pB
  go_wp2_with fail
  refine (cT2 _ (HP2.out.below HS9.out.below)).mono ?_
  rintro e v10 ⟨rfl, hr, hb, -⟩
  have pB := hr.px
  have HS10 := hide (HS9.out.next hb)
  clear HS9 hb hr
  have pA := (HS10.out.nthO 1 rfl).px
  go_wp2_with fail
  refine (cA2 _ _ _ pA pB).mono ?_
  rintro e v11 ⟨rfl, hb⟩
  have HS11 := hide (HS10.out.next hb)
  clear HS10 hb pA pB
  go_wp2_with fail
  refine (cM1 _ _ _ (HS11.out.nthO 2 rfl).bk.i).mono ?_
  rintro e v12 ⟨rfl, ho, hk, -⟩
  have HS12 := hide (HS11.out.mark (O1 := [_, _]) hk ho.v)
  clear HS11 hk ho cM1
  go_wp2_with fail
  refine (cM2 _ _ _ (HS12.out.nthO 1 rfl).bk.i).mono ?_
  rintro e v13 ⟨rfl, ho, hk, -⟩
  have HS13 := hide (HS12.out.mark (O1 := [_]) hk ho.v)
  clear HS12 hk ho cM2
  have pA := (HS13.out.nthO 0 rfl).px
  have pB := (HS13.out.nthO 3 rfl).px
  go_wp2_with fail
  refine (cE _ _ _ _ _ pA pB).mono ?_
  rintro e v14 ⟨rfl, hb⟩
  have HS14 := hide (HS13.out.next hb)
  clear HS13 hb pA pB
  go_wp2_with fail
  refine (cN _ _ _ _ (HS14.out.nthO 0 rfl).bk.i).mono ?_
  rintro e v15 ⟨rfl, ho, hk, -⟩
  have HS15 := hide (HS14.out.mark (O1 := []) hk ho.v)
  clear HS14 hk ho
  go_wp2_with fail
  refine (cH _ _ _ _ (HS15.out.nthO 0 rfl).i).mono ?_
  rintro e v16 ⟨rfl, rfl⟩
  go_wp2_with fail
  refine (cT1 _ (HP1.out.below HS15.out.below)).mono ?_
  rintro e v17 ⟨rfl, hr, hb, -⟩
  have HS16 := hide (HS15.out.own hb hr.v (.inr (Nat.le_refl _)))
  clear HS15 hb hr
  go_wp2_with fail
  refine (cT2 _ (HP2.out.below HS16.out.below)).mono ?_
  rintro e v18 ⟨rfl, hr, hb, -⟩
  have HS17 := hide (HS16.out.own hb hr.v (.inr (Nat.le_refl _)))
  clear HS16 hb hr
  have p1 := (HS17.out.nthO 1 rfl).px
  have p2 := (HS17.out.nthO 0 rfl).px
  go_wp2_with fail
  refine (cI _ _ _ p1 p2).mono ?_
  rintro e v19 ⟨ra9, rc9, rb9, rfl, ho, h1, hb⟩
  have HS18 := hide (HS17.out.own hb ho.v h1)
  clear HS17 hb ho h1 p1 p2  cI
  have pA := (HS18.out.nthO 0 rfl).px
  have pB := (HS18.out.nthO 6 rfl).px
  go_wp2_with fail
  refine (cE _ _ _ _ _ pA pB).mono ?_
  rintro e v20 ⟨rfl, hb⟩
  have HS19 := hide (HS18.out.next hb)
  clear HS18 hb pA pB
  go_wp2_with fail
  refine (cH _ _ _ _ (HS19.out.nthO 3 rfl).i).mono ?_
  rintro e v21 ⟨rfl, rfl⟩
  have HB := hide HS19.out.below
  clear HS19
  go_wp2_with fail
  go_ret
  exact ⟨rfl, HB.out⟩

end Go.Proofs.Ytjkceonalfohpaa
