/- The law on Deliver, walked. -/
import Derived.Test.YtocmbdckjdggiaaDvs
import Derived.Test.YtocmbdckjdggiaaDvj
import Derived.Test.YtocmbdckjdggiaaHom
namespace Go.Proofs.Ytocmbdckjdggiaa
open Go.RowKit

set_option maxRecDepth 100000 in
set_option maxHeartbeats 4000000 in
theorem fnExactDeliver_walk (a0 : Option Addr) (n0 cap0 : Nat) (f0 : Nat → Int) (hl0 : n0 ≤ maxLen) (a1 : Option Addr) (n1 cap1 : Nat) (f1 : Nat → Int) (hl1 : n1 ≤ maxLen) (w : World) (h0 : Px a0 (n0) f0 w) (h1 : Px a1 (n1) f1 w) :
    Calls Try.prog 8 #[.slice a0 n0 cap0, .slice a1 n1 cap1] w fun e w' => e = .returned (.bool true) ∧ Below w.heap.size w w' := by
  unfold maxLen at hl0 hl1
  have HS0 := hide (St.start w)
  have HP0 := hide h0
  have HP1 := hide h1
  clear h0 h1
  by_cases hb0 : (1048576 : Int) < n0
  · have HB := hide HS0.out.below
    clear hl0 hl1
    go_enter Try.func8, Try.ntmps8
    go_wp2_with fail
    go_ret
    exact ⟨rfl, HB.out⟩
  by_cases hb1 : (1048576 : Int) < n1
  · have HB := hide HS0.out.below
    clear hl0 hl1
    go_enter Try.func8, Try.ntmps8
    go_wp2_with fail
    go_ret
    exact ⟨rfl, HB.out⟩
  have hL0 : n0 ≤ 1048576 := by omega
  have hL1 : n1 ≤ 1048576 := by omega
  have cT0 := fun w' h => toInts_any a0 n0 cap0 f0 hL0 w' h
  have cA0 := fun a1 a2 => eqInts_b a1 a2 n0 n0 n0 f0 hL0
  have cT1 := fun w' h => toInts_any a1 n1 cap1 f1 hL1 w' h
  have cA1 := fun a1 a2 => eqInts_b a1 a2 n1 n1 n1 f1 hL1
  have cS := fun b0 b1 w' h0 h1 => specDeliver_any b0 n0 n0 f0 hL0 b1 n1 n1 f1 hL1 w' h0 h1
  have cI := fun b0 b1 w' h0 h1 => implDeliver_any b0 n0 n0 f0 hL0 b1 n1 n1 f1 hL1 (Nat.le_refl _) w' h0 h1
  unfold LsR at cS cI
  have hrn : dvN n0 n1 f0 f1 ≤ 1048576 := dvN_le _ _ _ _
  have cM0 := fun a' b => mark_any a' b n0 n0 f0 (1) (by omega) (by omega) hL0
  have cM1 := fun a' b => mark_any a' b n1 n1 f1 (1 + (n0 : Int)) (by omega) (by omega) hL1
  have qm : ¬ 1 + (n0 : Int) + (n1 : Int) < 0 := by omega
  generalize dvN n0 n1 f0 f1 = rN at *
  generalize dvS f0 f1 n1 = s at *
  clear hl0 hl1
  have cE := fun a1 a2 c1 c2 => eqInts_b a1 a2 rN c1 c2 s hrn
  have cN := fun a' b c1 => mark_any a' b rN c1 s 1 (by omega) (by omega) hrn
  have cH := fun a' b c1 => held_any a' b rN c1 1 (by omega) (by omega) hrn
  have q0 : ¬ 1 + (rN : Int) < 0 := by omega
  have q1 : (1 + (rN : Int) != 1 + (rN : Int)) = false := by simp
  go_enter Try.func8, Try.ntmps8
  go_wp2_with fail
  refine (cT0 _ (HP0.out.below HS0.out.below)).mono ?_
  rintro e v1 ⟨rfl, hr, hb, -⟩
  have HS1 := hide (HS0.out.own hb hr.v (.inr (Nat.le_refl _)))
  clear HS0 hb hr
  go_wp2_with fail
  refine (cT1 _ (HP1.out.below HS1.out.below)).mono ?_
  rintro e v2 ⟨rfl, hr, hb, -⟩
  have HS2 := hide (HS1.out.own hb hr.v (.inr (Nat.le_refl _)))
  clear HS1 hb hr
  have p0 := (HS2.out.nthO 1 rfl).px
  have p1 := (HS2.out.nthO 0 rfl).px
  go_wp2_with fail
  refine (cS _ _ _ p0 p1).mono ?_
  rintro e v3 ⟨ra3, rc3, rb3, rfl, ho, h1, hb⟩
  have HS3 := hide (HS2.out.own hb ho.v h1)
  clear HS2 hb ho h1 p0 p1  cS
  go_wp2_with fail
  refine (cT0 _ (HP0.out.below HS3.out.below)).mono ?_
  rintro e v4 ⟨rfl, hr, hb, -⟩
  have HS4 := hide (HS3.out.own hb hr.v (.inr (Nat.le_refl _)))
  clear HS3 hb hr
  go_wp2_with fail
  refine (cT1 _ (HP1.out.below HS4.out.below)).mono ?_
  rintro e v5 ⟨rfl, hr, hb, -⟩
  have HS5 := hide (HS4.out.own hb hr.v (.inr (Nat.le_refl _)))
  clear HS4 hb hr
  have p0 := (HS5.out.nthO 1 rfl).px
  have p1 := (HS5.out.nthO 0 rfl).px
  go_wp2_with fail
  refine (cI _ _ _ p0 p1).mono ?_
  rintro e v6 ⟨ra6, rc6, rb6, rfl, ho, h1, hb⟩
  have HS6 := hide (HS5.out.own hb ho.v h1)
  clear HS5 hb ho h1 p0 p1
  have pA := (HS6.out.nthO 0 rfl).px
  have pB := (HS6.out.nthO 3 rfl).px
  go_wp2_with fail
  refine (cE _ _ _ _ _ pA pB).mono ?_
  rintro e v7 ⟨rfl, hb⟩
  have HS7 := hide (HS6.out.next hb)
  clear HS6 hb pA pB
  go_wp2_with fail
  refine (cT0 _ (HP0.out.below HS7.out.below)).mono ?_
  rintro e v8 ⟨rfl, hr, hb, -⟩
  have pB := hr.px
  have HS8 := hide (HS7.out.next hb)
  clear HS7 hb hr
  have pA := (HS8.out.nthO 2 rfl).px
  go_wp2_with fail
  refine (cA0 _ _ _ pA pB).mono ?_
  rintro e v9 ⟨rfl, hb⟩
  have HS9 := hide (HS8.out.next hb)
  clear HS8 hb pA pB
  go_wp2_with fail
  refine (cT1 _ (HP1.out.below HS9.out.below)).mono ?_
  rintro e v10 ⟨rfl, hr, hb, -⟩
  have pB := hr.px
  have HS10 := hide (HS9.out.next hb)
  clear HS9 hb hr
  have pA := (HS10.out.nthO 1 rfl).px
  go_wp2_with fail
  refine (cA1 _ _ _ pA pB).mono ?_
  rintro e v11 ⟨rfl, hb⟩
  have HS11 := hide (HS10.out.next hb)
  clear HS10 hb pA pB
  go_wp2_with fail
  refine (cM0 _ _ _ (HS11.out.nthO 2 rfl).bk.i).mono ?_
  rintro e v12 ⟨rfl, ho, hk, -⟩
  have HS12 := hide (HS11.out.mark (O1 := [_, _]) hk ho.v)
  clear HS11 hk ho cM0
  go_wp2_with fail
  refine (cM1 _ _ _ (HS12.out.nthO 1 rfl).bk.i).mono ?_
  rintro e v13 ⟨rfl, ho, hk, -⟩
  have HS13 := hide (HS12.out.mark (O1 := [_]) hk ho.v)
  clear HS12 hk ho cM1
  have pA := (HS13.out.nthO 0 rfl).px
  have pB := (HS13.out.nthO 3 rfl).px
  go_wp2_with fail
  refine (cE _ _ _ _ _ pA pB).mono ?_
  rintro e v14 ⟨rfl, hb⟩
  have HS14 := hide (HS13.out.next hb)
  clear HS13 hb pA pB
  go_wp2_with fail
  refine (cN _ _ _ _ (HS14.out.nthO 0 rfl).bk.i).mono ?_
  rintro e v15 ⟨rfl, ho, hk, -⟩
  have HS15 := hide (HS14.out.mark (O1 := []) hk ho.v)
  clear HS14 hk ho
  go_wp2_with fail
  refine (cH _ _ _ _ (HS15.out.nthO 0 rfl).i).mono ?_
  rintro e v16 ⟨rfl, rfl⟩
  go_wp2_with fail
  refine (cT0 _ (HP0.out.below HS15.out.below)).mono ?_
  rintro e v17 ⟨rfl, hr, hb, -⟩
  have HS16 := hide (HS15.out.own hb hr.v (.inr (Nat.le_refl _)))
  clear HS15 hb hr
  go_wp2_with fail
  refine (cT1 _ (HP1.out.below HS16.out.below)).mono ?_
  rintro e v18 ⟨rfl, hr, hb, -⟩
  have HS17 := hide (HS16.out.own hb hr.v (.inr (Nat.le_refl _)))
  clear HS16 hb hr
  have p0 := (HS17.out.nthO 1 rfl).px
  have p1 := (HS17.out.nthO 0 rfl).px
  go_wp2_with fail
  refine (cI _ _ _ p0 p1).mono ?_
  rintro e v19 ⟨ra9, rc9, rb9, rfl, ho, h1, hb⟩
  have HS18 := hide (HS17.out.own hb ho.v h1)
  clear HS17 hb ho h1 p0 p1  cI
  have pA := (HS18.out.nthO 0 rfl).px
  have pB := (HS18.out.nthO 6 rfl).px
  go_wp2_with fail
  refine (cE _ _ _ _ _ pA pB).mono ?_
  rintro e v20 ⟨rfl, hb⟩
  have HS19 := hide (HS18.out.next hb)
  clear HS18 hb pA pB
  go_wp2_with fail
  refine (cH _ _ _ _ (HS19.out.nthO 3 rfl).i).mono ?_
  rintro e v21 ⟨rfl, rfl⟩
  have HB := hide HS19.out.below
  clear HS19
  go_wp2_with fail
  go_ret
  exact ⟨rfl, HB.out⟩

end Go.Proofs.Ytocmbdckjdggiaa
