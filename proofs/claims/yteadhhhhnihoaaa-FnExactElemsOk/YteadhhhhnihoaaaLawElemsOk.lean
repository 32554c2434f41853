/- The law on ElemsOk, walked. -/
import Derived.Test.YteadhhhhnihoaaaEm3
import Derived.Test.YteadhhhhnihoaaaExs
namespace Go.Proofs.Yteadhhhhnihoaaa
open Go.RowKit

set_option maxRecDepth 100000 in
theorem specElemsOk_any (a : Option Addr) (m cap : Nat) (ad : Nat → Option Addr) (cp : Nat → Nat) (E : Nat → El) (hl : ∀ i, i < m → (E i).ln ≤ 1048576) (w : World) (h : PxE a m ad cp E w) :
    Calls Try.prog 15 #[.slice a m cap] w fun e w' => e = .returned (.bool (elsB E m)) ∧ Below w.heap.size w w' := by
  unfold elsB
  by_cases hm : m ≤ 2000
  · have cL : Calls Try.prog 34 #[.slice a m cap, .int .i64 0, .int .i64 (m : Int), .int .i64 1, .bool false] w fun e w' => e = .returned (.bool (lev E 0 m 1 false (-1))) ∧ Below w.heap.size w w' :=
      l12Level_any a m cap ad cp E hm hl m 0 m 1 false w (by omega) (by omega) (Nat.le_refl _) (by omega) (by omega) h
    have c1 : (m : Int) ≤ 2000 := by omega
    rw [decide_eq_true hm, Bool.true_and]
    generalize lev E 0 m 1 false (-1) = r at *
    clear h hl
    go_enter Try.func15, Try.ntmps15
    go_wp2_with fail
    refine cL.mono ?_
    rintro e w1 ⟨rfl, hb⟩
    go_wp2_with fail
    go_ret
    exact ⟨rfl, hb⟩
  · have c1 : ¬ (m : Int) ≤ 2000 := by omega
    rw [decide_eq_false hm, Bool.false_and]
    clear h hl
    go_enter Try.func15, Try.ntmps15
    go_wp2_with fail
    go_ret
    exact ⟨rfl, Below.refl _ _⟩

set_option maxRecDepth 100000 in
set_option maxHeartbeats 4000000 in
theorem fnExactElemsOk_walk (a : Option Addr) (n cap : Nat) (ad : Nat → Option Addr) (cp : Nat → Nat) (E : Nat → El) (hl : n ≤ maxLen) (hle : ∀ i, (E i).ln ≤ maxLen ∧ (E i).t.size ≤ maxLen) (w : World) (h : PxE a n ad cp E w) :
    Calls Try.prog 4 #[.slice a n cap] w fun e w' => e = .returned (.bool true) ∧ Below w.heap.size w w' := by
  have cz := szElemS_any a n cap ad cp E hl hle w h
  have HP := hide h
  clear h hl hle
  go_enter Try.func4, Try.ntmps4
  go_wp2_with fail
  refine cz.mono ?_
  rintro e w0 ⟨hb0, v, rfl, hv⟩
  have HB0 := hide hb0
  clear cz hb0
  by_cases hv0 : v < 0
  · clear hv
    go_wp2_with fail
    go_ret
    exact ⟨rfl, HB0.out⟩
  have hsum := (hv.resolve_left hv0).2
  have hn : n ≤ 1048576 := by omega
  have hln : ∀ i, i < n → (E i).ln ≤ 1048576 := fun i hi => by
    have := sumN_le (ln := elN E) hi
    unfold elN at this hsum
    omega
  have cT := fun w' h' => toElemS_any a n cap ad cp E hn hln w' h'
  have cS := fun ad' cp' a' w' h' => specElemsOk_any a' n n ad' cp' E hln w' h'
  have cI := fun ad' cp' a' w' h' => implElemsOk_any a' n n ad' cp' E (Nat.le_refl _) hln w' h'
  have cE := fun a' a'' ad' ad'' cp' cp'' w' h' h'' => eqElemS_any a' a'' n n n ad' ad'' cp' cp'' E hn hln w' h' h''
  clear hv hsum hln
  generalize elsB E n = rB at *
  have qb : (rB != rB) = false := by simp
  go_wp2_with fail
  refine (cT _ (HP.out.below HB0.out)).mono ?_
  rintro e w1 ⟨B1, rfl, hp1, hb1⟩
  have HB1 := hide (bnext HB0.out (Nat.le_refl _) hb1)
  have HP1 := hide hp1
  clear hp1 hb1 HB0
  go_wp2_with fail
  refine (cS _ _ _ _ HP1.out).mono ?_
  rintro e w2 ⟨rfl, hb2⟩
  have HB2 := hide (bnext HB1.out (Nat.le_refl _) hb2)
  clear hb2 HP1 HB1 cS
  go_wp2_with fail
  refine (cT _ (HP.out.below HB2.out)).mono ?_
  rintro e w3 ⟨B3, rfl, hp3, hb3⟩
  have HB3 := hide (bnext HB2.out (Nat.le_refl _) hb3)
  have HP3 := hide hp3
  clear hp3 hb3 HB2
  go_wp2_with fail
  refine (cI _ _ _ _ HP3.out).mono ?_
  rintro e w4 ⟨rfl, hb4⟩
  have HB4 := hide (bnext HB3.out (Nat.le_refl _) hb4)
  have HP4 := hide (HP3.out.below hb4)
  clear hb4 HP3 HB3 cI
  go_wp2_with fail
  refine (cT _ (HP.out.below HB4.out)).mono ?_
  rintro e w5 ⟨B5, rfl, hp5, hb5⟩
  have HB5 := hide (bnext HB4.out (Nat.le_refl _) hb5)
  have HP5 := hide hp5
  have HP6 := hide (HP4.out.below hb5)
  clear hp5 hb5 HB4 HP4
  go_wp2_with fail
  refine (cE _ _ _ _ _ _ _ HP6.out HP5.out).mono ?_
  rintro e w6 ⟨rfl, hb6⟩
  have HB6 := hide (bnext HB5.out (Nat.le_refl _) hb6)
  clear hb6 HP5 HP6 HB5
  go_wp2_with fail
  go_ret
  exact ⟨rfl, HB6.out⟩

end Go.Proofs.Yteadhhhhnihoaaa
