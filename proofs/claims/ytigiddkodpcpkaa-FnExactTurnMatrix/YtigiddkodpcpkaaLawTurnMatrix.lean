/- The law on TurnMatrix, walked. -/
import Derived.Test.YtigiddkodpcpkaaTrc
namespace Go.Proofs.Ytigiddkodpcpkaa
open Go.RowKit

set_option maxRecDepth 100000 in
set_option maxHeartbeats 4000000 in
theorem fnExactTurnMatrix_walk (a b c d : Int) (ha : I64 a) (hb' : I64 b) (hc : I64 c) (hd : I64 d) (w : World) :
    Calls Try.prog 7 #[.agg #[.int .i64 a, .int .i64 b, .int .i64 c, .int .i64 d]] w fun e w' => e = .returned (.bool true) ∧ Below w.heap.size w w' := by
  have HS0 := hide ((St.start w).box [.int .i64 a, .int .i64 b, .int .i64 c, .int .i64 d] 30)
  have cT := fun w' => toTurn_any a b c d w'
  have cS := fun w' => specTurnMatrix_any a b c d ha hb' hc hd w'
  have cI := fun w' => implTurnMatrix_any a b c d w'
  unfold LsR at cS cI
  have hrn : tmN a b c d ≤ 1048576 := by unfold tmN; split <;> omega
  clear ha hb' hc hd
  generalize tmN a b c d = rN at *
  generalize mtx a b c d = s at *
  have cE := fun a1 a2 c1 c2 => eqInts_b a1 a2 rN c1 c2 s hrn
  have cN := fun a' b c1 => mark_any a' b rN c1 s 1 (by omega) (by omega) hrn
  have cH := fun a' b c1 => held_any a' b rN c1 1 (by omega) (by omega) hrn
  have q1 : ¬ (1 : Int) + rN < 0 := by omega
  have q2 : ((1 : Int) + rN != 1 + rN) = false := by simp
  go_enter Try.func7, Try.ntmps7
  go_wp2_with fail
  refine (cT _).mono ?_
  rintro e w1 ⟨rfl, hb⟩
  have HS1 := hide (HS0.out.next hb)
  clear hb HS0
  go_wp2_with fail
  refine (cS _).mono ?_
  rintro e w2 ⟨a8, c8, b8, rfl, ho, h1, hb⟩
  have HS2 := hide (HS1.out.own hb ho.v h1)
  clear h1 ho hb HS1 cS
  obtain ⟨i0, i1, i2, i3⟩ := HS2.out.im4 0 rfl
  go_wp2_with fail
  refine (cT _).mono ?_
  rintro e w3 ⟨rfl, hb⟩
  have HS3 := hide (HS2.out.next hb)
  clear hb HS2 i0 i1 i2 i3
  go_wp2_with fail
  refine (cI _).mono ?_
  rintro e w4 ⟨a9, c9, b9, rfl, ho, h1, hb⟩
  have HS4 := hide (HS3.out.own hb ho.v h1)
  clear h1 ho hb HS3
  have pA := (HS4.out.nthO 0 rfl).px
  have pB := (HS4.out.nthO 1 rfl).px
  go_wp2_with fail
  refine (cE _ _ _ _ _ pA pB).mono ?_
  rintro e w5 ⟨rfl, hb⟩
  have HS5 := hide (HS4.out.next hb)
  clear HS4 hb pA pB
  go_wp2_with fail
  refine (cN _ _ _ _ (HS5.out.nthO 0 rfl).bk.i).mono ?_
  rintro e w6 ⟨rfl, ho, hk, -⟩
  have HS6 := hide (HS5.out.mark (O1 := []) hk ho.v)
  clear HS5 ho hk
  go_wp2_with fail
  refine (cH _ _ _ _ (HS6.out.nthO 0 rfl).i).mono ?_
  rintro e w7 ⟨rfl, rfl⟩
  obtain ⟨i0, i1, i2, i3⟩ := HS6.out.im4 0 rfl
  go_wp2_with fail
  refine (cT _).mono ?_
  rintro e w8 ⟨rfl, hb⟩
  have HS8 := hide (HS6.out.next hb)
  clear hb HS6 i0 i1 i2 i3
  go_wp2_with fail
  refine (cI _).mono ?_
  rintro e w9 ⟨a1, c1, b1, rfl, ho, h1, hb⟩
  have HS9 := hide (HS8.out.own hb ho.v h1)
  clear h1 ho hb HS8 cI cT
  have pA := (HS9.out.nthO 0 rfl).px
  have pB := (HS9.out.nthO 2 rfl).px
  go_wp2_with fail
  refine (cE _ _ _ _ _ pA pB).mono ?_
  rintro e w10 ⟨rfl, hb⟩
  have HS10 := hide (HS9.out.next hb)
  clear HS9 hb pA pB
  go_wp2_with fail
  refine (cH _ _ _ _ (HS10.out.nthO 1 rfl).i).mono ?_
  rintro e w11 ⟨rfl, rfl⟩
  have HB := hide HS10.out.below
  clear HS10
  go_wp2_with fail
  go_ret
  exact ⟨rfl, HB.out⟩

end Go.Proofs.Ytigiddkodpcpkaa
