/- The law on TurnOk, walked. -/
import Derived.Test.YtigiddkodpcpkaaTru
namespace Go.Proofs.Ytigiddkodpcpkaa
open Go.RowKit

set_option maxRecDepth 100000 in
set_option maxHeartbeats 4000000 in
theorem fnExactTurnOk_walk (a b c d : Int) (ha : I64 a) (hb' : I64 b) (hc : I64 c) (hd : I64 d) (w : World) :
    Calls Try.prog 4 #[.agg #[.int .i64 a, .int .i64 b, .int .i64 c, .int .i64 d]] w fun e w' => e = .returned (.bool true) ∧ Below w.heap.size w w' := by
  have HS0 := hide ((St.start w).box [.int .i64 a, .int .i64 b, .int .i64 c, .int .i64 d] 30)
  have cT := fun w' => toTurn_any a b c d w'
  have cS := fun w' => specTurnOk_any a b c d ha hb' hc hd w'
  have cI := fun w' => implTurnOk_any a b c d w'
  clear ha hb' hc hd
  generalize tkB a b c d = rB at *
  have qb : (rB != rB) = false := by simp
  go_enter Try.func4, Try.ntmps4
  go_wp2_with fail
  refine (cT _).mono ?_
  rintro e w1 ⟨rfl, hb⟩
  have HS1 := hide (HS0.out.next hb)
  clear hb HS0
  go_wp2_with fail
  refine (cS _).mono ?_
  rintro e w2 ⟨rfl, hb⟩
  have HS2 := hide (HS1.out.next hb)
  clear hb HS1 cS
  obtain ⟨i0, i1, i2, i3⟩ := HS2.out.im4 0 rfl
  go_wp2_with fail
  refine (cT _).mono ?_
  rintro e w3 ⟨rfl, hb⟩
  have HS3 := hide (HS2.out.next hb)
  clear hb HS2 cT i0 i1 i2 i3
  go_wp2_with fail
  refine (cI _).mono ?_
  rintro e w4 ⟨rfl, hb⟩
  have HS4 := hide (HS3.out.next hb)
  clear hb HS3 cI
  go_wp2_with fail
  go_ret
  exact ⟨rfl, HS4.out.below⟩

end Go.Proofs.Ytigiddkodpcpkaa
