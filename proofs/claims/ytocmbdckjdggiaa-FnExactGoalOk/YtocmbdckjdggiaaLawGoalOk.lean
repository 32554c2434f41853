/- The law on GoalOk, walked. -/
import Derived.Test.YtocmbdckjdggiaaGol
import Derived.Test.YtocmbdckjdggiaaQ4
namespace Go.Proofs.Ytocmbdckjdggiaa
open Go.RowKit

set_option maxRecDepth 100000 in
set_option maxHeartbeats 4000000 in
theorem fnExactGoalOk_walk (a b c d : Int) (w : World) :
    Calls Try.prog 9 #[.agg #[.int .i64 a, .int .i64 b, .int .i64 c, .int .i64 d]] w fun e w' => e = .returned (.bool true) ∧ Below w.heap.size w w' := by
  have HS0 := hide ((St.start w).box [.int .i64 a, .int .i64 b, .int .i64 c, .int .i64 d] 52)
  have cT := fun w' => toGoal_any a b c d w'
  have cS := fun w' => specGoalOk_any a b c d w'
  have cI := fun w' => implGoalOk_any a b c d w'
  generalize gokB a c d = rB at *
  have qb : (rB != rB) = false := by simp
  go_enter Try.func9, Try.ntmps9
  go_wp2_with fail
  refine (cT _).mono ?_
  rintro e w1 ⟨rfl, hb⟩
  have HS1 := hide (HS0.out.next hb)
  clear hb HS0
  go_wp2_with fail
  refine (cS _).mono ?_
  rintro e w2 ⟨rfl, hb⟩
  have HS2 := hide (HS1.out.next hb)
  clear hb HS1 cS
  obtain ⟨i0, i1, i2, i3⟩ := HS2.out.im4 0 rfl
  go_wp2_with fail
  refine (cT _).mono ?_
  rintro e w3 ⟨rfl, hb⟩
  have HS3 := hide (HS2.out.next hb)
  clear hb HS2 cT i0 i1 i2 i3
  go_wp2_with fail
  refine (cI _).mono ?_
  rintro e w4 ⟨rfl, hb⟩
  have HS4 := hide (HS3.out.next hb)
  clear hb HS3 cI
  go_wp2_with fail
  go_ret
  exact ⟨rfl, HS4.out.below⟩

end Go.Proofs.Ytocmbdckjdggiaa
