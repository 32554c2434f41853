/- linesThrough: what it hands back. -/
import Derived.Test.YtedjnemijeaeoaaItb
namespace Go.Proofs.Ytedjnemijeaeoaa
open Go.RowKit Go.Shelf

set_option maxRecDepth 100000 in
set_option maxHeartbeats 4000000 in
theorem linesThrough_any (k p : Nat) (hp : 1 ≤ p) (hp2 : p ≤ 64) (hl : k ≤ 1048576) (w : World) :
    Calls Try.prog 58 #[.int .i64 k, .int .i64 p] w fun e w' => ∃ b1 b2 b3, e = .returned (.func (.func 70) #[] #[.pointer (some ⟨b1, 0, none⟩), .pointer (some ⟨b2, 0, none⟩), .pointer (some ⟨b3, 0, none⟩)]) ∧
      Bx3 b1 b2 b3 p (k / p : Nat) (k % p : Nat) w' ∧ Below w.heap.size w w' := by
  have e1 := natdiv k p
  have e2 := natmod k p
  have h0 : ((p : Int) == 0) = false := by simp; omega
  have hd : k / p ≤ k := Nat.div_le_self _ _
  have hm : k % p < p := Nat.mod_lt _ hp
  generalize k / p = m at *
  generalize k % p = t at *
  have w1 : IntKind.i64.wrap (m : Int) = (m : Int) := by rw [IntKind.wrap_i64]; omega
  have w2 : IntKind.i64.wrap (t : Int) = (t : Int) := by rw [IntKind.wrap_i64]; omega
  clear hd hm
  go_enter Try.func58, Try.ntmps58
  go_wp2_with fail
  go_region_with (fail)
  all_goals
    go_wp2_with fail
    go_ret
    refine ⟨_, _, _, rfl, ⟨by simp [go_sem], by simp [go_sem], by simp [go_sem]⟩, ?_⟩
    repeat (first | exact Below.refl _ _ | refine Below.setCell ?_ (by simp <;> omega) _ | refine Below.alloc ?_ (by simp <;> omega) _ | refine Below.drew ?_)

end Go.Proofs.Ytedjnemijeaeoaa
