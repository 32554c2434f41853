/- Offsets within a reach, and beside. -/
import Derived.Test.YtekoioggamhlaaaSgr
namespace Go.Proofs.Ytekoioggamhlaaa
open Go.RowKit

/-- the numbers of all offsets within a across and d down, by rows -/
def offF (a d : Nat) (q : Nat) : Int := if q % 2 = 0 then ((q / 2 % (2 * a + 1) : Nat) : Int) - a else ((q / 2 / (2 * a + 1) : Nat) : Int) - d
theorem offF_x (a d r c : Nat) (hc : c < 2 * a + 1) : offF a d ((r * (2 * a + 1) + c) * 2) = (c : Int) - a := by
  unfold offF
  rw [if_pos (by omega), show (r * (2 * a + 1) + c) * 2 / 2 = r * (2 * a + 1) + c by omega, Nat.mul_comm, Nat.mul_add_mod, Nat.mod_eq_of_lt hc]
theorem offF_y (a d r c : Nat) (hc : c < 2 * a + 1) : offF a d ((r * (2 * a + 1) + c) * 2 + 1) = (r : Int) - d := by
  unfold offF
  rw [if_neg (by omega), show ((r * (2 * a + 1) + c) * 2 + 1) / 2 = r * (2 * a + 1) + c by omega, Nat.mul_comm, Nat.mul_add_div (by omega), Nat.div_eq_of_lt hc]
  simp
theorem offF_bd (a d : Nat) (ha : a ≤ 64) (hd : d ≤ 64) : ∀ j, j < (2 * d + 1) * (2 * a + 1) * 2 → -64 ≤ offF a d j ∧ offF a d j ≤ 64 := by
  intro j hj
  have h1 : j / 2 % (2 * a + 1) < 2 * a + 1 := Nat.mod_lt _ (by omega)
  have h2 : j / 2 / (2 * a + 1) < 2 * d + 1 := by
    rw [Nat.div_lt_iff_lt_mul (by omega)]
    omega
  unfold offF
  generalize j / 2 % (2 * a + 1) = x at *
  generalize j / 2 / (2 * a + 1) = y at *
  split <;> omega

/-- up, left, right, down -/
def besF : Nat → Int
  | 0 => 0 | 1 => -1 | 2 => -1 | 3 => 0 | 4 => 1 | 5 => 0 | 6 => 0 | 7 => 1 | _ => 0
theorem besF_bd : ∀ j, j < 4 * 2 → -64 ≤ besF j ∧ besF j ≤ 64 := by decide

set_option maxRecDepth 100000 in
set_option maxHeartbeats 1000000 in
theorem offsetsBeside_any (w : World) : Calls Try.prog 41 #[] w (SpR 4 besF w) := by
  go_enter Try.func41, Try.ntmps41
  go_wp2_with fail
  go_ret
  refine ⟨_, _, w.heap.size, rfl, .inr ⟨rfl, ?_⟩, .inr (Nat.le_refl _), bnew _ _⟩
  intro k hk
  have h : k = 0 ∨ k = 1 ∨ k = 2 ∨ k = 3 ∨ k = 4 ∨ k = 5 ∨ k = 6 ∨ k = 7 := by omega
  rcases h with rfl | rfl | rfl | rfl | rfl | rfl | rfl | rfl <;> simp [go_sem, besF]

end Go.Proofs.Ytekoioggamhlaaa
