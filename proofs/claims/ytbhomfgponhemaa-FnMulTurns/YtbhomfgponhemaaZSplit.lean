/- The contract of splitPower: the power of two and the factor of a word with a leading one. -/
import Derived.Test.YtbhomfgponhemaaZPow
import Derived.Test.YtbhomfgponhemaaZFl3
namespace Go.Proofs.Ytbhomfgponhemaa.Z
open Ieee Go.RowKit Fl

/-- the word with a leading one, of exponent d and fraction f -/
def nw (d f : Nat) : Nat := (1023 + d) * 2 ^ 52 + f
theorem nw_lt {d f : Nat} (hd : d ≤ 1023) (hf : f < 2 ^ 52) : nw d f < inf := norm_lt (by omega) hf
theorem V_nw (d f : Nat) (hf : f < 2 ^ 52) : V (nw d f) = (2 ^ 52 + f) * 2 ^ (1022 + d) := by
  unfold nw; rw [V_norm _ _ (by omega) hf, show 1023 + d - 1 = 1022 + d from by omega]

theorem div_step (d s f : Nat) (hf : f < 2 ^ 52) (hd : d ≤ 1023) (hs : s ≤ d) :
    floatBits .quo .f64 (nw d f) (p2 (1074 + s)) = some (nw (d - s) f) := by
  show double.div _ _ = _
  refine div_pos _ _ _ (nw_lt hd hf) (by omega) (nw_lt (by omega) hf) ?_
  rw [V_nw _ _ hf, V_nw _ _ hf, Nat.mul_assoc, Nat.mul_assoc, ← Nat.pow_add 2 (1022 + d) 1074, ← Nat.pow_add 2 (1022 + (d - s)) (1074 + s)]
  rw [show 1022 + d + 1074 = 1022 + (d - s) + (1074 + s) from by omega]

theorem mul_up (E f : Nat) (h1 : 1 ≤ E) (hE : E ≤ 1022) (hf : f < 2 ^ 52) :
    floatBits .mul .f64 (E * 2 ^ 52 + f) 9209861237972664320 = some (nw (E - 1) f) := by
  show double.mul _ _ = _
  have e : (9209861237972664320 : Nat) = p2 2096 := by decide
  rw [e]
  refine mul_pos _ _ _ (norm_lt (by omega) hf) (p2_lt (by omega)) (nw_lt (by omega) hf) ?_
  rw [V_p2, V_norm _ _ (by omega) hf, V_nw _ _ hf, Nat.mul_assoc, Nat.mul_assoc, ← Nat.pow_add 2 (E - 1) 2096, ← Nat.pow_add 2 (1022 + (E - 1)) 1074]
  rw [show E - 1 + 2096 = 1022 + (E - 1) + 1074 from by omega]

theorem ge_power (d s f : Nat) (hf : f < 2 ^ 52) (hd : d ≤ 1023) (hs : s ≤ 1023) :
    (FloatKind.f64.format.order (nw d f) (p2 (1074 + s)) == some .gt || FloatKind.f64.format.order (nw d f) (p2 (1074 + s)) == some .eq) = decide (s ≤ d) := by
  rw [order_ge _ _ (nw_lt hd hf) (p2_lt (by omega)), p2_norm _ (by omega)]
  unfold nw
  by_cases h : s ≤ d
  · rw [decide_eq_true h, decide_eq_true (by omega)]
  · rw [decide_eq_false h, decide_eq_false (by omega)]

theorem half_step (j : Nat) (h : j < 10) : 2 ^ (10 - j) = 2 * 2 ^ (9 - j) ∧ 2 ^ (10 - (j + 1)) = 2 ^ (9 - j) ∧ (512 : Int) / 2 ^ j = ((2 ^ (9 - j) : Nat) : Int) ∧ 2 ^ (9 - j) ≤ 512 := by
  have : j = 0 ∨ j = 1 ∨ j = 2 ∨ j = 3 ∨ j = 4 ∨ j = 5 ∨ j = 6 ∨ j = 7 ∨ j = 8 ∨ j = 9 := by omega
  rcases this with rfl | rfl | rfl | rfl | rfl | rfl | rfl | rfl | rfl | rfl <;> decide

/-- the state of the loop -/
def Split (E f : Nat) (x e i : Value) : Prop :=
  ∃ j d : Nat, j ≤ 10 ∧ d < 2 ^ (10 - j) ∧ d ≤ 1023 ∧ i = .int .i64 j ∧ x = .float .f64 (nw d f) ∧ e = .int .i64 ((E : Int) - 1023 - d)

end Go.Proofs.Ytbhomfgponhemaa.Z
