/- More plain arithmetic on the words of a 64 bit float: powers of two, the sign of a quotient, the order against nought. -/
import Derived.Test.YtbhomfgponhemaaFl
namespace Go.Proofs.Ytbhomfgponhemaa.Fl
open Ieee

/-- the word of 2 to the power e - 1074 -/
def p2 (e : Nat) : Nat := if e < 52 then 2 ^ e else (e - 51) * 2 ^ 52

theorem p2_lt {e : Nat} (h : e ≤ 2097) : p2 e < inf := by
  unfold p2 inf
  split
  · have : 2 ^ e ≤ 2 ^ 52 := Nat.pow_le_pow_right (by decide) (by omega)
    omega
  · have : (e - 51) * 2 ^ 52 ≤ 2046 * 2 ^ 52 := Nat.mul_le_mul_right _ (by omega)
    omega

theorem V_small {r : Nat} (h : r < 2 ^ 52) : V r = r := by
  unfold V mag sh; rw [if_pos h, if_pos h, Nat.pow_zero, Nat.mul_one]

theorem V_p2 (e : Nat) : V (p2 e) = 2 ^ e := by
  unfold p2
  split
  · rename_i h
    exact V_small (Nat.pow_lt_pow_right (by decide) h)
  · rename_i h
    obtain ⟨p, hp⟩ : ∃ p, e = p + 52 := ⟨e - 52, by omega⟩
    rw [hp, show p + 52 - 51 = p + 1 from by omega, V_pow]

theorem mag_p2 (e : Nat) : ∃ k, mag (p2 e) = 2 ^ k := by
  unfold p2
  split
  · rename_i h
    have : 2 ^ e < 2 ^ 52 := Nat.pow_lt_pow_right (by decide) h
    exact ⟨e, by unfold mag; rw [if_pos this]⟩
  · rename_i h
    obtain ⟨p, hp⟩ : ∃ p, e = p + 52 := ⟨e - 52, by omega⟩
    exact ⟨52, by rw [hp, show p + 52 - 51 = p + 1 from by omega, mag_pow]⟩

theorem fin_small {r : Nat} (h : r < inf) : rung r = r ∧ neg r = false ∧ r < 2 ^ 63 := by
  have := inf_lt
  exact ⟨rung_small r (by omega), neg_small r (by omega), by omega⟩

/-- a product of words that are not negative, where the format has it -/
theorem mul_pos (x y r : Nat) (hx : x < inf) (hy : y < inf) (hr : r < inf) (h : V x * V y = V r * 2 ^ 1074) : double.mul x y = some r := by
  obtain ⟨a1, a2, a3⟩ := fin_small hx
  obtain ⟨b1, b2, b3⟩ := fin_small hy
  rw [mul_exact x y r (by rw [a1]; exact hx) (by rw [b1]; exact hy) hr (by rw [a1, b1]; exact h), a2, b2]
  rfl

theorem div_pos (x r e : Nat) (hx : x < inf) (he : e ≤ 2097) (hr : r < inf) (h : V x * 2 ^ 1074 = V r * 2 ^ e) : double.div x (p2 e) = some r := by
  obtain ⟨a1, a2, a3⟩ := fin_small hx
  have hy := p2_lt he
  obtain ⟨b1, b2, b3⟩ := fin_small hy
  obtain ⟨k, hk⟩ := mag_p2 e
  rw [div_exact x (p2 e) r k (by rw [a1]; exact hx) (by rw [b1]; exact hy) hr (by rw [b1]; exact hk) (by rw [a1, b1, V_p2]; exact h), a2, b2]
  rfl

theorem order_small (x y : Nat) (hx : x < inf) (hy : y < inf) : double.order x y = some (compare x y) := by
  obtain ⟨a1, a2, a3⟩ := fin_small hx
  obtain ⟨b1, b2, b3⟩ := fin_small hy
  rw [order_pos x y (by rw [a1]; exact hx) (by rw [b1]; exact hy) a2 b2, a1, b1]
  simp only [compare, compareOfLessAndEq, V_lt]
  have : V x = V y ↔ x = y := ⟨V_inj, fun h => by rw [h]⟩
  simp only [this]

theorem p2_mul (x y z : Nat) (hx : x ≤ 2097) (hy : y ≤ 2097) (hz : z ≤ 2097) (h : x + y = z + 1074) : double.mul (p2 x) (p2 y) = some (p2 z) :=
  mul_pos _ _ _ (p2_lt hx) (p2_lt hy) (p2_lt hz) (by rw [V_p2, V_p2, V_p2, ← Nat.pow_add 2 x y, ← Nat.pow_add 2 z 1074, h])

end Go.Proofs.Ytbhomfgponhemaa.Fl
