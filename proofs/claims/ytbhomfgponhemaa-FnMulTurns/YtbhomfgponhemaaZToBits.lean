/- The contract of the program's ToBits: the word of a float itself; of every NaN one word. -/
import Derived.Test.YtbhomfgponhemaaZBits
namespace Go.Proofs.Ytbhomfgponhemaa.Z
open Ieee Go.RowKit Fl
attribute [local go_sem] run_fneg

theorem shift2 (n a b c d : Nat) (h : a + b = c + d) : n * 2 ^ a * 2 ^ b = n * 2 ^ c * 2 ^ d := by
  rw [Nat.mul_assoc, Nat.mul_assoc, ← Nat.pow_add, ← Nat.pow_add, h]
theorem shift1 (n a c d : Nat) (h : a = c + d) : n * 2 ^ a = n * 2 ^ c * 2 ^ d := by
  rw [Nat.mul_assoc, ← Nat.pow_add, h]

theorem word_join (E f : Nat) (hE : E ≤ 2046) (hf : f < 2 ^ 52) :
    bits .or .u64 ((E : Int) * 4503599627370496) (bits .and .u64 (4503599627370496 + (f : Int)) 4503599627370495) = ((E * 2 ^ 52 + f : Nat) : Int) := by
  have e1 := low_u64 (2 ^ 52 + f) 52 (by omega) (by omega)
  rw [show (2 ^ 52 + f) % 2 ^ 52 = f from by omega] at e1
  have e2 : (((2 ^ 52 + f : Nat)) : Int) = 4503599627370496 + (f : Int) := by omega
  have e3 : ((2 ^ 52 - 1 : Nat) : Int) = 4503599627370495 := rfl
  rw [e2, e3] at e1
  have e4 := join_u64 E 52 f hf (by omega)
  have e5 : ((E * 2 ^ 52 : Nat) : Int) = (E : Int) * 4503599627370496 := by omega
  rw [e5] at e4
  rw [e1, e4]

theorem below_top (n k : Nat) (hn : n < 2 ^ 53) (hk : k ≤ 2045) : n * 2 ^ k < 2 ^ 2098 := by
  have h1 : n * 2 ^ k < 2 ^ 53 * 2 ^ k := Nat.mul_lt_mul_of_pos_right hn (Nat.two_pow_pos k)
  rw [← Nat.pow_add 2 53 k] at h1
  exact Nat.lt_of_lt_of_le h1 (pow_le (53 + k) 2098 (by omega))

theorem sub_steps (r : Nat) (h : r < 2 ^ 52) : ∃ a b, floatBits .mul .f64 r 7025615418697973760 = some a ∧ floatBits .mul .f64 a 7025615418697973760 = some b ∧ floatToIntVal .f64 b .u64 = some (r : Int) := by
  have e : (7025615418697973760 : Nat) = p2 1611 := by decide
  obtain ⟨a, ha, va⟩ := exists_rung r 537 (by omega) (below_top r 537 (by omega) (by omega))
  obtain ⟨b, hb', vb⟩ := exists_rung r 1074 (by omega) (below_top r 1074 (by omega) (by omega))
  have hr : r < inf := by unfold inf; omega
  refine ⟨a, b, ?_, ?_, toInt_word b r hb' vb (by omega)⟩
  · show double.mul _ _ = _
    rw [e]
    refine mul_pos _ _ _ hr (p2_lt (by omega)) ha ?_
    rw [V_small h, V_p2, va]
    exact shift1 r 1611 537 1074 rfl
  · show double.mul _ _ = _
    rw [e]
    refine mul_pos _ _ _ ha (p2_lt (by omega)) hb' ?_
    rw [va, V_p2, vb]
    exact shift2 r 537 1611 1074 1074 rfl

theorem lead_step (f : Nat) (hf : f < 2 ^ 52) : ∃ a, floatBits .mul .f64 (nw 0 f) 4841369599423283200 = some a ∧ floatToIntVal .f64 a .u64 = some ((2 ^ 52 + f : Nat) : Int) := by
  have e : (4841369599423283200 : Nat) = p2 1126 := by decide
  obtain ⟨a, ha, va⟩ := exists_rung (2 ^ 52 + f) 1074 (by omega) (below_top (2 ^ 52 + f) 1074 (by omega) (by omega))
  refine ⟨a, ?_, toInt_word a _ ha va (by omega)⟩
  show double.mul _ _ = _
  rw [e]
  refine mul_pos _ _ _ (nw_lt (by omega) hf) (p2_lt (by omega)) ha ?_
  rw [V_nw _ _ hf, V_p2, va, Nat.add_zero]
  exact shift2 (2 ^ 52 + f) 1022 1126 1074 1074 rfl

/-- what ToBits tells of a word -/
def canon (b : Nat) : Nat := if inf < rung b then 9221120237041090561 else b

theorem canon_nan {b : Nat} (h : isNaN b) : canon b = 9221120237041090561 := if_pos h
theorem canon_no {b : Nat} (h : ¬ isNaN b) : canon b = b := if_neg h

theorem xor_top (x : Nat) (h : x < 2 ^ 63) : (2 ^ 63 + x) ^^^ 2 ^ 63 = x := by
  have e := Nat.two_pow_add_eq_or_of_lt h 1
  rw [Nat.mul_one] at e
  rw [e]
  apply Nat.eq_of_testBit_eq
  intro i
  have e2 : x.testBit 63 = false := Nat.testBit_lt_two_pow h
  rw [Nat.testBit_xor, Nat.testBit_or, Nat.testBit_two_pow]
  by_cases hi : 63 = i
  · subst hi; simp [e2]
  · simp [hi]

theorem fneg_neg (b : Nat) (h : b < 2 ^ 64) (hn : neg b = true) : fneg b = rung b ∧ b = 2 ^ 63 + rung b := by
  have h1 := word_of b h
  rw [hn, word_eq, if_pos rfl] at h1
  have hr : rung b < 2 ^ 63 := Nat.mod_lt _ (by decide)
  refine ⟨?_, h1.symm⟩
  have := xor_top (rung b) hr
  rw [h1] at this
  exact this

theorem order_zero_zero (x : Nat) (h : rung x = 0) : FloatKind.f64.format.order x 0 = some .eq := by
  show double.order x 0 = some .eq
  have e0 : double.read 0 = .number false 0 (-1074) := by decide
  have e2 : mag 0 = 0 := by decide
  have h1 : rung x < inf := by rw [h]; decide
  unfold Format.order
  rw [read_fin' x h1, e0, h, e2]
  unfold Datum.order signed
  simp

end Go.Proofs.Ytbhomfgponhemaa.Z
