/- The contract of powerOfTwo: 2 to the power k, from -1074 to 1023. -/
import Derived.Test.YtbhomfgponhemaaFtu
import Derived.Test.YtbhomfgponhemaaZFl2
namespace Go.Proofs.Ytbhomfgponhemaa.Z
open Ieee Go.RowKit Fl

theorem and1 (k : Int) : bits .and .i64 k 1 = k % 2 := by
  show IntKind.i64.wrap ((BitVec.ofInt 64 k &&& BitVec.ofInt 64 1).toNat : Int) = k % 2
  have e : (BitVec.ofInt 64 k &&& BitVec.ofInt 64 1).toNat = (k % 2).toNat := by
    rw [BitVec.toNat_and, BitVec.toNat_ofInt, BitVec.toNat_ofInt]
    show (k % 2 ^ 64).toNat &&& 1 = _
    rw [show (1 : Nat) = 2 ^ 1 - 1 from rfl, Nat.and_two_pow_sub_one_eq_mod]
    omega
  rw [e, IntKind.wrap_i64]
  omega

/-- the base in round j, upward and downward -/
def bUp (j : Nat) : Nat := if j ≤ 9 then p2 (1074 + 2 ^ j) else inf
def bDown (j : Nat) : Nat := if j ≤ 10 then p2 (1074 - 2 ^ j) else 0

theorem pow_le (j n : Nat) (h : j ≤ n) : 2 ^ j ≤ 2 ^ n := Nat.pow_le_pow_right (by decide) h

theorem bUp_mul (j : Nat) (h : j ≤ 10) : floatBits .mul .f64 (bUp j) (bUp j) = some (bUp (j + 1)) := by
  show double.mul (bUp j) (bUp j) = some (bUp (j + 1))
  by_cases h8 : j ≤ 8
  · unfold bUp
    have := pow_le j 8 h8
    rw [if_pos (by omega), if_pos (by omega)]
    exact p2_mul _ _ _ (by omega) (by omega) (by rw [Nat.pow_succ]; omega) (by rw [Nat.pow_succ]; omega)
  · have : j = 9 ∨ j = 10 := by omega
    rcases this with rfl | rfl <;> decide

theorem bDown_mul (j : Nat) (h : j ≤ 10) : floatBits .mul .f64 (bDown j) (bDown j) = some (bDown (j + 1)) := by
  show double.mul (bDown j) (bDown j) = some (bDown (j + 1))
  by_cases h8 : j ≤ 9
  · unfold bDown
    have := pow_le j 9 h8
    rw [if_pos (by omega), if_pos (by omega)]
    rw [Nat.pow_succ]
    generalize 2 ^ j = t at *
    exact p2_mul _ _ _ (by omega) (by omega) (by omega) (by omega)
  · have : j = 10 := by omega
    subst this; decide

theorem bit_step (k j : Nat) : (k / 2 ^ j % 2 = 1 → k % 2 ^ (j + 1) = k % 2 ^ j + 2 ^ j) ∧ (¬ k / 2 ^ j % 2 = 1 → k % 2 ^ (j + 1) = k % 2 ^ j) := by
  have h := Nat.mod_pow_succ (b := 2) (k := j) (x := k)
  refine ⟨fun h1 => by rw [h, h1]; omega, fun h1 => ?_⟩
  have h2 : k / 2 ^ j % 2 = 0 := by omega
  rw [h, h2]; omega

theorem ret_float {k : FloatKind} {a b : Nat} (h : a = b) : Ending.returned (.float k a) = .returned (.float k b) := by rw [h]

theorem bit_test (k j : Nat) : (bits BinOp.and IntKind.i64 ((k : Int) / 2 ^ j) 1 == 1) = decide (k / 2 ^ j % 2 = 1) := by
  rw [and1]
  have e : ((k : Int) / 2 ^ j) % 2 = ((k / 2 ^ j % 2 : Nat) : Int) := by simp
  rw [e, Bool.eq_iff_iff]
  simp
  omega

end Go.Proofs.Ytbhomfgponhemaa.Z
