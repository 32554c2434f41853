/- The bit operations on whole numbers of 64 and 32 bits, as plain functions of natural numbers. -/
import Derived.Test.YtbhomfgponhemaaZSplit
namespace Go.Proofs.Ytbhomfgponhemaa.Z
open Ieee Go.RowKit Fl

theorem ofInt_nat (x : Nat) (h : x < 2 ^ 64) : (BitVec.ofInt 64 (x : Int)).toNat = x := by
  rw [BitVec.toNat_ofInt]; omega
theorem ofInt_nat32 (x : Nat) (h : x < 2 ^ 32) : (BitVec.ofInt 32 (x : Int)).toNat = x := by
  rw [BitVec.toNat_ofInt]; omega

theorem and_u64 (x y : Nat) (hx : x < 2 ^ 64) (hy : y < 2 ^ 64) : bits .and .u64 (x : Int) (y : Int) = ((x &&& y : Nat) : Int) := by
  show IntKind.u64.wrap ((BitVec.ofInt 64 (x : Int) &&& BitVec.ofInt 64 (y : Int)).toNat : Int) = _
  rw [BitVec.toNat_and, ofInt_nat x hx, ofInt_nat y hy, IntKind.wrap_u64]
  have := Nat.and_le_left (n := x) (m := y)
  omega
theorem or_u64 (x y : Nat) (hx : x < 2 ^ 64) (hy : y < 2 ^ 64) : bits .or .u64 (x : Int) (y : Int) = ((x ||| y : Nat) : Int) := by
  show IntKind.u64.wrap ((BitVec.ofInt 64 (x : Int) ||| BitVec.ofInt 64 (y : Int)).toNat : Int) = _
  rw [BitVec.toNat_or, ofInt_nat x hx, ofInt_nat y hy, IntKind.wrap_u64]
  have := Nat.or_lt_two_pow hx hy
  omega

theorem low_u64 (x n : Nat) (hx : x < 2 ^ 64) (hn : n ≤ 63) : bits .and .u64 (x : Int) ((2 ^ n - 1 : Nat) : Int) = ((x % 2 ^ n : Nat) : Int) := by
  have : 2 ^ n ≤ 2 ^ 63 := pow_le n 63 hn
  rw [and_u64 x _ hx (by omega), Nat.and_two_pow_sub_one_eq_mod]

theorem join_u64 (a n b : Nat) (hb : b < 2 ^ n) (h : a * 2 ^ n + b < 2 ^ 64) : bits .or .u64 ((a * 2 ^ n : Nat) : Int) (b : Int) = ((a * 2 ^ n + b : Nat) : Int) := by
  have e := Nat.shiftLeft_add_eq_or_of_lt hb a
  rw [Nat.shiftLeft_eq] at e
  rw [or_u64 _ _ (by omega) (by omega), ← e]

theorem wrap_u64_nat (x : Nat) (h : x < 2 ^ 64) : IntKind.u64.wrap (x : Int) = x := by
  rw [IntKind.wrap_u64]; omega

/-- a word that is not negative, by its rung -/
theorem toInt_word (x n : Nat) (hx : x < inf) (h : V x = n * 2 ^ 1074) (hn : n < 2 ^ 64) : floatToIntVal .f64 x .u64 = some (n : Int) := by
  obtain ⟨a1, a2, a3⟩ := fin_small hx
  have e : (FloatKind.f64.decode x).toInt .zero = some (n : Int) := toInt_exact x n (by rw [a1]; exact hx) a2 (by rw [a1]; exact h)
  unfold floatToIntVal
  rw [e]
  have h1 : IntKind.u64.min ≤ (n : Int) ∧ (n : Int) ≤ IntKind.u64.max := by
    refine ⟨?_, ?_⟩
    · show (0 : Int) ≤ n; omega
    · show (n : Int) ≤ 18446744073709551615; omega
  simp only [if_pos h1]

end Go.Proofs.Ytbhomfgponhemaa.Z
