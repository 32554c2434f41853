/- The contract of powerOfTwo: 2 to the power k, from -1074 to 1023. -/
import Derived.Test.YtepgelalkfgdlaaTurn
import Derived.Test.YtepgelalkfgdlaaFl2
namespace Go.Proofs.Ytepgelalkfgdlaa
open Ieee Go.RowKit Fl

theorem and1 (k : Int) : bits .and .i64 k 1 = k % 2 := by
  show IntKind.i64.wrap ((BitVec.ofInt 64 k &&& BitVec.ofInt 64 1).toNat : Int) = k % 2
  have e : (BitVec.ofInt 64 k &&& BitVec.ofInt 64 1).toNat = (k % 2).toNat := by
    rw [BitVec.toNat_and, BitVec.toNat_ofInt, BitVec.toNat_ofInt]
    show (k % 2 ^ 64).toNat &&& 1 = _
    rw [show (1 : Nat) = 2 ^ 1 - 1 from rfl, Nat.and_two_pow_sub_one_eq_mod]
    omega
  rw [e, IntKind.wrap_i64]
  omega

/-- the base in round j, upward and downward -/
def bUp (j : Nat) : Nat := if j ≤ 9 then p2 (1074 + 2 ^ j) else inf
def bDown (j : Nat) : Nat := if j ≤ 10 then p2 (1074 - 2 ^ j) else 0

theorem pow_le (j n : Nat) (h : j ≤ n) : 2 ^ j ≤ 2 ^ n := Nat.pow_le_pow_right (by decide) h

theorem bUp_mul (j : Nat) (h : j ≤ 10) : floatBits .mul .f64 (bUp j) (bUp j) = some (bUp (j + 1)) := by
  show double.mul (bUp j) (bUp j) = some (bUp (j + 1))
  by_cases h8 : j ≤ 8
  · unfold bUp
    have := pow_le j 8 h8
    rw [if_pos (by omega), if_pos (by omega)]
    exact p2_mul _ _ _ (by omega) (by omega) (by rw [Nat.pow_succ]; omega) (by rw [Nat.pow_succ]; omega)
  · have : j = 9 ∨ j = 10 := by omega
    rcases this with rfl | rfl <;> decide

theorem bDown_mul (j : Nat) (h : j ≤ 10) : floatBits .mul .f64 (bDown j) (bDown j) = some (bDown (j + 1)) := by
  show double.mul (bDown j) (bDown j) = some (bDown (j + 1))
  by_cases h8 : j ≤ 9
  · unfold bDown
    have := pow_le j 9 h8
    rw [if_pos (by omega), if_pos (by omega)]
    rw [Nat.pow_succ]
    generalize 2 ^ j = t at *
    exact p2_mul _ _ _ (by omega) (by omega) (by omega) (by omega)
  · have : j = 10 := by omega
    subst this; decide

theorem bit_step (k j : Nat) : (k / 2 ^ j % 2 = 1 → k % 2 ^ (j + 1) = k % 2 ^ j + 2 ^ j) ∧ (¬ k / 2 ^ j % 2 = 1 → k % 2 ^ (j + 1) = k % 2 ^ j) := by
  have h := Nat.mod_pow_succ (b := 2) (k := j) (x := k)
  refine ⟨fun h1 => by rw [h, h1]; omega, fun h1 => ?_⟩
  have h2 : k / 2 ^ j % 2 = 0 := by omega
  rw [h, h2]; omega

theorem ret_float {k : FloatKind} {a b : Nat} (h : a = b) : Ending.returned (.float k a) = .returned (.float k b) := by rw [h]

theorem bit_test (k j : Nat) : (bits BinOp.and IntKind.i64 ((k : Int) / 2 ^ j) 1 == 1) = decide (k / 2 ^ j % 2 = 1) := by
  rw [and1]
  have e : ((k : Int) / 2 ^ j) % 2 = ((k / 2 ^ j % 2 : Nat) : Int) := by simp
  rw [e, Bool.eq_iff_iff]
  simp
  omega

set_option maxHeartbeats 1000000 in
theorem power_up (k : Nat) (hk : k ≤ 1023) (w : World) :
    Calls Try.prog 85 #[.int .i64 k] w fun e w' => e = .returned (.float .f64 (p2 (1074 + k))) ∧ w' = w := by
  go_enter Try.func85, Try.ntmps85
  go_wp2
  go_loop [3, 4, 10] (fun p b i => ∃ j : Nat, j ≤ 11 ∧ i = .int .i64 j ∧ b = .float .f64 (bUp j) ∧ p = .float .f64 (p2 (1074 + k % 2 ^ j))) (fun _ _ i => 11 - (intOf i).toNat)
  case atStart => exact ⟨0, by omega, rfl, rfl, by rw [Nat.pow_zero, Nat.mod_one]; rfl⟩
  case round =>
    obtain ⟨j, hj, rfl, rfl, rfl⟩ := hrel
    by_cases hlt : j < 11
    · have hq := fun w => run_float_arith (P := Try.prog) w .mul 24 .f64 _ _ _ (bUp_mul j (by omega))
      obtain ⟨s1, s2⟩ := bit_step k j
      have ht := bit_test k j
      by_cases hb : k / 2 ^ j % 2 = 1
      · have hj9 : j ≤ 9 := by
          by_cases h9 : j ≤ 9
          · exact h9
          · have : k / 2 ^ j = 0 := by rw [show j = 10 from by omega]; omega
            omega
        have hm : floatBits .mul .f64 (p2 (1074 + k % 2 ^ j)) (bUp j) = some (p2 (1074 + (k % 2 ^ j + 2 ^ j))) := by
          have := pow_le j 9 hj9
          have h3 : k % 2 ^ j < 2 ^ j := Nat.mod_lt _ (Nat.two_pow_pos j)
          unfold bUp; rw [if_pos hj9]
          show double.mul _ _ = _
          exact p2_mul _ _ _ (by omega) (by omega) (by omega) (by omega)
        have hq2 := fun w => run_float_arith (P := Try.prog) w .mul 24 .f64 _ _ _ hm
        have HS : Hid (k % 2 ^ (j + 1) = k % 2 ^ j + 2 ^ j) := s1 hb
        rw [decide_eq_true hb] at ht
        clear s1 s2 hb hm
        go_wp2
        go_round
        case rel => exact ⟨j + 1, by omega, by go_num, rfl, by rw [HS.out]⟩
        case measure => simp [intOf]; omega
      · have HS : Hid (k % 2 ^ (j + 1) = k % 2 ^ j) := s2 hb
        rw [decide_eq_false hb] at ht
        clear s1 s2 hb
        go_wp2
        go_round
        case rel => exact ⟨j + 1, by omega, by go_num, rfl, by rw [HS.out]⟩
        case measure => simp [intOf]; omega
    · have HS : Hid (k % 2 ^ j = k) := by
        rw [show j = 11 from by omega]; exact Nat.mod_eq_of_lt (by omega)
      go_wp2
      go_ret
      exact ⟨ret_float (by rw [HS.out]), rfl⟩

set_option maxHeartbeats 1000000 in
theorem power_down (k : Nat) (h0 : 0 < k) (hk : k ≤ 1074) (w : World) :
    Calls Try.prog 85 #[.int .i64 (-(k : Int))] w fun e w' => e = .returned (.float .f64 (p2 (1074 - k))) ∧ w' = w := by
  go_enter Try.func85, Try.ntmps85
  go_wp2
  go_loop [3, 4, 10] (fun p b i => ∃ j : Nat, j ≤ 11 ∧ i = .int .i64 j ∧ b = .float .f64 (bDown j) ∧ p = .float .f64 (p2 (1074 - k % 2 ^ j))) (fun _ _ i => 11 - (intOf i).toNat)
  case atStart => exact ⟨0, by omega, rfl, rfl, by rw [Nat.pow_zero, Nat.mod_one]; rfl⟩
  case round =>
    obtain ⟨j, hj, rfl, rfl, rfl⟩ := hrel
    by_cases hlt : j < 11
    · have hq := fun w => run_float_arith (P := Try.prog) w .mul 24 .f64 _ _ _ (bDown_mul j (by omega))
      obtain ⟨s1, s2⟩ := bit_step k j
      have ht := bit_test k j
      by_cases hb : k / 2 ^ j % 2 = 1
      · have hm : floatBits .mul .f64 (p2 (1074 - k % 2 ^ j)) (bDown j) = some (p2 (1074 - (k % 2 ^ j + 2 ^ j))) := by
          have := pow_le j 10 (by omega)
          have h3 : k % 2 ^ j < 2 ^ j := Nat.mod_lt _ (Nat.two_pow_pos j)
          have h4 : k % 2 ^ j + 2 ^ j ≤ k := by rw [← s1 hb]; exact Nat.mod_le _ _
          unfold bDown; rw [if_pos (by omega)]
          show double.mul _ _ = _
          generalize 2 ^ j = t at *
          exact p2_mul _ _ _ (by omega) (by omega) (by omega) (by omega)
        have hq2 := fun w => run_float_arith (P := Try.prog) w .mul 24 .f64 _ _ _ hm
        have HS : Hid (k % 2 ^ (j + 1) = k % 2 ^ j + 2 ^ j) := s1 hb
        rw [decide_eq_true hb] at ht
        clear s1 s2 hb hm
        go_wp2
        go_round
        case rel => exact ⟨j + 1, by omega, by go_num, rfl, by rw [HS.out]⟩
        case measure => simp [intOf]; omega
      · have HS : Hid (k % 2 ^ (j + 1) = k % 2 ^ j) := s2 hb
        rw [decide_eq_false hb] at ht
        clear s1 s2 hb
        go_wp2
        go_round
        case rel => exact ⟨j + 1, by omega, by go_num, rfl, by rw [HS.out]⟩
        case measure => simp [intOf]; omega
    · have HS : Hid (k % 2 ^ j = k) := by
        rw [show j = 11 from by omega]; exact Nat.mod_eq_of_lt (by omega)
      go_wp2
      go_ret
      exact ⟨ret_float (by rw [HS.out]), rfl⟩

end Go.Proofs.Ytepgelalkfgdlaa
