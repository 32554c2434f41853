/- Contracts of the two OrderFloats: the order of the keys. -/
import Derived.Test.YtbhomfgponhemaaZKey
namespace Go.Proofs.Ytbhomfgponhemaa.Z
open Ieee Go.RowKit Fl

theorem gt_zero (b : Nat) (h : ¬ inf < rung b) (hn : neg b = false) : (FloatKind.f64.format.order b 0 == some .gt) = decide (0 < rung b) := by
  have h0 : ¬ inf < rung 0 := by decide
  rw [order_key b 0 h h0 (by rw [hn]; decide), (cmp_tests _ _).2, okey_pos h hn, okey_pos h0 (by decide)]
  have e : rung 0 = 0 := by decide
  rw [e]
  by_cases hc : 0 < rung b
  · rw [decide_eq_true hc, decide_eq_true (by omega)]
  · rw [decide_eq_false hc, decide_eq_false (by omega)]

theorem rank_spec (b : Nat) (w : World) :
    Calls Try.prog 28 #[.float .f64 b] w fun e w' => e = .returned (.int .i64 (rk b)) ∧ w' = w := by
  by_cases hn : inf < rung b
  · have ho := order_nan b b hn
    rw [show rk b = 4 from if_pos hn]
    go_enter Try.func28, Try.ntmps28
    go_wp2
    go_ret
    exact ⟨rfl, rfl⟩
  · have ho := order_self b hn
    have hm := minus_spec b (by omega)
    cases hs : neg b with
    | false =>
      have h1 := order_zero_pos b hs (by omega)
      have h2 := gt_zero b hn hs
      rw [hs] at hm
      by_cases h0 : rung b = 0
      · have e : rk b = 2 := by unfold rk; rw [if_neg hn, hs, if_neg (by decide), if_pos h0]
        rw [e]
        rw [decide_eq_false (by omega)] at h2
        clear e hn h0 hs
        go_enter Try.func28, Try.ntmps28
        go_wp2_with fail
        refine (hm _).mono ?_
        rintro e w' ⟨rfl, rfl⟩
        go_wp2_with fail
        go_ret
        exact ⟨rfl, rfl⟩
      · have e : rk b = 3 := by unfold rk; rw [if_neg hn, hs, if_neg (by decide), if_neg h0]
        rw [e]
        rw [decide_eq_true (by omega)] at h2
        clear e hn h0 hs hm
        go_enter Try.func28, Try.ntmps28
        go_wp2_with fail
        go_ret
        exact ⟨rfl, rfl⟩
    | true =>
      rw [hs] at hm
      by_cases h0 : rung b = 0
      · have e : rk b = 1 := by unfold rk; rw [if_neg hn, hs, if_pos h0]; rfl
        have h1 := order_zero_zero b h0
        rw [e]
        clear e hn h0 hs
        go_enter Try.func28, Try.ntmps28
        go_wp2_with fail
        refine (hm _).mono ?_
        rintro e w' ⟨rfl, rfl⟩
        go_wp2_with fail
        go_ret
        exact ⟨rfl, rfl⟩
      · have e : rk b = 0 := by unfold rk; rw [if_neg hn, hs, if_neg h0]; rfl
        have h1 := order_zero_neg b hs h0 (by omega)
        rw [e]
        clear e hn h0 hs hm
        go_enter Try.func28, Try.ntmps28
        go_wp2_with fail
        go_ret
        exact ⟨rfl, rfl⟩

theorem order_spec (a b : Nat) (w : World) :
    Calls Try.prog 25 #[.float .f64 a, .float .f64 b] w fun e w' => e = .returned (.int .i64 (cmpI (okey a) (okey b))) ∧ w' = w := by
  obtain ⟨f1, f2, f3⟩ := rank_facts a b
  have ha := rank_spec a
  have hb := rank_spec b
  by_cases h1 : rk a < rk b
  · have H : Hid (cmpI (okey a) (okey b) = -1) := if_pos (f1 h1)
    rw [H.out]
    clear f1 f2 f3 H
    generalize rk a = i at *
    generalize rk b = k at *
    go_enter Try.func25, Try.ntmps25
    go_wp2_with fail
    refine (ha _).mono ?_
    rintro e w' ⟨rfl, rfl⟩
    go_wp2_with fail
    refine (hb _).mono ?_
    rintro e w' ⟨rfl, rfl⟩
    go_wp2_with fail
    go_ret
    exact ⟨rfl, rfl⟩
  · by_cases h2 : rk b < rk a
    · have h3 := f2 h2
      have H : Hid (cmpI (okey a) (okey b) = 1) := by show cmpI _ _ = 1; unfold cmpI; rw [if_neg (by omega), if_pos h3]
      rw [H.out]
      clear f1 f2 f3 H h3
      have h4 : (rk a == rk b) = false := by rw [beq_eq_false_iff_ne]; omega
      generalize rk a = i at *
      generalize rk b = k at *
      go_enter Try.func25, Try.ntmps25
      go_wp2_with fail
      refine (ha _).mono ?_
      rintro e w' ⟨rfl, rfl⟩
      go_wp2_with fail
      refine (hb _).mono ?_
      rintro e w' ⟨rfl, rfl⟩
      go_wp2_with fail
      go_ret
      exact ⟨rfl, rfl⟩
    · obtain ⟨g1, g2⟩ := f3 (by omega)
      have h3 : rk b = rk a := by omega
      rw [h3] at hb
      have H : Hid (cmpI (okey a) (okey b) = if okey a < okey b then -1 else if okey b < okey a then 1 else 0) := rfl
      rw [H.out]
      clear f1 f2 f3 H h1 h2 h3
      generalize rk a = i at *
      generalize okey a = x at *
      generalize okey b = y at *
      by_cases c1 : x < y
      · rw [decide_eq_true c1] at g1
        rw [if_pos c1]
        clear g2 c1
        go_enter Try.func25, Try.ntmps25
        go_wp2_with fail
        refine (ha _).mono ?_
        rintro e w' ⟨rfl, rfl⟩
        go_wp2_with fail
        refine (hb _).mono ?_
        rintro e w' ⟨rfl, rfl⟩
        go_wp2_with fail
        go_ret
        exact ⟨rfl, rfl⟩
      · rw [decide_eq_false c1] at g1
        rw [if_neg c1]
        by_cases c2 : y < x
        · rw [decide_eq_true c2] at g2
          rw [if_pos c2]
          clear c1 c2
          go_enter Try.func25, Try.ntmps25
          go_wp2_with fail
          refine (ha _).mono ?_
          rintro e w' ⟨rfl, rfl⟩
          go_wp2_with fail
          refine (hb _).mono ?_
          rintro e w' ⟨rfl, rfl⟩
          go_wp2_with fail
          go_ret
          exact ⟨rfl, rfl⟩
        · rw [decide_eq_false c2] at g2
          rw [if_neg c2]
          clear c1 c2
          go_enter Try.func25, Try.ntmps25
          go_wp2_with fail
          refine (ha _).mono ?_
          rintro e w' ⟨rfl, rfl⟩
          go_wp2_with fail
          refine (hb _).mono ?_
          rintro e w' ⟨rfl, rfl⟩
          go_wp2_with fail
          go_ret
          exact ⟨rfl, rfl⟩

theorem and_pow (x i : Nat) : x &&& 2 ^ i = if x.testBit i then 2 ^ i else 0 := by
  apply Nat.eq_of_testBit_eq
  intro j
  rw [Nat.testBit_and, Nat.testBit_two_pow]
  by_cases h : i = j
  · subst h
    cases hb : x.testBit i <;> simp
  · cases hb : x.testBit i <;> simp [h]

theorem and_top (x : Nat) (h : x < 2 ^ 63) : bits .and .u64 (x : Int) 9223372036854775808 = 0 := by
  have e := and_u64 x (2 ^ 63) (by omega) (by decide)
  have e2 : x &&& 2 ^ 63 = 0 := by rw [and_pow, Nat.testBit_lt_two_pow h]; rfl
  rw [e2] at e
  exact e
theorem and_top' (x : Nat) (h : x < 2 ^ 63) : bits .and .u64 (9223372036854775808 + (x : Int)) 9223372036854775808 = 9223372036854775808 := by
  have e := and_u64 (2 ^ 63 + x) (2 ^ 63) (by omega) (by decide)
  have e2 : (2 ^ 63 + x) &&& 2 ^ 63 = 2 ^ 63 := by
    rw [and_pow, Nat.testBit_two_pow_add_eq, Nat.testBit_lt_two_pow h]; rfl
  rw [e2] at e
  have e3 : ((2 ^ 63 + x : Nat) : Int) = 9223372036854775808 + (x : Int) := by omega
  rw [e3] at e
  exact e
theorem or_top (x : Nat) (h : x < 2 ^ 63) : bits .or .u64 (x : Int) 9223372036854775808 = 9223372036854775808 + (x : Int) := by
  have e := or_u64 x (2 ^ 63) (by omega) (by decide)
  have e2 := Nat.two_pow_add_eq_or_of_lt h 1
  rw [Nat.mul_one, Nat.or_comm] at e2
  rw [← e2] at e
  have e3 : ((2 ^ 63 + x : Nat) : Int) = 9223372036854775808 + (x : Int) := by omega
  rw [e3] at e
  exact e
theorem not_u64 (x : Nat) (h : x < 2 ^ 64) : bits .xor .u64 18446744073709551615 (x : Int) = 18446744073709551615 - (x : Int) := by
  show IntKind.u64.wrap ((BitVec.ofInt 64 18446744073709551615 ^^^ BitVec.ofInt 64 (x : Int)).toNat : Int) = _
  have e1 : (BitVec.ofInt 64 18446744073709551615) = BitVec.allOnes 64 := by decide
  rw [e1, BitVec.allOnes_xor, BitVec.toNat_not, ofInt_nat x h, IntKind.wrap_u64]
  omega

theorem cmpI_shift (c x y : Int) : cmpI (c + x) (c + y) = cmpI x y := by
  unfold cmpI
  by_cases h1 : x < y
  · rw [if_pos h1, if_pos (by omega)]
  · by_cases h2 : y < x
    · rw [if_neg h1, if_pos h2, if_neg (by omega), if_pos (by omega)]
    · rw [if_neg h1, if_neg h2, if_neg (by omega), if_neg (by omega)]

end Go.Proofs.Ytbhomfgponhemaa.Z
