/- The contract of the program's ToBits: the word of a float itself; of every NaN one word. -/
import Derived.Test.YtepgelalkfgdlaaBits
namespace Go.Proofs.Ytepgelalkfgdlaa
open Ieee Go.RowKit Fl
attribute [local go_sem] run_fneg

theorem shift2 (n a b c d : Nat) (h : a + b = c + d) : n * 2 ^ a * 2 ^ b = n * 2 ^ c * 2 ^ d := by
  rw [Nat.mul_assoc, Nat.mul_assoc, ← Nat.pow_add, ← Nat.pow_add, h]
theorem shift1 (n a c d : Nat) (h : a = c + d) : n * 2 ^ a = n * 2 ^ c * 2 ^ d := by
  rw [Nat.mul_assoc, ← Nat.pow_add, h]

theorem word_join (E f : Nat) (hE : E ≤ 2046) (hf : f < 2 ^ 52) :
    bits .or .u64 ((E : Int) * 4503599627370496) (bits .and .u64 (4503599627370496 + (f : Int)) 4503599627370495) = ((E * 2 ^ 52 + f : Nat) : Int) := by
  have e1 := low_u64 (2 ^ 52 + f) 52 (by omega) (by omega)
  rw [show (2 ^ 52 + f) % 2 ^ 52 = f from by omega] at e1
  have e2 : (((2 ^ 52 + f : Nat)) : Int) = 4503599627370496 + (f : Int) := by omega
  have e3 : ((2 ^ 52 - 1 : Nat) : Int) = 4503599627370495 := rfl
  rw [e2, e3] at e1
  have e4 := join_u64 E 52 f hf (by omega)
  have e5 : ((E * 2 ^ 52 : Nat) : Int) = (E : Int) * 4503599627370496 := by omega
  rw [e5] at e4
  rw [e1, e4]

theorem below_top (n k : Nat) (hn : n < 2 ^ 53) (hk : k ≤ 2045) : n * 2 ^ k < 2 ^ 2098 := by
  have h1 : n * 2 ^ k < 2 ^ 53 * 2 ^ k := Nat.mul_lt_mul_of_pos_right hn (Nat.two_pow_pos k)
  rw [← Nat.pow_add 2 53 k] at h1
  exact Nat.lt_of_lt_of_le h1 (pow_le (53 + k) 2098 (by omega))

theorem sub_steps (r : Nat) (h : r < 2 ^ 52) : ∃ a b, floatBits .mul .f64 r 7025615418697973760 = some a ∧ floatBits .mul .f64 a 7025615418697973760 = some b ∧ floatToIntVal .f64 b .u64 = some (r : Int) := by
  have e : (7025615418697973760 : Nat) = p2 1611 := by decide
  obtain ⟨a, ha, va⟩ := exists_rung r 537 (by omega) (below_top r 537 (by omega) (by omega))
  obtain ⟨b, hb', vb⟩ := exists_rung r 1074 (by omega) (below_top r 1074 (by omega) (by omega))
  have hr : r < inf := by unfold inf; omega
  refine ⟨a, b, ?_, ?_, toInt_word b r hb' vb (by omega)⟩
  · show double.mul _ _ = _
    rw [e]
    refine mul_pos _ _ _ hr (p2_lt (by omega)) ha ?_
    rw [V_small h, V_p2, va]
    exact shift1 r 1611 537 1074 rfl
  · show double.mul _ _ = _
    rw [e]
    refine mul_pos _ _ _ ha (p2_lt (by omega)) hb' ?_
    rw [va, V_p2, vb]
    exact shift2 r 537 1611 1074 1074 rfl

theorem lead_step (f : Nat) (hf : f < 2 ^ 52) : ∃ a, floatBits .mul .f64 (nw 0 f) 4841369599423283200 = some a ∧ floatToIntVal .f64 a .u64 = some ((2 ^ 52 + f : Nat) : Int) := by
  have e : (4841369599423283200 : Nat) = p2 1126 := by decide
  obtain ⟨a, ha, va⟩ := exists_rung (2 ^ 52 + f) 1074 (by omega) (below_top (2 ^ 52 + f) 1074 (by omega) (by omega))
  refine ⟨a, ?_, toInt_word a _ ha va (by omega)⟩
  show double.mul _ _ = _
  rw [e]
  refine mul_pos _ _ _ (nw_lt (by omega) hf) (p2_lt (by omega)) ha ?_
  rw [V_nw _ _ hf, V_p2, va, Nat.add_zero]
  exact shift2 (2 ^ 52 + f) 1022 1126 1074 1074 rfl

set_option maxHeartbeats 1000000 in
theorem size_bits (r : Nat) (h : r ≤ inf) (w : World) :
    Calls Try.prog 61 #[.float .f64 r] w fun e w' => e = .returned (.int .u64 r) ∧ w' = w := by
  by_cases hi : r = inf
  · subst hi
    have ho := order_inf 9218868437227405311 (by decide)
    have e : inf = 9218868437227405312 := by decide
    rw [e] at ho ⊢
    go_enter Try.func61, Try.ntmps61
    go_wp2
    go_ret
    exact ⟨rfl, rfl⟩
  · have hr : r < inf := by omega
    have ho := order_gt r 9218868437227405311 hr (by decide)
    have e : inf = 9218868437227405312 := by decide
    rw [decide_eq_false (by omega)] at ho
    have hl := order_lt r 4503599627370496 hr (by decide)
    by_cases hs : r < 4503599627370496
    · rw [decide_eq_true hs] at hl
      obtain ⟨a, b, m1, m2, m3⟩ := sub_steps r hs
      have q1 := fun w => run_float_arith (P := Try.prog) w .mul 24 .f64 _ _ _ m1
      have q2 := fun w => run_float_arith (P := Try.prog) w .mul 24 .f64 _ _ _ m2
      have q3 := fun w => run_convert_float_int (P := Try.prog) w 24 28 .f64 .u64 b r (by rw [Try.underlying24]; rfl) Try.underlying28 m3
      clear m1 m2 m3
      go_enter Try.func61, Try.ntmps61
      go_wp2
      go_ret
      exact ⟨rfl, rfl⟩
    · rw [decide_eq_false hs] at hl
      obtain ⟨E, hE⟩ : ∃ E, E = r / 2 ^ 52 := ⟨_, rfl⟩
      obtain ⟨f, hf⟩ : ∃ f, f = r % 2 ^ 52 := ⟨_, rfl⟩
      have hr2 : r = E * 2 ^ 52 + f := by omega
      have hf2 : f < 2 ^ 52 := by omega
      have hE1 : 1 ≤ E := by omega
      have hE2 : E ≤ 2046 := by omega
      obtain ⟨a, m1, m2⟩ := lead_step f hf2
      have q1 := fun w => run_float_arith (P := Try.prog) w .mul 24 .f64 _ _ _ m1
      have q2 := fun w => run_convert_float_int (P := Try.prog) w 24 28 .f64 .u64 a _ (by rw [Try.underlying24]; rfl) Try.underlying28 m2
      have hsp := fun w => split_any E f hE1 hE2 hf2 r hr2 w
      have Hr : Hid (r = E * 2 ^ 52 + f) := hr2
      clear m1 m2 hE hf hr2
      go_enter Try.func61, Try.ntmps61
      go_wp2_with fail
      refine (hsp _).mono ?_
      rintro e w' ⟨rfl, rfl⟩
      go_wp2_with fail
      go_ret
      exact ⟨ret_int (by rw [word_join E f hE2 hf2, ← Hr.out]), rfl⟩

/-- what ToBits tells of a word -/
def canon (b : Nat) : Nat := if inf < rung b then 9221120237041090561 else b

theorem canon_nan {b : Nat} (h : isNaN b) : canon b = 9221120237041090561 := if_pos h
theorem canon_no {b : Nat} (h : ¬ isNaN b) : canon b = b := if_neg h

theorem xor_top (x : Nat) (h : x < 2 ^ 63) : (2 ^ 63 + x) ^^^ 2 ^ 63 = x := by
  have e := Nat.two_pow_add_eq_or_of_lt h 1
  rw [Nat.mul_one] at e
  rw [e]
  apply Nat.eq_of_testBit_eq
  intro i
  have e2 : x.testBit 63 = false := Nat.testBit_lt_two_pow h
  rw [Nat.testBit_xor, Nat.testBit_or, Nat.testBit_two_pow]
  by_cases hi : 63 = i
  · subst hi; simp [e2]
  · simp [hi]

theorem fneg_neg (b : Nat) (h : b < 2 ^ 64) (hn : neg b = true) : fneg b = rung b ∧ b = 2 ^ 63 + rung b := by
  have h1 := word_of b h
  rw [hn, word_eq, if_pos rfl] at h1
  have hr : rung b < 2 ^ 63 := Nat.mod_lt _ (by decide)
  refine ⟨?_, h1.symm⟩
  have := xor_top (rung b) hr
  rw [h1] at this
  exact this

theorem order_zero_zero (x : Nat) (h : rung x = 0) : FloatKind.f64.format.order x 0 = some .eq := by
  show double.order x 0 = some .eq
  have e0 : double.read 0 = .number false 0 (-1074) := by decide
  have e2 : mag 0 = 0 := by decide
  have h1 : rung x < inf := by rw [h]; decide
  unfold Format.order
  rw [read_fin' x h1, e0, h, e2]
  unfold Datum.order signed
  simp

theorem isNaN_any (b : Nat) (w : World) :
    Calls Try.prog 59 #[.float .f64 b] w fun e w' => e = .returned (.bool (FloatKind.f64.format.order b b != some .eq)) ∧ w' = w := by
  go_enter Try.func59, Try.ntmps59
  go_wp2
  go_ret
  exact ⟨rfl, rfl⟩

theorem hasMinus_any (b : Nat) (h : rung b ≤ inf) (w : World) :
    Calls Try.prog 60 #[.float .f64 b] w fun e w' => e = .returned (.bool (neg b)) ∧ w' = w := by
  obtain ⟨r, hr, hd⟩ := div_one b h
  have hq := fun w => run_float_arith (P := Try.prog) w .quo 24 .f64 _ _ _ hd
  obtain ⟨n1, n2⟩ := neg_word_le (neg b) r hr
  cases hn : neg b with
  | false =>
    have h1 := order_zero_pos b hn h
    rw [hn] at n1 n2 hq
    have h2 := order_zero_pos _ n1 (by rw [n2]; exact hr)
    generalize double.word false r = x at *
    clear hd n1 n2
    go_enter Try.func60, Try.ntmps60
    go_wp2
    go_ret
    exact ⟨rfl, rfl⟩
  | true =>
    by_cases h0 : rung b = 0
    · have hz := div_zero b h0
      rw [hn] at hz
      have hq2 := fun w => run_float_arith (P := Try.prog) w .quo 24 .f64 _ _ _ hz
      have h1 := order_zero_zero b h0
      obtain ⟨m1, m2⟩ := neg_word_le true inf (Nat.le_refl _)
      have h2 := order_zero_neg _ m1 (by rw [m2]; decide) (by rw [m2]; exact Nat.le_refl _)
      generalize double.word true inf = x at *
      clear hz hq hd n1 n2 m1 m2
      go_enter Try.func60, Try.ntmps60
      go_wp2
      go_ret
      exact ⟨rfl, rfl⟩
    · have h1 := order_zero_neg b hn h0 h
      clear hq hd n1 n2
      go_enter Try.func60, Try.ntmps60
      go_wp2
      go_ret
      exact ⟨rfl, rfl⟩

theorem toBits_impl (b : Nat) (hb : b < 2 ^ 64) (w : World) :
    Calls Try.prog 22 #[.float .f64 b] w fun e w' => e = .returned (.int .u64 (canon b)) ∧ w' = w := by
  by_cases hn : isNaN b
  · have ho := order_nan b b hn
    rw [canon_nan hn]
    have hi := isNaN_any b
    rw [ho] at hi
    clear ho
    go_enter Try.func22, Try.ntmps22
    go_wp2_with fail
    refine (hi _).mono ?_
    rintro e w' ⟨rfl, rfl⟩
    go_wp2_with fail
    go_ret
    exact ⟨rfl, rfl⟩
  · have ho := order_self b hn
    rw [canon_no hn]
    have hi := isNaN_any b
    rw [ho] at hi
    have hr : rung b ≤ inf := by unfold isNaN at hn; omega
    have hm := hasMinus_any b hr
    clear ho
    cases hs : neg b with
    | false =>
      rw [hs] at hm
      have hw := word_of b hb
      rw [hs, word_false] at hw
      rw [hw] at hr
      have hz := size_bits b hr
      clear hw
      go_enter Try.func22, Try.ntmps22
      go_wp2_with fail
      refine (hi _).mono ?_
      rintro e w' ⟨rfl, rfl⟩
      go_wp2_with fail
      refine (hm _).mono ?_
      rintro e w' ⟨rfl, rfl⟩
      go_wp2_with fail
      refine (hz _).mono ?_
      rintro e w' ⟨rfl, rfl⟩
      go_wp2_with fail
      go_ret
      exact ⟨rfl, rfl⟩
    | true =>
      rw [hs] at hm
      obtain ⟨f1, f2⟩ := fneg_neg b hb hs
      have hz := size_bits (rung b) hr
      rw [← f1] at hz
      have Hj : Hid (bits .or .u64 9223372036854775808 (fneg b : Int) = (b : Int)) := by
        have := join_u64 1 63 (fneg b) (by rw [f1]; exact Nat.mod_lt _ (by decide)) (by omega)
        have e : ((1 * 2 ^ 63 : Nat) : Int) = 9223372036854775808 := rfl
        rw [e] at this
        show _ = _
        rw [this]
        omega
      clear f1 f2
      go_enter Try.func22, Try.ntmps22
      go_wp2_with fail
      refine (hi _).mono ?_
      rintro e w' ⟨rfl, rfl⟩
      go_wp2_with fail
      refine (hm _).mono ?_
      rintro e w' ⟨rfl, rfl⟩
      go_wp2_with fail
      refine (hz _).mono ?_
      rintro e w' ⟨rfl, rfl⟩
      go_wp2_with fail
      go_ret
      exact ⟨ret_int Hj.out, rfl⟩

end Go.Proofs.Ytepgelalkfgdlaa
