/- The contract of the specification's ToBits: the word of a float itself; of every NaN one word. -/
import Derived.Test.YtepgelalkfgdlaaFl4
namespace Go.Proofs.Ytepgelalkfgdlaa
open Ieee Go.RowKit Fl
attribute [local go_sem] run_fneg

theorem minus_spec (b : Nat) (h : rung b ≤ inf) (w : World) :
    Calls Try.prog 64 #[.float .f64 b] w fun e w' => e = .returned (.bool (neg b)) ∧ w' = w := by
  by_cases h0 : rung b = 0
  · have hz := div_zero b h0
    have hq := fun w => run_float_arith (P := Try.prog) w .quo 24 .f64 _ _ _ hz
    have h1 := order_zero_zero b h0
    obtain ⟨m1, m2⟩ := neg_word_le (neg b) inf (Nat.le_refl _)
    cases hn : neg b with
    | false =>
      rw [hn] at m1 m2 hq
      have h2 := order_zero_pos _ m1 (by rw [m2]; exact Nat.le_refl _)
      generalize double.word false inf = x at *
      clear hz m1 m2
      go_enter Try.func64, Try.ntmps64
      go_wp2
      go_ret
      exact ⟨rfl, rfl⟩
    | true =>
      rw [hn] at m1 m2 hq
      have h2 := order_zero_neg _ m1 (by rw [m2]; decide) (by rw [m2]; exact Nat.le_refl _)
      generalize double.word true inf = x at *
      clear hz m1 m2
      go_enter Try.func64, Try.ntmps64
      go_wp2
      go_ret
      exact ⟨rfl, rfl⟩
  · have h3 : (FloatKind.f64.format.order b 0 == some .eq) = false := by
      cases hc : (FloatKind.f64.format.order b 0 == some .eq) with
      | false => rfl
      | true => exact absurd (rung_of_zero b (by simpa using hc)) h0
    cases hn : neg b with
    | false =>
      have h1 := order_zero_pos b hn h
      go_enter Try.func64, Try.ntmps64
      go_wp2
      go_ret
      exact ⟨rfl, rfl⟩
    | true =>
      have h1 := order_zero_neg b hn h0 h
      clear h3
      go_enter Try.func64, Try.ntmps64
      go_wp2
      go_ret
      exact ⟨rfl, rfl⟩

def bitsOf : Value → Nat
  | .float _ b => b
  | _ => 0

/-- the state of the first loop: halved t times -/
def Down (r0 : Nat) (a e : Value) : Prop :=
  ∃ r t : Nat, r < inf ∧ 0 < r ∧ V r0 = V r * 2 ^ t ∧ t ≤ 1023 ∧ (t = 0 ∨ 4607182418800017408 ≤ r) ∧ a = .float .f64 r ∧ e = .int .i64 t

/-- the state of the second loop: halved t times and not below 1, or doubled t times -/
def Up (r0 : Nat) (a e : Value) : Prop :=
  ∃ r t : Nat, r < 4611686018427387904 ∧ a = .float .f64 r ∧
    ((V r0 = V r * 2 ^ t ∧ t ≤ 1023 ∧ 4607182418800017408 ≤ r ∧ e = .int .i64 t) ∨ (V r = V r0 * 2 ^ t ∧ t ≤ 1022 ∧ e = .int .i64 (-(t : Int))))

set_option maxHeartbeats 2000000 in
set_option maxRecDepth 20000 in
/-- a word between nought and infinity, with no minus -/
theorem toBits_spec_pos (r : Nat) (h0 : 0 < r) (hr : r < inf) (w : World) :
    Calls Try.prog 24 #[.float .f64 r] w fun e w' => e = .returned (.int .u64 r) ∧ w' = w := by
  obtain ⟨s1, s2, s3⟩ := fin_small hr
  have ho := order_self r (by unfold isNaN; omega)
  have hm := minus_spec r (by omega)
  rw [s2] at hm
  have hz : (FloatKind.f64.format.order r 0 == some .eq) = false := by
    cases hc : (FloatKind.f64.format.order r 0 == some .eq) with
    | false => rfl
    | true => have := rung_of_zero r (by simpa using hc); omega
  have hx : (FloatKind.f64.format.order r 9218868437227405311 == some .gt) = false := by
    rw [order_gt r _ hr (by decide)]
    have e : inf = 9218868437227405312 := by decide
    exact decide_eq_false (by omega)
  clear s1 s2 s3
  · go_enter Try.func24, Try.ntmps24
    go_wp2_with fail
    refine (hm _).mono ?_
    rintro e w' ⟨rfl, rfl⟩
    clear hm
    go_wp2_with fail

    -- the two loops
    go_loop [4, 5] (fun a e => Down r a e) (fun a _ => bitsOf a)
    case atStart => exact ⟨r, 0, hr, h0, by rw [Nat.pow_zero, Nat.mul_one], by omega, .inl rfl, rfl, rfl⟩
    case round =>
      obtain ⟨x, t, hx, hx0, HV, ht, hc, rfl, rfl⟩ := hrel
      have hg := order_ge x 4611686018427387904 hx (by decide)
      by_cases h2 : 4611686018427387904 ≤ x
      · rw [decide_eq_true h2] at hg
        obtain ⟨q1, q2, q3, q4⟩ := halve x h2 hx
        have hq := fun w => run_float_arith (P := Try.prog) w .quo 24 .f64 _ _ _ q1
        have HV2 : V r = V (x - 2 ^ 52) * 2 ^ (t + 1) := by rw [HV, q2, Nat.mul_assoc, ← Nat.pow_add, Nat.add_comm 1 t]
        have ht2 := up_bound r (x - 2 ^ 52) (t + 1) hr q4 HV2
        obtain ⟨y, hy⟩ : ∃ y, y = x - 2 ^ 52 := ⟨_, rfl⟩
        rw [← hy] at q3 q4 hq HV2
        have hyx : y < x := by omega
        have H : Hid (V r = V y * 2 ^ (t + 1)) := HV2
        clear q1 q2 HV HV2 hc hy
        go_wp2
        go_round
        case rel => exact ⟨y, t + 1, q3, by omega, H.out, ht2, .inr q4, rfl, by go_num⟩
        case measure => exact hyx
      · rw [decide_eq_false h2] at hg
        have H : Hid (Up r (.float .f64 x) (.int .i64 t)) := by
          rcases hc with hc | hc
          · subst hc
            exact ⟨x, 0, by omega, rfl, .inr ⟨by rw [HV, Nat.pow_zero, Nat.mul_one, Nat.mul_one], by omega, rfl⟩⟩
          · exact ⟨x, t, by omega, rfl, .inl ⟨HV, ht, hc, rfl⟩⟩
        clear HV hc
        go_wp2
        go_loop [4, 5] (fun a e => Up r a e) (fun _ e => (intOf e + 1023).toNat)
        case atStart => exact H.out
        case round =>
          clear H hg h2
          obtain ⟨x, t, hx, rfl, hd⟩ := hrel
          have hxi : x < inf := by have e : inf = 2047 * 2 ^ 52 := rfl; omega
          have hl := order_lt x 4607182418800017408 hxi (by decide)
          rcases hd with ⟨HV, ht, hx1, rfl⟩ | ⟨HV, ht, rfl⟩
          · -- not below 1: the end
            rw [decide_eq_false (by omega)] at hl
            obtain ⟨f, hf⟩ : ∃ f, f = x - 4607182418800017408 := ⟨_, rfl⟩
            have hf2 : f < 2 ^ 52 := by omega
            have hxf : x = nw 0 f := by unfold nw; omega
            obtain ⟨a, b, m1, m2, m3⟩ := minus_one f hf2
            rw [← hxf] at m1
            have q1 := fun w => run_float_arith (P := Try.prog) w .sub 24 .f64 _ _ _ m1
            have q2 := fun w => run_float_arith (P := Try.prog) w .mul 24 .f64 _ _ _ m2
            have q3 := fun w => run_convert_float_int (P := Try.prog) w 24 28 .f64 .u64 b f (by rw [Try.underlying24]; rfl) Try.underlying28 m3
            have H : Hid (r = (1023 + t) * 2 ^ 52 + f) := back_up r f t hf2 (by rw [← hxf]; exact HV)
            clear m1 m2 m3 HV hf hxf
            go_wp2
            go_ret
            exact ⟨ret_int (by have := H.out; omega), rfl⟩
          · by_cases hx1 : x < 4607182418800017408
            · rw [decide_eq_true hx1] at hl
              by_cases ht2 : t < 1022
              · obtain ⟨y, m1, m2, m3, m4⟩ := doubled x hx1
                have q1 := fun w => run_float_arith (P := Try.prog) w .mul 24 .f64 _ _ _ m1
                have H : Hid (V y = V r * 2 ^ (t + 1)) := by
                  show V y = _
                  rw [m2, HV, Nat.mul_assoc, ← Nat.pow_add]
                have M4 : Hid (y < 4611686018427387904) := m4
                clear m1 m2 m3 m4 HV hx hxi hx1
                go_wp2
                go_round
                case rel => exact ⟨y, t + 1, M4.out, rfl, .inr ⟨H.out, by omega, by congr 1; omega⟩⟩
                case measure => simp [intOf]; omega
              · obtain ⟨k1, b, m1, m2⟩ := tail_sub r x hxi (by rw [HV, show t = 1022 from by omega]) hx1
                have q1 := fun w => run_float_arith (P := Try.prog) w .mul 24 .f64 _ _ _ m1
                have q2 := fun w => run_convert_float_int (P := Try.prog) w 24 28 .f64 .u64 b r (by rw [Try.underlying24]; rfl) Try.underlying28 m2
                clear m1 m2 HV hx hxi hx1
                go_wp2
                go_ret
                exact ⟨ret_int (by omega), rfl⟩
            · rw [decide_eq_false hx1] at hl
              obtain ⟨f, hf⟩ : ∃ f, f = x - 4607182418800017408 := ⟨_, rfl⟩
              have hf2 : f < 2 ^ 52 := by omega
              have hxf : x = nw 0 f := by unfold nw; omega
              obtain ⟨a, b, m1, m2, m3⟩ := minus_one f hf2
              rw [← hxf] at m1
              have q1 := fun w => run_float_arith (P := Try.prog) w .sub 24 .f64 _ _ _ m1
              have q2 := fun w => run_float_arith (P := Try.prog) w .mul 24 .f64 _ _ _ m2
              have q3 := fun w => run_convert_float_int (P := Try.prog) w 24 28 .f64 .u64 b f (by rw [Try.underlying24]; rfl) Try.underlying28 m3
              have H : Hid (r = (1023 - t) * 2 ^ 52 + f) := back_down r f t hf2 ht (by rw [← hxf]; exact HV)
              clear m1 m2 m3 HV hf hxf
              go_wp2
              go_ret
              exact ⟨ret_int (by have := H.out; omega), rfl⟩

set_option maxHeartbeats 2000000 in
set_option maxRecDepth 20000 in
/-- a word between nought and infinity, with a minus -/
theorem toBits_spec_neg (b r : Nat) (hf0 : fneg b = r) (hn : neg b = true) (hrb : rung b = r) (h0 : 0 < r) (hr : r < inf) (w : World) :
    Calls Try.prog 24 #[.float .f64 b] w fun e w' => e = .returned (.int .u64 (9223372036854775808 + (r : Int))) ∧ w' = w := by
  obtain ⟨s1, s2, s3⟩ := fin_small hr
  have ho := order_self b (by unfold isNaN; omega)
  have hm := minus_spec b (by omega)
  rw [hn] at hm
  have hz : (FloatKind.f64.format.order r 0 == some .eq) = false := by
    cases hc : (FloatKind.f64.format.order r 0 == some .eq) with
    | false => rfl
    | true => have := rung_of_zero r (by simpa using hc); omega
  have hx : (FloatKind.f64.format.order r 9218868437227405311 == some .gt) = false := by
    rw [order_gt r _ hr (by decide)]
    have e : inf = 9218868437227405312 := by decide
    exact decide_eq_false (by omega)
  clear s1 s2 s3 hrb hn
  · go_enter Try.func24, Try.ntmps24
    go_wp2_with fail
    refine (hm _).mono ?_
    rintro e w' ⟨rfl, rfl⟩
    clear hm
    go_wp2_with fail

    -- the two loops
    go_loop [4, 5] (fun a e => Down r a e) (fun a _ => bitsOf a)
    case atStart => exact ⟨r, 0, hr, h0, by rw [Nat.pow_zero, Nat.mul_one], by omega, .inl rfl, rfl, rfl⟩
    case round =>
      obtain ⟨x, t, hx, hx0, HV, ht, hc, rfl, rfl⟩ := hrel
      have hg := order_ge x 4611686018427387904 hx (by decide)
      by_cases h2 : 4611686018427387904 ≤ x
      · rw [decide_eq_true h2] at hg
        obtain ⟨q1, q2, q3, q4⟩ := halve x h2 hx
        have hq := fun w => run_float_arith (P := Try.prog) w .quo 24 .f64 _ _ _ q1
        have HV2 : V r = V (x - 2 ^ 52) * 2 ^ (t + 1) := by rw [HV, q2, Nat.mul_assoc, ← Nat.pow_add, Nat.add_comm 1 t]
        have ht2 := up_bound r (x - 2 ^ 52) (t + 1) hr q4 HV2
        obtain ⟨y, hy⟩ : ∃ y, y = x - 2 ^ 52 := ⟨_, rfl⟩
        rw [← hy] at q3 q4 hq HV2
        have hyx : y < x := by omega
        have H : Hid (V r = V y * 2 ^ (t + 1)) := HV2
        clear q1 q2 HV HV2 hc hy
        go_wp2
        go_round
        case rel => exact ⟨y, t + 1, q3, by omega, H.out, ht2, .inr q4, rfl, by go_num⟩
        case measure => exact hyx
      · rw [decide_eq_false h2] at hg
        have H : Hid (Up r (.float .f64 x) (.int .i64 t)) := by
          rcases hc with hc | hc
          · subst hc
            exact ⟨x, 0, by omega, rfl, .inr ⟨by rw [HV, Nat.pow_zero, Nat.mul_one, Nat.mul_one], by omega, rfl⟩⟩
          · exact ⟨x, t, by omega, rfl, .inl ⟨HV, ht, hc, rfl⟩⟩
        clear HV hc
        go_wp2
        go_loop [4, 5] (fun a e => Up r a e) (fun _ e => (intOf e + 1023).toNat)
        case atStart => exact H.out
        case round =>
          clear H hg h2
          obtain ⟨x, t, hx, rfl, hd⟩ := hrel
          have hxi : x < inf := by have e : inf = 2047 * 2 ^ 52 := rfl; omega
          have hl := order_lt x 4607182418800017408 hxi (by decide)
          rcases hd with ⟨HV, ht, hx1, rfl⟩ | ⟨HV, ht, rfl⟩
          · -- not below 1: the end
            rw [decide_eq_false (by omega)] at hl
            obtain ⟨f, hf⟩ : ∃ f, f = x - 4607182418800017408 := ⟨_, rfl⟩
            have hf2 : f < 2 ^ 52 := by omega
            have hxf : x = nw 0 f := by unfold nw; omega
            obtain ⟨a, b, m1, m2, m3⟩ := minus_one f hf2
            rw [← hxf] at m1
            have q1 := fun w => run_float_arith (P := Try.prog) w .sub 24 .f64 _ _ _ m1
            have q2 := fun w => run_float_arith (P := Try.prog) w .mul 24 .f64 _ _ _ m2
            have q3 := fun w => run_convert_float_int (P := Try.prog) w 24 28 .f64 .u64 b f (by rw [Try.underlying24]; rfl) Try.underlying28 m3
            have H : Hid (r = (1023 + t) * 2 ^ 52 + f) := back_up r f t hf2 (by rw [← hxf]; exact HV)
            clear m1 m2 m3 HV hf hxf
            go_wp2
            go_ret
            exact ⟨ret_int (by have := H.out; omega), rfl⟩
          · by_cases hx1 : x < 4607182418800017408
            · rw [decide_eq_true hx1] at hl
              by_cases ht2 : t < 1022
              · obtain ⟨y, m1, m2, m3, m4⟩ := doubled x hx1
                have q1 := fun w => run_float_arith (P := Try.prog) w .mul 24 .f64 _ _ _ m1
                have H : Hid (V y = V r * 2 ^ (t + 1)) := by
                  show V y = _
                  rw [m2, HV, Nat.mul_assoc, ← Nat.pow_add]
                have M4 : Hid (y < 4611686018427387904) := m4
                clear m1 m2 m3 m4 HV hx hxi hx1
                go_wp2
                go_round
                case rel => exact ⟨y, t + 1, M4.out, rfl, .inr ⟨H.out, by omega, by congr 1; omega⟩⟩
                case measure => simp [intOf]; omega
              · obtain ⟨k1, b, m1, m2⟩ := tail_sub r x hxi (by rw [HV, show t = 1022 from by omega]) hx1
                have q1 := fun w => run_float_arith (P := Try.prog) w .mul 24 .f64 _ _ _ m1
                have q2 := fun w => run_convert_float_int (P := Try.prog) w 24 28 .f64 .u64 b r (by rw [Try.underlying24]; rfl) Try.underlying28 m2
                clear m1 m2 HV hx hxi hx1
                go_wp2
                go_ret
                exact ⟨ret_int (by omega), rfl⟩
            · rw [decide_eq_false hx1] at hl
              obtain ⟨f, hf⟩ : ∃ f, f = x - 4607182418800017408 := ⟨_, rfl⟩
              have hf2 : f < 2 ^ 52 := by omega
              have hxf : x = nw 0 f := by unfold nw; omega
              obtain ⟨a, b, m1, m2, m3⟩ := minus_one f hf2
              rw [← hxf] at m1
              have q1 := fun w => run_float_arith (P := Try.prog) w .sub 24 .f64 _ _ _ m1
              have q2 := fun w => run_float_arith (P := Try.prog) w .mul 24 .f64 _ _ _ m2
              have q3 := fun w => run_convert_float_int (P := Try.prog) w 24 28 .f64 .u64 b f (by rw [Try.underlying24]; rfl) Try.underlying28 m3
              have H : Hid (r = (1023 - t) * 2 ^ 52 + f) := back_down r f t hf2 ht (by rw [← hxf]; exact HV)
              clear m1 m2 m3 HV hf hxf
              go_wp2
              go_ret
              exact ⟨ret_int (by have := H.out; omega), rfl⟩

theorem toBits_spec (b : Nat) (hb : b < 2 ^ 64) (w : World) :
    Calls Try.prog 24 #[.float .f64 b] w fun e w' => e = .returned (.int .u64 (canon b)) ∧ w' = w := by
  by_cases hn : isNaN b
  · have ho := order_nan b b hn
    rw [canon_nan hn]
    go_enter Try.func24, Try.ntmps24
    go_wp2
    go_ret
    exact ⟨rfl, rfl⟩
  · rw [canon_no hn]
    have hr : rung b ≤ inf := by unfold isNaN at hn; omega
    have hw := word_of b hb
    rw [word_eq] at hw
    cases hs : neg b with
    | false =>
      rw [hs] at hw
      have hw' : rung b = b := hw
      rw [hw'] at hr
      by_cases h0 : b = 0
      · subst h0
        have ho := order_self 0 hn
        have hm := minus_spec 0 hr
        rw [hs] at hm
        clear hw hw' hs hb hr hn
        go_enter Try.func24, Try.ntmps24
        go_wp2_with fail
        refine (hm _).mono ?_
        rintro e w' ⟨rfl, rfl⟩
        go_wp2_with fail
        go_ret
        exact ⟨rfl, rfl⟩
      · by_cases hi : b = inf
        · subst hi
          have ho := order_self inf hn
          have hm := minus_spec inf (by rw [hw']; exact hr)
          rw [hs] at hm
          have h1 := order_inf 9218868437227405311 (by decide)
          have h2 : (FloatKind.f64.format.order inf 0 == some .eq) = false := by rw [order_inf 0 (by decide)]; rfl
          have e : inf = 9218868437227405312 := by decide
          rw [e] at ho hm h1 h2 ⊢
          clear hw hw' hs hb hr hn h0 e
          go_enter Try.func24, Try.ntmps24
          go_wp2_with fail
          refine (hm _).mono ?_
          rintro e w' ⟨rfl, rfl⟩
          go_wp2_with fail
          go_ret
          exact ⟨rfl, rfl⟩
        · exact toBits_spec_pos b (by omega) (by omega) w
    | true =>
      obtain ⟨f1, f2⟩ := fneg_neg b hb hs
      by_cases h0 : rung b = 0
      · rw [h0] at f1 f2
        have ho := order_self b hn
        have hm := minus_spec b hr
        rw [hs] at hm
        have hz := order_zero_zero 0 rfl
        have e : (b : Int) = 9223372036854775808 := by omega
        rw [e]
        clear hw hs hb hr hn h0 f2 e
        go_enter Try.func24, Try.ntmps24
        go_wp2_with fail
        refine (hm _).mono ?_
        rintro e w' ⟨rfl, rfl⟩
        go_wp2_with fail
        go_ret
        exact ⟨rfl, rfl⟩
      · by_cases hi : rung b = inf
        · have e : inf = 9218868437227405312 := by decide
          rw [hi, e] at f1 f2
          have ho := order_self b hn
          have hm := minus_spec b hr
          rw [hs] at hm
          have h1 := order_inf 9218868437227405311 (by decide)
          have h2 : (FloatKind.f64.format.order inf 0 == some .eq) = false := by rw [order_inf 0 (by decide)]; rfl
          rw [e] at h1 h2
          have e2 : (b : Int) = 18442240474082181120 := by omega
          rw [e2]
          clear hw hs hb hr hn h0 f2 e e2 hi
          go_enter Try.func24, Try.ntmps24
          go_wp2_with fail
          refine (hm _).mono ?_
          rintro e w' ⟨rfl, rfl⟩
          go_wp2_with fail
          go_ret
          exact ⟨rfl, rfl⟩
        · have e : (b : Int) = 9223372036854775808 + (rung b : Int) := by omega
          rw [e]
          exact toBits_spec_neg b (rung b) f1 hs rfl (by omega) (by omega) w

end Go.Proofs.Ytepgelalkfgdlaa
