/- The contract of the specification's FromBits, and the law FnExactFromBits, walked. -/
import Derived.Test.YtbhomfgponhemaaZFrom
namespace Go.Proofs.Ytbhomfgponhemaa.Z
open Ieee Go.RowKit Fl
attribute [local go_sem] run_fneg

theorem exp_bits (b E : Nat) (hb : b < 2 ^ 64) (hE : b / 2 ^ 52 % 2 ^ 11 = E) : bits .and .u64 ((b : Int) / 4503599627370496) 2047 = (E : Int) := by
  have e := low_u64 (b / 2 ^ 52) 11 (by omega) (by omega)
  rw [hE] at e
  have e2 : ((b / 2 ^ 52 : Nat) : Int) = (b : Int) / 4503599627370496 := by omega
  rw [e2] at e
  exact e

theorem zero_any (w : World) : Calls Try.prog 33 #[] w fun e w' => e = .returned (.float .f64 0) ∧ w' = w := by
  go_enter Try.func33, Try.ntmps33
  go_wp2
  go_ret
  exact ⟨rfl, rfl⟩

set_option maxRecDepth 20000 in
theorem fromBits_spec (b : Nat) (hb : b < 2 ^ 64) (w : World) :
    Calls Try.prog 29 #[.int .u64 b] w fun e w' => ∃ x n, e = .returned (.float .f64 x) ∧ w' = w.drewN n ∧ same x b := by
  have hw := word_of b hb
  have hrl : rung b < 2 ^ 63 := Nat.mod_lt _ (by decide)
  have hrb : rung b = b % 2 ^ 63 := rfl
  obtain ⟨E, hE⟩ : ∃ E, E = rung b / 2 ^ 52 := ⟨_, rfl⟩
  obtain ⟨f, hf⟩ : ∃ f, f = rung b % 2 ^ 52 := ⟨_, rfl⟩
  have hr : rung b = E * 2 ^ 52 + f := by omega
  have hf2 : f < 2 ^ 52 := by omega
  have hE2 : E ≤ 2047 := by omega
  have e1 := exp_bits b E hb (by omega)
  have e2 : bits .and .u64 (b : Int) 4503599627370495 = (f : Int) := by
    have := low_u64 b 52 hb (by omega)
    rw [show b % 2 ^ 52 = f from by omega] at this
    exact this
  have e3 : ((b : Int) / 9223372036854775808 == 1) = neg b := by
    rw [neg_div b hb, Bool.eq_iff_iff]; simp; omega
  have hz := zero_any
  -- the first scaling, always made
  obtain ⟨x0, hx0, vx0⟩ := exists_rung f 1074 (by omega) (below_top f 1074 (by omega) (by omega))
  have c0 := floatOf f x0 hx0 vx0
  have hsc := scale_down f 0 1074 x0 (by omega) hx0 (by omega) (by rw [vx0, Nat.zero_add]) (by omega) (by rw [Nat.zero_add]; exact below_top f 1074 (by omega) (by omega))
  have hd0 : floatBits .quo .f64 4607182418800017408 0 = some inf := by
    have := div_zero 0 (by decide)
    rw [show neg 0 = false from by decide, word_false] at this
    exact this
  have q0 := fun w => run_float_arith (P := Try.prog) w .quo 24 .f64 _ _ _ hd0
  have ei : inf = 2047 * 2 ^ 52 := rfl
  rw [word_eq] at hw
  by_cases h1 : E = 2047
  · have e1' : bits .and .u64 ((b : Int) / 4503599627370496) 2047 = 2047 := by rw [e1, h1]; rfl
    by_cases h2 : f = 0
    · have e2' : bits .and .u64 (b : Int) 4503599627370495 = 0 := by rw [e2, h2]; rfl
      have hri : rung b = inf := by omega
      have key : same (if neg b then fneg inf else inf) b := by
        refine .inl ?_
        rw [hri] at hw
        cases hs : neg b
        · rw [hs] at hw; exact hw
        · rw [hs] at hw; rw [if_pos rfl, fneg_pos inf (by decide)]; exact hw
      have c0' : floatOfInt .f64 0 = x0 := by rw [← c0, h2]; rfl
      clear hw hrl hrb hE hf hr hf2 hE2 e1 e2 hd0 ei h1 h2 hri vx0 hx0 c0 hb
      generalize inf = i at *
      cases hs : neg b
      all_goals
        rw [hs] at e3 key
        clear hs
        go_enter Try.func29, Try.ntmps29
        go_wp2_with fail
        refine (hz _).mono ?_
        rintro e w' ⟨rfl, rfl⟩
        go_wp2_with fail
        refine (hsc _).mono ?_
        rintro e w' ⟨⟨s, rfl, hs1, hs2⟩, rfl⟩
        clear hs1 hs2
        go_wp2_with fail
        go_ret
        exact ⟨_, 0, rfl, rfl, key⟩
    · have hn : isNaN b := by show inf < rung b; omega
      have e4 : ((f : Int) != 0) = true := by rw [bne_iff_ne]; omega
      have hn0 : floatBits .quo .f64 0 0 = none := by decide
      have q1 := fun w => run_nan (P := Try.prog) w .quo (.inr (.inr (.inr rfl))) 24 0 0 hn0
      clear hw hrl hrb hE hf hr hf2 hE2 e1 hd0 ei h1 h2 vx0 hx0 hb hn0
      generalize inf = i at *
      go_enter Try.func29, Try.ntmps29
      go_wp2_with fail
      refine (hz _).mono ?_
      rintro e w' ⟨rfl, rfl⟩
      go_wp2_with fail
      refine (hsc _).mono ?_
      rintro e w' ⟨⟨s, rfl, hs1, hs2⟩, rfl⟩
      clear hs1 hs2
      go_wp2_with fail
      go_ret
      exact ⟨_, 1, rfl, rfl, .inr ⟨nanv_nan _ _ _, hn⟩⟩
  · have key : ∀ x, x = rung b → same (if neg b then fneg x else x) b := by
      intro x hx
      rw [hx]
      refine .inl ?_
      cases hs : neg b
      · rw [hs] at hw; exact hw
      · rw [hs] at hw; rw [if_pos rfl, fneg_pos _ hrl]; exact hw
    have e5 : ((E : Int) == 2047) = false := by rw [beq_eq_false_iff_ne]; omega
    by_cases h0 : E = 0
    · have e1' : bits .and .u64 ((b : Int) / 4503599627370496) 2047 = 0 := by rw [e1, h0]; rfl
      have key2 : ∀ s, V s = f * 2 ^ 0 → same (if neg b then fneg s else s) b := fun s hv => key s (by
        apply V_inj
        rw [hv, Nat.pow_zero, Nat.mul_one, V_small (show rung b < 2 ^ 52 by omega)]; omega)
      clear hw hrl hrb hE hf hr hE2 e1 hd0 ei h1 h0 vx0 hx0 hb key q0 e5
      cases hs : neg b
      all_goals
        rw [hs] at e3 key2
        clear hs
        go_enter Try.func29, Try.ntmps29
        go_wp2_with fail
        refine (hz _).mono ?_
        rintro e w' ⟨rfl, rfl⟩
        go_wp2_with fail
        refine (hsc _).mono ?_
        rintro e w' ⟨⟨s, rfl, hs1, hs2⟩, rfl⟩
        have k3 := key2 s hs2
        clear hs1 hs2 key2
        go_wp2_with fail
        go_ret
        exact ⟨_, 0, rfl, rfl, k3⟩
    · obtain ⟨x1, hx1, vx1⟩ := exists_rung (2 ^ 52 + f) 1074 (by omega) (below_top (2 ^ 52 + f) 1074 (by omega) (by omega))
      have c1 := floatOf (2 ^ 52 + f) x1 hx1 vx1
      have e6 : (((2 ^ 52 + f : Nat)) : Int) = (f : Int) + 4503599627370496 := by omega
      rw [e6] at c1
      have hd1 : floatBits .quo .f64 x1 4841369599423283200 = some (nw 0 f) := by
        show double.div _ _ = _
        rw [top_p2]
        refine div_pos _ _ _ hx1 (by omega) (nw_lt (by omega) hf2) ?_
        rw [vx1, V_nw _ _ hf2, Nat.add_zero]
        exact shift2 (2 ^ 52 + f) 1074 1074 1022 1126 rfl
      have q1 := fun w => run_float_arith (P := Try.prog) w .quo 24 .f64 _ _ _ hd1
      have key2 : ∀ s, V s = (2 ^ 52 + f) * 2 ^ (E - 1) → same (if neg b then fneg s else s) b := fun s hv => key s (by
        apply V_inj
        rw [hv, hr, V_norm _ _ (by omega) hf2])
      have hsc2 : ∀ w, Calls Try.prog 34 #[.float .f64 (nw 0 f), .int .i64 ((E : Int) - 1023)] w fun e w' => (∃ s, e = .returned (.float .f64 s) ∧ s < inf ∧ V s = (2 ^ 52 + f) * 2 ^ (E - 1)) ∧ w' = w := by
        intro w
        have v0 : V (nw 0 f) = (2 ^ 52 + f) * 2 ^ 1022 := by rw [V_nw _ _ hf2, Nat.add_zero]
        by_cases hc : 1023 ≤ E
        · have := scale_up (2 ^ 52 + f) 1022 (E - 1023) (nw 0 f) (nw_lt (by omega) hf2) (by omega) v0 (by omega) (below_top _ _ (by omega) (by omega)) w
          rw [show (((E - 1023 : Nat)) : Int) = (E : Int) - 1023 from by omega, show 1022 + (E - 1023) = E - 1 from by omega] at this
          exact this
        · have := scale_down (2 ^ 52 + f) (E - 1) (1023 - E) (nw 0 f) (by omega) (nw_lt (by omega) hf2) (by omega) (by rw [v0, show E - 1 + (1023 - E) = 1022 from by omega]) (by omega) (below_top _ _ (by omega) (by omega)) w
          rw [show (-((1023 - E : Nat) : Int)) = (E : Int) - 1023 from by omega] at this
          exact this
      have e7 : (0 : Int) < (E : Int) := by omega
      generalize nw 0 f = y at *
      clear hw hrl hrb hE hf hr e6 hd0 hd1 ei h1 h0 vx0 hx0 vx1 hx1 hb key q0
      cases hs : neg b
      all_goals
        rw [hs] at e3 key2
        clear hs
        go_enter Try.func29, Try.ntmps29
        go_wp2_with fail
        refine (hz _).mono ?_
        rintro e w' ⟨rfl, rfl⟩
        go_wp2_with fail
        refine (hsc _).mono ?_
        rintro e w' ⟨⟨s, rfl, hs1, hs2⟩, rfl⟩
        clear hs1 hs2
        go_wp2_with fail
        refine (hsc2 _).mono ?_
        rintro e w' ⟨⟨s, rfl, hs1, hs2⟩, rfl⟩
        have k3 := key2 s hs2
        clear hs1 hs2 key2
        go_wp2_with fail
        go_ret
        exact ⟨_, 0, rfl, rfl, k3⟩

end Go.Proofs.Ytbhomfgponhemaa.Z
