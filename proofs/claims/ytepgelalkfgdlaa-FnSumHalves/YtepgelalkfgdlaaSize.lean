/- The contract of sizeOfBits at 52 bits of fraction: the word itself. -/
import Derived.Test.YtepgelalkfgdlaaFl4
import Derived.BigQuiet
import Derived.Deep.QuietTactic
namespace Go.Proofs.Ytepgelalkfgdlaa
open Ieee Go.RowKit Fl
attribute [local go_sem] run_fneg

theorem frombits (n : Int) (w : World) : (callFunc 90 #[.int .u64 n]).run Try.prog w = .ok (.value (.float .f64 n.toNat)) w := by kernel_rfl

theorem nan_any (w : World) : Calls Try.prog 83 #[] w fun e w' => e = .returned (.float .f64 9221120237041090561) ∧ w' = w := by
  have hf := frombits
  go_enter Try.func83, Try.ntmps83
  go_wp2
  go_ret
  exact ⟨rfl, rfl⟩

theorem inf_any (w : World) : Calls Try.prog 84 #[.int .i64 1] w fun e w' => e = .returned (.float .f64 9218868437227405312) ∧ w' = w := by
  have hf := frombits
  go_enter Try.func84, Try.ntmps84
  go_wp2
  go_ret
  exact ⟨rfl, rfl⟩

/-- a whole number that the format has, as a float -/
theorem floatOf (n x : Nat) (hx : x < inf) (h : V x = n * 2 ^ 1074) : floatOfInt .f64 (n : Int) = x := by
  show FloatKind.f64.encode (.number (decide ((n : Int) < 0)) (n : Int).natAbs 0) = x
  rw [decide_eq_false (by omega), Int.natAbs_natCast]
  exact ofNat_exact n x hx h

theorem size52 (b E f : Nat) (hb : b = E * 2 ^ 52 + f) (hf : f < 2 ^ 52) (hE : E ≤ 2047) (w : World) :
    Calls Try.prog 58 #[.int .u64 b, .int .i64 52, .int .i64 1023] w fun e w' => e = .returned (.float .f64 (if inf < b then 9221120237041090561 else b)) ∧ ∃ n, w' = w.drewN n := by
  have ei : inf = 2047 * 2 ^ 52 := rfl
  have e1 : (b : Int) / 4503599627370496 = (E : Int) := by omega
  have e2 : bits .and .u64 (b : Int) 4503599627370495 = (f : Int) := by
    have := low_u64 b 52 (by omega) (by omega)
    rw [show b % 2 ^ 52 = f from by omega] at this
    exact this
  by_cases h1 : E = 2047
  · by_cases h2 : f = 0
    · have hres : (if inf < b then 9221120237041090561 else b) = 9218868437227405312 := by rw [if_neg (by omega)]; omega
      rw [hres]
      have e1' : (b : Int) / 4503599627370496 = 2047 := by omega
      have e2' : bits .and .u64 (b : Int) 4503599627370495 = 0 := by rw [e2]; omega
      clear hb hf hE h1 h2 ei e1 e2 hres
      have hi := inf_any
      go_enter Try.func58, Try.ntmps58
      go_wp2_with fail
      refine (hi _).mono ?_
      rintro e w' ⟨rfl, rfl⟩
      go_wp2_with fail
      go_ret
      exact ⟨rfl, 0, rfl⟩
    · have hres : (if inf < b then 9221120237041090561 else b) = 9221120237041090561 := by rw [if_pos (by omega)]
      rw [hres]
      have e1' : (b : Int) / 4503599627370496 = 2047 := by omega
      have e3 : ((f : Int) != 0) = true := by rw [bne_iff_ne]; omega
      clear hb hf hE h1 h2 ei e1 hres
      have hi := nan_any
      go_enter Try.func58, Try.ntmps58
      go_wp2_with fail
      refine (hi _).mono ?_
      rintro e w' ⟨rfl, rfl⟩
      go_wp2_with fail
      go_ret
      exact ⟨rfl, 0, rfl⟩
  · have hbi : b < inf := by omega
    rw [if_neg (by omega)]
    by_cases h0 : E = 0
    · have e1' : (b : Int) / 4503599627370496 = 0 := by omega
      obtain ⟨x, hx, vx⟩ := exists_rung f 1074 (by omega) (below_top f 1074 (by omega) (by omega))
      have hc := floatOf f x hx vx
      have hm : floatBits .mul .f64 x (p2 (1074 - 1074)) = some b := by
        show double.mul _ _ = _
        refine mul_pos _ _ _ hx (p2_lt (by omega)) hbi ?_
        rw [vx, V_p2, V_small (show b < 2 ^ 52 by omega), show b = f from by omega, Nat.sub_self, Nat.pow_zero, Nat.mul_one]
      have hq := fun w => run_float_arith (P := Try.prog) w .mul 24 .f64 _ _ _ hm
      have hp := power_down 1074 (by omega) (by omega)
      generalize p2 (1074 - 1074) = y at *
      clear hb hE h1 h0 ei e1 hm vx hx hbi
      go_enter Try.func58, Try.ntmps58
      go_wp2_with fail
      refine (hp _).mono ?_
      rintro e w' ⟨rfl, rfl⟩
      go_wp2_with fail
      go_ret
      exact ⟨rfl, 0, rfl⟩
    · obtain ⟨x, hx, vx⟩ := exists_rung (2 ^ 52 + f) 1074 (by omega) (below_top (2 ^ 52 + f) 1074 (by omega) (by omega))
      have hc := floatOf (2 ^ 52 + f) x hx vx
      have e4 : bits .or .u64 (f : Int) (IntKind.u64.wrap 4503599627370496) = ((2 ^ 52 + f : Nat) : Int) := by
        rw [show IntKind.u64.wrap 4503599627370496 = 4503599627370496 from by decide]
        have e := or_u64 f (2 ^ 52) (by omega) (by decide)
        have e2 := Nat.two_pow_add_eq_or_of_lt hf 1
        rw [Nat.mul_one, Nat.or_comm] at e2
        rw [← e2] at e
        exact e
      have hm : floatBits .mul .f64 x (p2 (E - 1)) = some b := by
        show double.mul _ _ = _
        refine mul_pos _ _ _ hx (p2_lt (by omega)) hbi ?_
        rw [vx, V_p2, hb, V_norm _ _ (by omega) hf]
        exact shift2 (2 ^ 52 + f) 1074 (E - 1) (E - 1) 1074 (Nat.add_comm _ _)
      have hq := fun w => run_float_arith (P := Try.prog) w .mul 24 .f64 _ _ _ hm
      have hp : ∀ w, Calls Try.prog 85 #[.int .i64 (-1074 + (E : Int) - 1)] w fun e w' => e = .returned (.float .f64 (p2 (E - 1))) ∧ w' = w := by
        intro w
        by_cases hc : E ≤ 1074
        · have := power_down (1075 - E) (by omega) (by omega) w
          rw [show (-((1075 - E : Nat) : Int)) = -1074 + (E : Int) - 1 from by omega, show 1074 - (1075 - E) = E - 1 from by omega] at this
          exact this
        · have := power_up (E - 1075) (by omega) w
          rw [show (((E - 1075 : Nat)) : Int) = -1074 + (E : Int) - 1 from by omega, show 1074 + (E - 1075) = E - 1 from by omega] at this
          exact this
      generalize p2 (E - 1) = y at *
      generalize 2 ^ 52 + f = m at *
      have h2 : E ≤ 2046 := by omega
      have h3 : 1 ≤ E := by omega
      have ew : Hid (IntKind.i64.wrap (IntKind.i64.wrap (-1074 + (E : Int)) - 1) = -1074 + (E : Int) - 1) := by
        show IntKind.i64.wrap _ = _
        rw [IntKind.wrap_i64, IntKind.wrap_i64]; omega
      clear hb hE h1 h0 ei hm vx hx hbi
      go_enter Try.func58, Try.ntmps58
      go_wp2_with fail
      go_quiet ((go_at_call 85; rw [ew.out]; exact Calls.quiet_of_same (hp _)))
      go_wp2_with fail
      go_ret
      exact ⟨rfl, _, rfl⟩

end Go.Proofs.Ytepgelalkfgdlaa
