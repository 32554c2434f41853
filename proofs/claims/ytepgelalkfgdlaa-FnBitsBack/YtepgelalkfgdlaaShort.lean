/- The contract of sizeOfBits at 23 bits of fraction, and of the program's FromShort. -/
import Derived.Test.YtepgelalkfgdlaaLawFromBits
namespace Go.Proofs.Ytepgelalkfgdlaa
open Ieee Go.RowKit Fl
attribute [local go_sem] run_fneg

/-- the value of an exponent and a fraction of 32 bits, without their sign -/
def SMag (E f x : Nat) : Prop :=
  (E = 255 ∧ f ≠ 0 ∧ isNaN x) ∨ (E = 255 ∧ f = 0 ∧ x = inf) ∨ (E < 255 ∧ E = 0 ∧ x < inf ∧ V x = f * 2 ^ 925) ∨ (E < 255 ∧ 0 < E ∧ x < inf ∧ V x = (2 ^ 23 + f) * 2 ^ (924 + E))

theorem SMag.same {E f x y : Nat} (h : SMag E f x) (k : SMag E f y) : same x y := by
  rcases h with ⟨h1, h2, h3⟩ | ⟨h1, h2, h3⟩ | ⟨h1, h2, h3, h4⟩ | ⟨h1, h2, h3, h4⟩ <;> rcases k with ⟨k1, k2, k3⟩ | ⟨k1, k2, k3⟩ | ⟨k1, k2, k3, k4⟩ | ⟨k1, k2, k3, k4⟩
  · exact .inr ⟨h3, k3⟩
  · exact absurd k2 h2
  · omega
  · omega
  · exact absurd h2 k2
  · exact .inl (h3.trans k3.symm)
  · omega
  · omega
  · omega
  · omega
  · exact .inl (V_inj (h4.trans k4.symm))
  · omega
  · omega
  · omega
  · omega
  · exact .inl (V_inj (h4.trans k4.symm))

theorem rung_fneg (x : Nat) : rung (fneg x) = rung x := by
  unfold rung fneg
  rw [Nat.xor_mod_two_pow, Nat.mod_self, Nat.xor_zero]

theorem same_fneg {x y : Nat} (h : same x y) : same (fneg x) (fneg y) := by
  rcases h with rfl | ⟨h1, h2⟩
  · exact .inl rfl
  · refine .inr ⟨?_, ?_⟩ <;> (unfold isNaN; rw [rung_fneg]; assumption)

theorem size23 (b E f : Nat) (hb : b = E * 2 ^ 23 + f) (hf : f < 2 ^ 23) (hE : E ≤ 255) (w : World) :
    Calls Try.prog 58 #[.int .u64 b, .int .i64 23, .int .i64 127] w fun e w' => ∃ x n, e = .returned (.float .f64 x) ∧ w' = w.drewN n ∧ SMag E f x := by
  have ei : inf = 9218868437227405312 := by decide
  have e1 : (b : Int) / 8388608 = (E : Int) := by omega
  have e2 : bits .and .u64 (b : Int) 8388607 = (f : Int) := by
    have := low_u64 b 23 (by omega) (by omega)
    rw [show b % 2 ^ 23 = f from by omega] at this
    exact this
  by_cases h1 : E = 255
  · by_cases h2 : f = 0
    · have hres : SMag E f 9218868437227405312 := .inr (.inl ⟨h1, h2, ei.symm⟩)
      have e1' : (b : Int) / 8388608 = 255 := by omega
      have e2' : bits .and .u64 (b : Int) 8388607 = 0 := by rw [e2]; omega
      clear hb hf hE h1 h2 ei e1 e2
      have hi := inf_any
      go_enter Try.func58, Try.ntmps58
      go_wp2_with fail
      refine (hi _).mono ?_
      rintro e w' ⟨rfl, rfl⟩
      go_wp2_with fail
      go_ret
      exact ⟨_, 0, rfl, rfl, hres⟩
    · have hres : SMag E f 9221120237041090561 := .inl ⟨h1, h2, nan_word⟩
      have e1' : (b : Int) / 8388608 = 255 := by omega
      have e3 : ((f : Int) != 0) = true := by rw [bne_iff_ne]; omega
      clear hb hf hE h1 h2 ei e1
      have hi := nan_any
      go_enter Try.func58, Try.ntmps58
      go_wp2_with fail
      refine (hi _).mono ?_
      rintro e w' ⟨rfl, rfl⟩
      go_wp2_with fail
      go_ret
      exact ⟨_, 0, rfl, rfl, hres⟩
  · by_cases h0 : E = 0
    · have e1' : (b : Int) / 8388608 = 0 := by omega
      obtain ⟨x, hx, vx⟩ := exists_rung f 1074 (by omega) (below_top f 1074 (by omega) (by omega))
      obtain ⟨z, hz, vz⟩ := exists_rung f 925 (by omega) (below_top f 925 (by omega) (by omega))
      have hres : SMag E f z := .inr (.inr (.inl ⟨by omega, h0, hz, vz⟩))
      have hc := floatOf f x hx vx
      have hm : floatBits .mul .f64 x (p2 925) = some z := by
        show double.mul _ _ = _
        refine mul_pos _ _ _ hx (p2_lt (by omega)) hz ?_
        rw [vx, V_p2, vz]
        exact shift2 f 1074 925 925 1074 rfl
      have hq := fun w => run_float_arith (P := Try.prog) w .mul 24 .f64 _ _ _ hm
      have hp := power_down 149 (by omega) (by omega)
      rw [show 1074 - 149 = 925 from rfl] at hp
      generalize p2 925 = y at *
      clear hb hE h1 h0 ei e1 hm vx hx vz hz
      go_enter Try.func58, Try.ntmps58
      go_wp2_with fail
      refine (hp _).mono ?_
      rintro e w' ⟨rfl, rfl⟩
      go_wp2_with fail
      go_ret
      exact ⟨_, 0, rfl, rfl, hres⟩
    · obtain ⟨x, hx, vx⟩ := exists_rung (2 ^ 23 + f) 1074 (by omega) (below_top (2 ^ 23 + f) 1074 (by omega) (by omega))
      obtain ⟨z, hz, vz⟩ := exists_rung (2 ^ 23 + f) (924 + E) (by omega) (below_top (2 ^ 23 + f) (924 + E) (by omega) (by omega))
      have hres : SMag E f z := .inr (.inr (.inr ⟨by omega, by omega, hz, vz⟩))
      have hc := floatOf (2 ^ 23 + f) x hx vx
      have e4 : bits .or .u64 (f : Int) (IntKind.u64.wrap 8388608) = ((2 ^ 23 + f : Nat) : Int) := by
        rw [show IntKind.u64.wrap 8388608 = 8388608 from by decide]
        have e := or_u64 f (2 ^ 23) (by omega) (by decide)
        have e2 := Nat.two_pow_add_eq_or_of_lt hf 1
        rw [Nat.mul_one, Nat.or_comm] at e2
        rw [← e2] at e
        exact e
      have hm : floatBits .mul .f64 x (p2 (924 + E)) = some z := by
        show double.mul _ _ = _
        refine mul_pos _ _ _ hx (p2_lt (by omega)) hz ?_
        rw [vx, V_p2, vz]
        exact shift2 (2 ^ 23 + f) 1074 (924 + E) (924 + E) 1074 (Nat.add_comm _ _)
      have hq := fun w => run_float_arith (P := Try.prog) w .mul 24 .f64 _ _ _ hm
      have hp : ∀ w, Calls Try.prog 85 #[.int .i64 (-149 + (E : Int) - 1)] w fun e w' => e = .returned (.float .f64 (p2 (924 + E))) ∧ w' = w := by
        intro w
        by_cases hc : E < 150
        · have := power_down (150 - E) (by omega) (by omega) w
          rw [show (-((150 - E : Nat) : Int)) = -149 + (E : Int) - 1 from by omega, show 1074 - (150 - E) = 924 + E from by omega] at this
          exact this
        · have := power_up (E - 150) (by omega) w
          rw [show (((E - 150 : Nat)) : Int) = -149 + (E : Int) - 1 from by omega, show 1074 + (E - 150) = 924 + E from by omega] at this
          exact this
      have ew : Hid (IntKind.i64.wrap (IntKind.i64.wrap (-149 + (E : Int)) - 1) = -149 + (E : Int) - 1) := by
        show IntKind.i64.wrap _ = _
        rw [IntKind.wrap_i64, IntKind.wrap_i64]; omega
      generalize p2 (924 + E) = y at *
      generalize 2 ^ 23 + f = m at *
      have h2 : E ≤ 254 := by omega
      have h3 : 1 ≤ E := by omega
      clear hb hE h1 h0 ei hm vx hx vz hz
      go_enter Try.func58, Try.ntmps58
      go_wp2_with fail
      go_quiet ((go_at_call 85; rw [ew.out]; exact Calls.quiet_of_same (hp _)))
      go_wp2_with fail
      go_ret
      exact ⟨_, _, rfl, rfl, hres⟩

/-- the 32 bits' own value -/
def SVal (b x : Nat) : Prop := ∃ y, SMag (b / 2 ^ 23 % 2 ^ 8) (b % 2 ^ 23) y ∧ same x (if b / 2 ^ 31 = 1 then fneg y else y)

theorem SVal.same {b x y : Nat} (h : SVal b x) (k : SVal b y) : Go.Proofs.Ytepgelalkfgdlaa.same x y := by
  obtain ⟨u, h1, h2⟩ := h
  obtain ⟨v, k1, k2⟩ := k
  have e := h1.same k1
  refine same_trans h2 (same_trans ?_ (same_symm k2))
  split
  · exact same_fneg e
  · exact e

theorem andNot_top32 (b : Nat) (h : b < 2 ^ 32) : bits .andNot .u32 (b : Int) 2147483648 = ((b % 2 ^ 31 : Nat) : Int) := by
  show IntKind.u32.wrap ((BitVec.ofInt 32 (b : Int) &&& ~~~ (BitVec.ofInt 32 2147483648)).toNat : Int) = _
  have e : (~~~ (BitVec.ofInt 32 2147483648)).toNat = 2 ^ 31 - 1 := by decide
  rw [BitVec.toNat_and, e, ofInt_nat32 b h, Nat.and_two_pow_sub_one_eq_mod, IntKind.wrap_u32]
  omega

theorem fromShort_impl (b : Nat) (hb : b < 2 ^ 32) (w : World) :
    Calls Try.prog 30 #[.int .u32 b] w fun e w' => ∃ x n, e = .returned (.float .f64 x) ∧ w' = w.drewN n ∧ SVal b x := by
  have e1 := andNot_top32 b hb
  obtain ⟨r, hr⟩ : ∃ r, r = b % 2 ^ 31 := ⟨_, rfl⟩
  rw [← hr] at e1
  have hz := size23 r (r / 2 ^ 23) (r % 2 ^ 23) (by omega) (by omega) (by omega)
  rw [show r / 2 ^ 23 = b / 2 ^ 23 % 2 ^ 8 from by omega, show r % 2 ^ 23 = b % 2 ^ 23 from by omega] at hz
  have e2 : ((b : Int) / 2147483648 == 1) = decide (b / 2 ^ 31 = 1) := by
    rw [Bool.eq_iff_iff]; simp; omega
  have hrl : r < 2 ^ 31 := by omega
  have key : ∀ x, SMag (b / 2 ^ 23 % 2 ^ 8) (b % 2 ^ 23) x → SVal b (if decide (b / 2 ^ 31 = 1) = true then fneg x else x) := by
    intro x hx
    refine ⟨x, hx, ?_⟩
    by_cases hc : b / 2 ^ 31 = 1
    · rw [decide_eq_true hc, if_pos rfl, if_pos hc]; exact same_rfl _
    · rw [decide_eq_false hc, if_neg hc]; exact same_rfl _
  have hs := withSign_any (decide (b / 2 ^ 31 = 1))
  generalize decide (b / 2 ^ 31 = 1) = s at *
  clear hr
  go_enter Try.func30, Try.ntmps30
  go_wp2_with fail
  refine (hz _).mono ?_
  rintro e w' ⟨x, n, rfl, rfl, hx⟩
  have k3 := key x hx
  have hs2 := hs x
  clear hx key hs
  generalize (if s = true then fneg x else x) = y at *
  go_wp2_with fail
  refine (hs2 _).mono ?_
  rintro e w' ⟨rfl, rfl⟩
  go_wp2_with fail
  go_ret
  exact ⟨_, _, rfl, rfl, k3⟩

end Go.Proofs.Ytepgelalkfgdlaa
