/- The contract of the specification's FromShort, and the law FnExactFromShort, walked. -/
import Derived.Test.YtepgelalkfgdlaaShort
namespace Go.Proofs.Ytepgelalkfgdlaa
open Ieee Go.RowKit Fl
attribute [local go_sem] run_fneg

theorem and_u32 (x y : Nat) (hx : x < 2 ^ 32) (hy : y < 2 ^ 32) : bits .and .u32 (x : Int) (y : Int) = ((x &&& y : Nat) : Int) := by
  show IntKind.u32.wrap ((BitVec.ofInt 32 (x : Int) &&& BitVec.ofInt 32 (y : Int)).toNat : Int) = _
  rw [BitVec.toNat_and, ofInt_nat32 x hx, ofInt_nat32 y hy, IntKind.wrap_u32]
  have := Nat.and_le_left (n := x) (m := y)
  omega
theorem low_u32 (x n : Nat) (hx : x < 2 ^ 32) (hn : n ≤ 31) : bits .and .u32 (x : Int) ((2 ^ n - 1 : Nat) : Int) = ((x % 2 ^ n : Nat) : Int) := by
  have : 2 ^ n ≤ 2 ^ 31 := pow_le n 31 hn
  rw [and_u32 x _ hx (by omega), Nat.and_two_pow_sub_one_eq_mod]

set_option maxRecDepth 20000 in
set_option maxHeartbeats 800000 in
theorem fromShort_spec (b : Nat) (hb : b < 2 ^ 32) (w : World) :
    Calls Try.prog 28 #[.int .u32 b] w fun e w' => ∃ x n, e = .returned (.float .f64 x) ∧ w' = w.drewN n ∧ SVal b x := by
  obtain ⟨E, hE⟩ : ∃ E, E = b / 2 ^ 23 % 2 ^ 8 := ⟨_, rfl⟩
  obtain ⟨f, hf⟩ : ∃ f, f = b % 2 ^ 23 := ⟨_, rfl⟩
  have hf2 : f < 2 ^ 23 := by omega
  have hE2 : E ≤ 255 := by omega
  have e1 : bits .and .u32 ((b : Int) / 8388608) 255 = (E : Int) := by
    have e := low_u32 (b / 2 ^ 23) 8 (by omega) (by omega)
    rw [← hE, show ((b / 2 ^ 23 : Nat) : Int) = (b : Int) / 8388608 from by omega] at e
    exact e
  have e2 : bits .and .u32 (b : Int) 8388607 = (f : Int) := by
    have := low_u32 b 23 hb (by omega)
    rw [← hf] at this
    exact this
  have e3 : ((b : Int) / 2147483648 == 1) = decide (b / 2 ^ 31 = 1) := by
    rw [Bool.eq_iff_iff]; simp; omega
  have hz := zero_any
  obtain ⟨x0, hx0, vx0⟩ := exists_rung f 1074 (by omega) (below_top f 1074 (by omega) (by omega))
  have c0 := floatOf f x0 hx0 vx0
  have hsc : ∀ w, Calls Try.prog 66 #[.float .f64 x0, .int .i64 (-((149 : Nat) : Int))] w fun e w' => (∃ s, e = .returned (.float .f64 s) ∧ s < inf ∧ V s = f * 2 ^ 925) ∧ w' = w := by
    intro w
    obtain ⟨k, hk⟩ : ∃ k : Nat, k + 149 = 1074 := ⟨925, rfl⟩
    rw [← hk] at vx0
    have h := scale_down f k 149 x0 (by omega) hx0 (by omega) vx0 (by omega) (below_top f (k + 149) (by omega) (by omega)) w
    rw [show k = 925 from by omega] at h
    exact h
  have hd0 : floatBits .quo .f64 4607182418800017408 0 = some inf := by
    have := div_zero 0 (by decide)
    rw [show neg 0 = false from by decide, word_false] at this
    exact this
  have q0 := fun w => run_float_arith (P := Try.prog) w .quo 24 .f64 _ _ _ hd0
  have key : ∀ x, SMag E f x → SVal b (if decide (b / 2 ^ 31 = 1) = true then fneg x else x) := by
    intro x hx
    rw [hE, hf] at hx
    refine ⟨x, hx, ?_⟩
    by_cases hc : b / 2 ^ 31 = 1
    · rw [decide_eq_true hc, if_pos rfl, if_pos hc]; exact same_rfl _
    · rw [decide_eq_false hc, if_neg hc]; exact same_rfl _
  have keyN : ∀ x, isNaN x → E = 255 → f ≠ 0 → SVal b x := by
    intro x hx h1 h2
    have hm : SMag E f x := .inl ⟨h1, h2, hx⟩
    rw [hE, hf] at hm
    refine ⟨x, hm, .inr ⟨hx, ?_⟩⟩
    split
    · unfold isNaN; rw [rung_fneg]; exact hx
    · exact hx
  clear hE hf
  by_cases h1 : E = 255
  · have e1' : bits .and .u32 ((b : Int) / 8388608) 255 = 255 := by rw [e1, h1]; rfl
    by_cases h2 : f = 0
    · have e2' : bits .and .u32 (b : Int) 8388607 = 0 := by rw [e2, h2]; rfl
      have k2 := key inf (.inr (.inl ⟨h1, h2, rfl⟩))
      have c0' : floatOfInt .f64 0 = x0 := by rw [← c0, h2]; rfl
      clear hf2 hE2 e1 e2 hd0 h1 h2 vx0 hx0 c0 hb key keyN
      generalize inf = i at *
      cases hs : decide (b / 2 ^ 31 = 1)
      all_goals
        rw [hs] at e3 k2
        clear hs
        go_enter Try.func28, Try.ntmps28
        go_wp2_with fail
        refine (hz _).mono ?_
        rintro e w' ⟨rfl, rfl⟩
        go_wp2_with fail
        refine (hsc _).mono ?_
        rintro e w' ⟨⟨s, rfl, hs1, hs2⟩, rfl⟩
        clear hs1 hs2
        go_wp2_with fail
        go_ret
        exact ⟨_, 0, rfl, rfl, k2⟩
    · have e4 : ((f : Int) != 0) = true := by rw [bne_iff_ne]; omega
      have hn0 : floatBits .quo .f64 0 0 = none := by decide
      have q1 := fun w => run_nan (P := Try.prog) w .quo (.inr (.inr (.inr rfl))) 24 0 0 hn0
      have k2 := fun x hx => keyN x hx h1 h2
      clear hE2 e1 hd0 h1 h2 vx0 hx0 hb hn0 key keyN
      generalize inf = i at *
      go_enter Try.func28, Try.ntmps28
      go_wp2_with fail
      refine (hz _).mono ?_
      rintro e w' ⟨rfl, rfl⟩
      go_wp2_with fail
      refine (hsc _).mono ?_
      rintro e w' ⟨⟨s, rfl, hs1, hs2⟩, rfl⟩
      clear hs1 hs2
      go_wp2_with fail
      go_ret
      exact ⟨_, 1, rfl, rfl, k2 _ (nanv_nan _ _ _)⟩
  · have e5 : ((E : Int) == 255) = false := by rw [beq_eq_false_iff_ne]; omega
    by_cases h0 : E = 0
    · have e1' : bits .and .u32 ((b : Int) / 8388608) 255 = 0 := by rw [e1, h0]; rfl
      have key2 : ∀ s, s < inf → V s = f * 2 ^ 925 → SVal b (if decide (b / 2 ^ 31 = 1) = true then fneg s else s) := fun s hs hv => key s (.inr (.inr (.inl ⟨by omega, h0, hs, hv⟩)))
      clear hE2 e1 hd0 h1 h0 vx0 hx0 hb key keyN q0 e5
      cases hs : decide (b / 2 ^ 31 = 1)
      all_goals
        rw [hs] at e3 key2
        clear hs
        go_enter Try.func28, Try.ntmps28
        go_wp2_with fail
        refine (hz _).mono ?_
        rintro e w' ⟨rfl, rfl⟩
        go_wp2_with fail
        refine (hsc _).mono ?_
        rintro e w' ⟨⟨s, rfl, hs1, hs2⟩, rfl⟩
        have k3 := key2 s hs1 hs2
        clear hs1 hs2 key2
        go_wp2_with fail
        go_ret
        exact ⟨_, 0, rfl, rfl, k3⟩
    · obtain ⟨x1, hx1, vx1⟩ := exists_rung (2 ^ 23 + f) 1074 (by omega) (below_top (2 ^ 23 + f) 1074 (by omega) (by omega))
      have c1 := floatOf (2 ^ 23 + f) x1 hx1 vx1
      have e6 : (((2 ^ 23 + f : Nat)) : Int) = (f : Int) + 8388608 := by omega
      rw [e6] at c1
      have key2 : ∀ s, s < inf → V s = (2 ^ 23 + f) * 2 ^ (924 + E) → SVal b (if decide (b / 2 ^ 31 = 1) = true then fneg s else s) := fun s hs hv => key s (.inr (.inr (.inr ⟨by omega, by omega, hs, hv⟩)))
      have hsc2 : ∀ w, Calls Try.prog 66 #[.float .f64 x1, .int .i64 ((E : Int) - 150)] w fun e w' => (∃ s, e = .returned (.float .f64 s) ∧ s < inf ∧ V s = (2 ^ 23 + f) * 2 ^ (924 + E)) ∧ w' = w := by
        intro w
        by_cases hc : 150 ≤ E
        · have := scale_up (2 ^ 23 + f) 1074 (E - 150) x1 hx1 (by omega) vx1 (by omega) (below_top _ _ (by omega) (by omega)) w
          rw [show (((E - 150 : Nat)) : Int) = (E : Int) - 150 from by omega, show 1074 + (E - 150) = 924 + E from by omega] at this
          exact this
        · have := scale_down (2 ^ 23 + f) (924 + E) (150 - E) x1 (by omega) hx1 (by omega) (by rw [vx1, show 924 + E + (150 - E) = 1074 from by omega]) (by omega) (below_top _ _ (by omega) (by omega)) w
          rw [show (-((150 - E : Nat) : Int)) = (E : Int) - 150 from by omega] at this
          exact this
      have e7 : (0 : Int) < (E : Int) := by omega
      clear e6 hd0 h1 h0 vx0 hx0 vx1 hx1 hb key keyN q0
      cases hs : decide (b / 2 ^ 31 = 1)
      all_goals
        rw [hs] at e3 key2
        clear hs
        go_enter Try.func28, Try.ntmps28
        go_wp2_with fail
        refine (hz _).mono ?_
        rintro e w' ⟨rfl, rfl⟩
        go_wp2_with fail
        refine (hsc _).mono ?_
        rintro e w' ⟨⟨s, rfl, hs1, hs2⟩, rfl⟩
        clear hs1 hs2
        go_wp2_with fail
        refine (hsc2 _).mono ?_
        rintro e w' ⟨⟨s, rfl, hs1, hs2⟩, rfl⟩
        have k3 := key2 s hs1 hs2
        clear hs1 hs2 key2
        go_wp2_with fail
        go_ret
        exact ⟨_, 0, rfl, rfl, k3⟩

theorem nat_u32 {a : Int} (h : (Lit.int .u32 a).wf = true) : ∃ b : Nat, a = b ∧ b < 2 ^ 32 := by
  have hb := bounds_u32 h
  exact ⟨a.toNat, by omega, by omega⟩

theorem fnExactFromShort_walk (a : Int) (ha : (Lit.int .u32 a).wf = true) (w : World) :
    Calls Try.prog 10 #[.int .u32 a] w fun e w' => e = .returned (.bool true) ∧ Below w.heap.size w w' := by
  obtain ⟨b, rfl, hb⟩ := nat_u32 ha
  have h1 := fromShort_spec b hb
  have h2 := fromShort_impl b hb
  clear ha hb
  go_enter Try.func10, Try.ntmps10
  go_wp2_with fail
  refine (h1 _).mono ?_
  rintro e w' ⟨x, n, rfl, rfl, hx⟩
  go_wp2_with fail
  refine (h2 _).mono ?_
  rintro e w' ⟨y, m, rfl, rfl, hy⟩
  have hs := SVal.same hy hx
  go_wp2_with fail
  refine (sameFloat_any _ _ hs _).mono ?_
  rintro e w' ⟨rfl, rfl⟩
  go_wp2_with fail
  go_ret
  exact ⟨rfl, below_drewN (Below.refl _ _) _⟩

end Go.Proofs.Ytepgelalkfgdlaa
