/- The contract of the specification's ShortBits, and the law FnExactShortBits, walked. -/
import Derived.Test.YtepgelalkfgdlaaShortI
import Derived.Test.YtepgelalkfgdlaaLawToBits
namespace Go.Proofs.Ytepgelalkfgdlaa
open Ieee Go.RowKit Fl

set_option maxRecDepth 10000 in
set_option maxHeartbeats 2000000 in
theorem short_spec_high (b E m : Nat) (hb : b < 2 ^ 64) (hn : ¬ inf < rung b) (hE : E = rung b / 2 ^ 52) (hm : m = rung b % 2 ^ 52) (h1 : 897 ≤ E) (h2 : E ≤ 2046) (w : World) :
    Calls Try.prog 27 #[.float .f64 b] w fun e w' => e = .returned (.int .u32 ((sgn b * 2 ^ 31 + sh32 E m : Nat) : Int)) ∧ w' = w := by
  have ho := order_self b hn
  have ht := toBits_spec b hb
  rw [canon_no hn] at ht
  have hs : sgn b ≤ 1 := by unfold sgn; omega
  have e2 : (b : Int) / 9223372036854775808 = (sgn b : Int) := by unfold sgn; omega
  have hm2 : m < 2 ^ 52 := by omega
  have hrb : rung b = b % 2 ^ 63 := rfl
  have e1 := exp_bits b E hb (by omega)
  have e3 : bits .and .u64 (b : Int) 4503599627370495 = (m : Int) := by
    have := low_u64 b 52 hb (by omega)
    rw [show b % 2 ^ 52 = m from by omega] at this
    exact this
  have e4 : ((E : Int) == 2047) = false := by rw [beq_eq_false_iff_ne]; omega
  have e5 : ((E : Int) == 0) = false := by rw [beq_eq_false_iff_ne]; omega
  have e6 : (E : Int) - 1023 - 23 - ((E : Int) - 1075) = 29 := by omega
  have hx := rnd29 m hm2
  obtain ⟨d, hd⟩ : ∃ d : Nat, d = E - 897 := ⟨_, rfl⟩
  have hr : rnd (2 ^ 52 + m) 29 = if 268435456 < (2 ^ 52 + m) % 2 ^ 29 then (2 ^ 52 + m) / 2 ^ 29 + 1 else if (2 ^ 52 + m) % 2 ^ 29 = 268435456 then (if (2 ^ 52 + m) / 2 ^ 29 % 2 = 1 then (2 ^ 52 + m) / 2 ^ 29 + 1 else (2 ^ 52 + m) / 2 ^ 29) else (2 ^ 52 + m) / 2 ^ 29 := rfl
  have hres : ∀ z, z = rnd (2 ^ 52 + m) 29 → sh32 E m = if 2139095040 < d * 2 ^ 23 + z then 2139095040 else d * 2 ^ 23 + z := by
    intro z hz
    unfold sh32
    rw [← hz] at hx ⊢
    by_cases h3 : 1150 < E
    · rw [if_pos h3]
      split
      · rfl
      · omega
    · rw [if_neg h3, if_neg (by omega), if_neg (by omega), ← hd]
  rw [hr] at hx hres
  have g1 : ((m : Int) + 4503599627370496) / 536870912 = (((2 ^ 52 + m) / 2 ^ 29 : Nat) : Int) := by omega
  have hK : (2 ^ 52 + m) / 2 ^ 29 < 2 ^ 25 := by omega
  have g2 : (m : Int) + 4503599627370496 - (((2 ^ 52 + m) / 2 ^ 29 : Nat) : Int) * 536870912 = (((2 ^ 52 + m) % 2 ^ 29 : Nat) : Int) := by omega
  have hR : (2 ^ 52 + m) % 2 ^ 29 < 2 ^ 29 := Nat.mod_lt _ (by decide)
  obtain ⟨H, hH⟩ : ∃ H : Nat, H = 268435456 := ⟨_, rfl⟩
  rw [← hH] at hx hres
  have HH : Hid ((H : Int) = 268435456) := by show (H : Int) = 268435456; omega
  clear hrb hE hm hb hn hr
  generalize sgn b = s at *
  generalize (2 ^ 52 + m) / 2 ^ 29 = K at *
  generalize (2 ^ 52 + m) % 2 ^ 29 = R at *
  obtain ⟨z, hz⟩ : ∃ z : Nat, z = if H < R then K + 1 else if R = H then (if K % 2 = 1 then K + 1 else K) else K := ⟨_, rfl⟩
  rw [← hz] at hx hres
  have hres2 := hres z rfl
  clear hres hH
  have HF0 : Hid (sh32 E m = if 2139095040 < d * 2 ^ 23 + z then 2139095040 else d * 2 ^ 23 + z) := hres2
  clear hres2
  generalize sh32 E m = F at *
  obtain ⟨q, hq1, hq2⟩ : ∃ q : Bool, q = (decide (H < R) || (decide (R = H) && decide (K % 2 = 1))) ∧ (z : Int) = (K : Int) + (if q then 1 else 0) := by
    refine ⟨_, rfl, ?_⟩
    by_cases c1 : H < R
    · rw [if_pos c1] at hz; simp [c1]; omega
    · rw [if_neg c1] at hz
      by_cases c2 : R = H
      · rw [if_pos c2] at hz
        by_cases c3 : K % 2 = 1
        · rw [if_pos c3] at hz; simp [c2, c3]; omega
        · rw [if_neg c3] at hz; simp [c2, c3]; omega
      · rw [if_neg c2] at hz; simp [c1, c2]; omega
  have HQ2 : Hid ((z : Int) = (K : Int) + (if q then 1 else 0)) := hq2
  clear hz hq2
  have hdb : d ≤ 1149 := by omega
  · go_enter Try.func27, Try.ntmps27
    go_wp2_with fail
    refine (ht _).mono ?_
    rintro e w' ⟨rfl, rfl⟩
    go_upto_region 21 with fail
    go_cut [8, 12] (fun s8 s12 wc => ∃ u : Int, Hid (u + 149 = (d : Int)) ∧ s8 = .int .i64 u ∧ s12 = .int .u64 (H : Int) ∧ wc = w')
    case first =>
      go_wp2_with fail
      go_meet
      exact ⟨_, (by show _ = _; omega), rfl, by rw [HH.out], rfl⟩
    case rest =>
    obtain ⟨u, Hu, rfl, rfl, rfl⟩ := hcut
    clear g1 g2 e1 e2 e3 e4 e5 e6 ho ht HH hd
    go_upto_region 22 with fail
    go_cut [11, 77] (fun s11 s77 wd => True ∧ s77 = .bool q ∧ wd = wc)
    case first =>
      clear HQ2
      have HQ1 : Hid (q = (decide (H < R) || (decide (R = H) && decide (K % 2 = 1)))) := hq1
      clear hq1
      by_cases c1 : H < R
      · go_wp2_with fail
        go_meet
        exact ⟨trivial, by rw [HQ1.out]; simp [c1], rfl⟩
      · by_cases c2 : R = H
        · have c2' : ((R : Int) == (H : Int)) = true := by rw [beq_iff_eq]; omega
          by_cases c3 : K % 2 = 1
          · have c3' : ((K : Int) % 2 == 1) = true := by rw [beq_iff_eq]; omega
            have HB : Hid (q = true) := by show q = true; rw [HQ1.out]; simp [c2, c3]
            clear c2 c3 HQ1
            go_wp2_with fail
            go_meet
            exact ⟨trivial, by rw [HB.out], rfl⟩
          · have c3' : ((K : Int) % 2 == 1) = false := by rw [beq_eq_false_iff_ne]; omega
            have HB : Hid (q = false) := by show q = false; rw [HQ1.out]; simp [c2, c3]
            clear c2 c3 HQ1
            go_wp2_with fail
            go_meet
            exact ⟨trivial, by rw [HB.out], rfl⟩
        · have c2' : ((R : Int) == (H : Int)) = false := by rw [beq_eq_false_iff_ne]; omega
          have HB : Hid (q = false) := by show q = false; rw [HQ1.out]; simp [c1, c2]
          clear c2 HQ1
          go_wp2_with fail
          go_meet
          exact ⟨trivial, by rw [HB.out], rfl⟩
    case rest =>
      obtain ⟨_, rfl, rfl⟩ := hcut
      clear hq1
      cases q
      all_goals
        go_upto_region 24 with fail
        go_cut [10, 13] (fun s10 s13 we => ∃ x : Int, Hid (x = (z : Int)) ∧ s10 = .int .u64 x ∧ s13 = .int .u64 x ∧ we = wc)
        case first =>
          clear hx
          go_wp2_with fail
          go_meet
          exact ⟨_, by have := HQ2.out; simp at this; show _ = _; omega, rfl, rfl, rfl⟩
        case rest =>
          obtain ⟨x, Hx, rfl, rfl, rfl⟩ := hcut
          have hu0 : u + 149 = (d : Int) := Hu.out
          have bx1 : 8388608 ≤ x := by have := Hx.out; omega
          have bx2 : x ≤ 16777216 := by have := Hx.out; omega
          have t2 : decide ((8388608 : Int) ≤ x) = true := decide_eq_true bx1
          have b3 : (d : Int) ≤ 1149 := by omega
          have HF : Hid ((F : Int) = if 2139095040 < (d : Int) * 8388608 + x then 2139095040 else (d : Int) * 8388608 + x) := by
            show _ = _
            have := Hx.out
            rw [HF0.out]
            by_cases hc : 2139095040 < d * 2 ^ 23 + z
            · rw [if_pos hc, if_pos (by omega)]; rfl
            · rw [if_neg hc, if_neg (by omega)]; omega
          clear hx HQ2 HF0 Hx h1 h2 hdb hK hR hm2
          by_cases hd0 : d = 0
          · have t1 : decide ((-149 : Int) < u) = false := decide_eq_false (by omega)
            clear hd0 Hu
            by_cases hc : 2139095040 < (d : Int) * 8388608 + x
            · go_wp2_with fail
              go_ret
              exact ⟨ret_int (by have h5 := HF.out; rw [if_pos hc] at h5; omega), rfl⟩
            · go_wp2_with fail
              go_ret
              exact ⟨ret_int (by have h5 := HF.out; rw [if_neg (by omega)] at h5; omega), rfl⟩
          · have t1 : decide ((-149 : Int) < u) = true := decide_eq_true (by omega)
            clear hd0 Hu
            by_cases hc : 2139095040 < (d : Int) * 8388608 + x
            · go_wp2_with fail
              go_ret
              exact ⟨ret_int (by have h5 := HF.out; rw [if_pos hc] at h5; omega), rfl⟩
            · go_wp2_with fail
              go_ret
              exact ⟨ret_int (by have h5 := HF.out; rw [if_neg (by omega)] at h5; omega), rfl⟩

theorem short_spec (b : Nat) (hb : b < 2 ^ 64) (w : World) :
    Calls Try.prog 27 #[.float .f64 b] w fun e w' => e = .returned (.int .u32 (SB b)) ∧ w' = w := by
  unfold SB
  by_cases hn : inf < rung b
  · rw [if_pos hn]
    have ho := order_nan b b hn
    clear hn hb
    go_enter Try.func27, Try.ntmps27
    go_wp2_with fail
    go_ret
    exact ⟨rfl, rfl⟩
  · rw [if_neg hn]
    obtain ⟨E, hE⟩ : ∃ E, E = rung b / 2 ^ 52 := ⟨_, rfl⟩
    obtain ⟨m, hm⟩ : ∃ m, m = rung b % 2 ^ 52 := ⟨_, rfl⟩
    rw [← hE, ← hm]
    have ei : inf = 2047 * 2 ^ 52 := rfl
    have hm2 : m < 2 ^ 52 := by omega
    by_cases h1 : 897 ≤ E
    · by_cases h2 : E ≤ 2046
      · exact short_spec_high b E m hb hn hE hm h1 h2 w
      · have e0 : E = 2047 := by omega
        have er : sh32 E m = 2139095040 := by unfold sh32; rw [if_pos (by omega)]
        rw [er]
        have ho := order_self b hn
        have ht := toBits_spec b hb
        rw [canon_no hn] at ht
        have hs : sgn b ≤ 1 := by unfold sgn; omega
        have e2 : (b : Int) / 9223372036854775808 = (sgn b : Int) := by unfold sgn; omega
        have hrb : rung b = b % 2 ^ 63 := rfl
        have e1 := exp_bits b E hb (by omega)
        rw [e0] at e1
        have e1' : bits .and .u64 ((b : Int) / 4503599627370496) 2047 = 2047 := e1
        clear hrb hE hm hb hn e1 e0 er h1 h2 ei hm2
        generalize sgn b = s at *
        go_enter Try.func27, Try.ntmps27
        go_wp2_with fail
        refine (ht _).mono ?_
        rintro e w' ⟨rfl, rfl⟩
        go_wp2_with fail
        go_ret
        exact ⟨ret_int (by omega), rfl⟩
    · by_cases h3 : 926 - E ≤ 60
      · have er : sh32 E m = rnd (2 ^ 52 + m) (926 - E) := by unfold sh32; rw [if_neg (by omega), if_pos (by omega), if_neg (by omega)]
        rw [er]
        exact short_spec_low b E m (926 - E) hb hn hE hm (by omega) (by omega) rfl h3 w
      · have er : sh32 E m = 0 := by
          unfold sh32
          rw [if_neg (by omega), if_pos (by omega)]
          split
          · rfl
          · have hp : 2 ^ 60 ≤ 2 ^ (926 - E - 1) := pow_le 60 (926 - E - 1) (by omega)
            have hp2 : 2 ^ 61 ≤ 2 ^ (926 - E) := pow_le 61 (926 - E) (by omega)
            unfold rnd
            rw [Nat.div_eq_of_lt (by omega), Nat.mod_eq_of_lt (by omega), if_neg (by omega), if_neg (by omega)]
        rw [er]
        have ho := order_self b hn
        have ht := toBits_spec b hb
        rw [canon_no hn] at ht
        have hs : sgn b ≤ 1 := by unfold sgn; omega
        have e2 : (b : Int) / 9223372036854775808 = (sgn b : Int) := by unfold sgn; omega
        have hrb : rung b = b % 2 ^ 63 := rfl
        have e1 := exp_bits b E hb (by omega)
        have e3 : bits .and .u64 (b : Int) 4503599627370495 = (m : Int) := by
          have := low_u64 b 52 hb (by omega)
          rw [show b % 2 ^ 52 = m from by omega] at this
          exact this
        by_cases h0 : E = 0
        · rw [h0] at e1
          have e1' : bits .and .u64 ((b : Int) / 4503599627370496) 2047 = 0 := e1
          clear hrb hE hm hb hn e1 er h1 h3 ei h0
          generalize sgn b = s at *
          go_enter Try.func27, Try.ntmps27
          go_wp2_with fail
          refine (ht _).mono ?_
          rintro e w' ⟨rfl, rfl⟩
          go_wp2_with fail
          go_ret
          exact ⟨ret_int (by omega), rfl⟩
        · have e4 : ((E : Int) == 2047) = false := by rw [beq_eq_false_iff_ne]; omega
          have e5 : ((E : Int) == 0) = false := by rw [beq_eq_false_iff_ne]; omega
          have hEb : E < 866 := by omega
          clear hrb hE hm hb hn er h1 h3 ei h0
          generalize sgn b = s at *
          go_enter Try.func27, Try.ntmps27
          go_wp2_with fail
          refine (ht _).mono ?_
          rintro e w' ⟨rfl, rfl⟩
          go_wp2_with fail
          go_ret
          exact ⟨ret_int (by omega), rfl⟩

theorem fnExactShortBits_walk (b : Nat) (hb : (Lit.float .f64 b).wf = true) (w : World) :
    Calls Try.prog 9 #[.float .f64 b] w fun e w' => e = .returned (.bool true) ∧ Below w.heap.size w w' := by
  have h1 := short_spec b (wf_lt hb)
  have h2 := short_impl b (wf_lt hb)
  clear hb
  generalize SB b = c at *
  go_enter Try.func9, Try.ntmps9
  go_wp2_with fail
  refine (h1 _).mono ?_
  rintro e w' ⟨rfl, rfl⟩
  go_wp2_with fail
  refine (h2 _).mono ?_
  rintro e w' ⟨rfl, k, rfl⟩
  go_wp2_with fail
  go_ret
  exact ⟨rfl, below_drewN (Below.refl _ _) _⟩

end Go.Proofs.Ytepgelalkfgdlaa
