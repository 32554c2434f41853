/- Plain arithmetic for the specification's own loops over a float: halving, doubling, and what is left at their end. -/
import Derived.Test.YtbhomfgponhemaaZToBits
namespace Go.Proofs.Ytbhomfgponhemaa.Z
open Ieee Go.RowKit Fl

theorem two_p2 : (4611686018427387904 : Nat) = p2 1075 := by decide
theorem one_p2 : (4607182418800017408 : Nat) = p2 1074 := by decide
theorem top_p2 : (4841369599423283200 : Nat) = p2 1126 := by decide

theorem pow_split (n a b : Nat) (h : n = a + b) : 2 ^ n = 2 ^ a * 2 ^ b := by rw [h, Nat.pow_add]

theorem lt_cancel (a b c : Nat) (h : a * c < b * c) : a < b := Nat.lt_of_mul_lt_mul_right h

theorem parts (r : Nat) (h1 : 2 ^ 52 ≤ r) (h2 : r < inf) : ∃ E f, r = E * 2 ^ 52 + f ∧ 1 ≤ E ∧ E ≤ 2046 ∧ f < 2 ^ 52 := by
  have e : inf = 2047 * 2 ^ 52 := rfl
  exact ⟨r / 2 ^ 52, r % 2 ^ 52, by omega, by omega, by omega, by omega⟩

theorem halve (r : Nat) (h : 4611686018427387904 ≤ r) (hi : r < inf) :
    floatBits .quo .f64 r 4611686018427387904 = some (r - 2 ^ 52) ∧ V r = V (r - 2 ^ 52) * 2 ^ 1 ∧ r - 2 ^ 52 < inf ∧ 4607182418800017408 ≤ r - 2 ^ 52 := by
  obtain ⟨E, f, rfl, h1, h2, hf⟩ := parts r (by omega) hi
  have e : E * 2 ^ 52 + f - 2 ^ 52 = (E - 1) * 2 ^ 52 + f := by omega
  have hlt : (E - 1) * 2 ^ 52 + f < inf := norm_lt (by omega) hf
  have hV : V (E * 2 ^ 52 + f) = V ((E - 1) * 2 ^ 52 + f) * 2 ^ 1 := by
    rw [V_norm _ _ h1 hf, V_norm _ _ (by omega) hf, Nat.mul_assoc, ← Nat.pow_add 2 (E - 1 - 1) 1, show E - 1 - 1 + 1 = E - 1 from by omega]
  rw [e]
  refine ⟨?_, hV, hlt, by omega⟩
  show double.div _ _ = _
  rw [two_p2]
  refine div_pos _ _ 1075 hi (by omega) hlt ?_
  rw [hV]
  exact shift2 _ 1 1074 0 1075 rfl |>.trans (by rw [Nat.pow_zero, Nat.mul_one])

theorem doubled (r : Nat) (h : r < 4607182418800017408) :
    ∃ s, floatBits .mul .f64 r 4611686018427387904 = some s ∧ V s = V r * 2 ^ 1 ∧ s < inf ∧ s < 4611686018427387904 := by
  have e : inf = 2047 * 2 ^ 52 := rfl
  have hr : r < inf := by omega
  have key : ∀ s, s < inf → V s = V r * 2 ^ 1 → floatBits .mul .f64 r 4611686018427387904 = some s := by
    intro s hs hV
    show double.mul _ _ = _
    rw [two_p2]
    refine mul_pos _ _ _ hr (p2_lt (by omega)) hs ?_
    rw [V_p2, hV]
    exact shift1 (V r) 1075 1 1074 rfl
  by_cases hs : r < 2 ^ 52
  · have b1 : 2 * r < inf := by omega
    have b2 : 2 * r < 4611686018427387904 := by omega
    have hV : V (2 * r) = V r * 2 ^ 1 := by
      rw [V_small hs]
      by_cases h2 : 2 * r < 2 ^ 52
      · rw [V_small h2]; omega
      · have := V_norm 1 (2 * r - 2 ^ 52) (by omega) (by omega)
        rw [show 1 * 2 ^ 52 + (2 * r - 2 ^ 52) = 2 * r from by omega] at this
        rw [this]; omega
    exact ⟨2 * r, key _ b1 hV, hV, b1, b2⟩
  · have b1 : r + 2 ^ 52 < inf := by omega
    have b2 : r + 2 ^ 52 < 4611686018427387904 := by omega
    obtain ⟨E, f, hE, h1, h2, hf⟩ := parts r (by omega) hr
    have e3 : r + 2 ^ 52 = (E + 1) * 2 ^ 52 + f := by rw [hE, Nat.add_mul, Nat.one_mul, Nat.add_right_comm]
    have hV : V (r + 2 ^ 52) = V r * 2 ^ 1 := by
      rw [e3, hE, V_norm _ _ h1 hf, V_norm _ _ (by omega) hf, Nat.mul_assoc, ← Nat.pow_add 2 (E - 1) 1, show E - 1 + 1 = E + 1 - 1 from by omega]
    exact ⟨_, key _ b1 hV, hV, b1, b2⟩

theorem minus_one (f : Nat) (hf : f < 2 ^ 52) : ∃ a b, floatBits .sub .f64 (nw 0 f) 4607182418800017408 = some a ∧ floatBits .mul .f64 a 4841369599423283200 = some b ∧ floatToIntVal .f64 b .u64 = some (f : Int) := by
  obtain ⟨a, ha, va⟩ := exists_rung f 1022 (by omega) (below_top f 1022 (by omega) (by omega))
  obtain ⟨b, hb, vb⟩ := exists_rung f 1074 (by omega) (below_top f 1074 (by omega) (by omega))
  refine ⟨a, b, ?_, ?_, toInt_word b f hb vb (by omega)⟩
  · show double.sub _ _ = _
    have h0 : nw 0 f < inf := nw_lt (by omega) hf
    obtain ⟨x1, x2, _⟩ := fin_small h0
    have h1 : (4607182418800017408 : Nat) < inf := by decide
    obtain ⟨y1, y2, _⟩ := fin_small h1
    refine sub_exact _ _ _ (by rw [x1]; exact h0) (by rw [y1]; exact h1) ha x2 y2 ?_
    rw [x1, y1, V_nw _ _ hf, one_p2, V_p2, va, Nat.add_zero, Nat.add_mul, ← pow_split 1074 52 1022 rfl]
  · show double.mul _ _ = _
    rw [top_p2]
    refine mul_pos _ _ _ ha (p2_lt (by omega)) hb ?_
    rw [va, V_p2, vb]
    exact shift2 f 1022 1126 1074 1074 rfl

/-- what is left where no one leads -/
theorem tail_sub (r s : Nat) (hs : s < inf) (hV : V s = V r * 2 ^ 1022) (h1 : s < 4607182418800017408) :
    r < 2 ^ 52 ∧ ∃ b, floatBits .mul .f64 s 4841369599423283200 = some b ∧ floatToIntVal .f64 b .u64 = some (r : Int) := by
  have hlt : V s < 2 ^ 1074 := by
    have := V_mono h1
    rw [one_p2, V_p2] at this; exact this
  have hr : r < 2 ^ 52 := by
    have h2 : V r < 2 ^ 52 := by
      rw [hV] at hlt
      rw [pow_split 1074 52 1022 rfl] at hlt
      generalize 2 ^ 1022 = c at hlt
      exact lt_cancel (V r) (2 ^ 52) c hlt
    by_cases hc : r < 2 ^ 52
    · exact hc
    · exfalso
      have h4 : V (2 ^ 52) ≤ V r := by
        by_cases h5 : 2 ^ 52 = r
        · rw [h5]; exact Nat.le_refl _
        · exact Nat.le_of_lt (V_mono (by omega))
      have h6 : V (2 ^ 52) = 2 ^ 52 := by decide
      omega
  refine ⟨hr, ?_⟩
  obtain ⟨b, hb, vb⟩ := exists_rung r 1074 (by omega) (below_top r 1074 (by omega) (by omega))
  refine ⟨b, ?_, toInt_word b r hb vb (by omega)⟩
  show double.mul _ _ = _
  rw [top_p2]
  refine mul_pos _ _ _ hs (p2_lt (by omega)) hb ?_
  rw [V_p2, hV, vb, V_small hr]
  exact shift2 r 1022 1126 1074 1074 rfl

/-- from a word between 1 and 2 back to the first one -/
theorem back_up (r f t : Nat) (hf : f < 2 ^ 52) (h : V r = V (nw 0 f) * 2 ^ t) : r = (1023 + t) * 2 ^ 52 + f := by
  apply V_inj
  rw [h, V_norm _ _ (by omega) hf, V_nw _ _ hf, Nat.add_zero, Nat.mul_assoc, ← Nat.pow_add 2 1022 t, show 1023 + t - 1 = 1022 + t from by omega]
theorem back_down (r f t : Nat) (hf : f < 2 ^ 52) (ht : t ≤ 1022) (h : V (nw 0 f) = V r * 2 ^ t) : r = (1023 - t) * 2 ^ 52 + f := by
  apply V_inj
  apply Nat.eq_of_mul_eq_mul_right (Nat.two_pow_pos t)
  rw [← h, V_norm _ _ (by omega) hf, V_nw _ _ hf, Nat.add_zero, Nat.mul_assoc, ← Nat.pow_add 2 (1023 - t - 1) t, show 1023 - t - 1 + t = 1022 from by omega]

theorem up_bound (r s t : Nat) (hr : r < inf) (hs : 4607182418800017408 ≤ s) (h : V r = V s * 2 ^ t) : t ≤ 1023 := by
  have h1 : V (p2 1074) ≤ V s := by
    rw [← one_p2]
    by_cases e : 4607182418800017408 = s
    · rw [e]; exact Nat.le_refl _
    · exact Nat.le_of_lt (V_mono (by omega))
  rw [V_p2] at h1
  have h2 : V r < 2 ^ (2046 + 52) := by
    have e : inf = 2047 * 2 ^ 52 := rfl
    have h3 : V r < V ((2046 + 1) * 2 ^ 52) := V_mono (by omega)
    rw [V_pow 2046] at h3
    exact h3
  by_cases hc : t ≤ 1023
  · exact hc
  · exfalso
    have h5 := Nat.mul_le_mul h1 (pow_le 1024 t (by omega))
    rw [← h, ← pow_split (2046 + 52) 1074 1024 rfl] at h5
    exact Nat.lt_irrefl _ (Nat.lt_of_lt_of_le h2 h5)

end Go.Proofs.Ytbhomfgponhemaa.Z
