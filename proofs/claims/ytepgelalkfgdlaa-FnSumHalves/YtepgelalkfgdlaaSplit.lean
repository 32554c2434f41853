/- The contract of splitPower: the power of two and the factor of a word with a leading one. -/
import Derived.Test.YtepgelalkfgdlaaPow
import Derived.Test.YtepgelalkfgdlaaFl3
namespace Go.Proofs.Ytepgelalkfgdlaa
open Ieee Go.RowKit Fl

/-- the word with a leading one, of exponent d and fraction f -/
def nw (d f : Nat) : Nat := (1023 + d) * 2 ^ 52 + f
theorem nw_lt {d f : Nat} (hd : d ≤ 1023) (hf : f < 2 ^ 52) : nw d f < inf := norm_lt (by omega) hf
theorem V_nw (d f : Nat) (hf : f < 2 ^ 52) : V (nw d f) = (2 ^ 52 + f) * 2 ^ (1022 + d) := by
  unfold nw; rw [V_norm _ _ (by omega) hf, show 1023 + d - 1 = 1022 + d from by omega]

theorem div_step (d s f : Nat) (hf : f < 2 ^ 52) (hd : d ≤ 1023) (hs : s ≤ d) :
    floatBits .quo .f64 (nw d f) (p2 (1074 + s)) = some (nw (d - s) f) := by
  show double.div _ _ = _
  refine div_pos _ _ _ (nw_lt hd hf) (by omega) (nw_lt (by omega) hf) ?_
  rw [V_nw _ _ hf, V_nw _ _ hf, Nat.mul_assoc, Nat.mul_assoc, ← Nat.pow_add 2 (1022 + d) 1074, ← Nat.pow_add 2 (1022 + (d - s)) (1074 + s)]
  rw [show 1022 + d + 1074 = 1022 + (d - s) + (1074 + s) from by omega]

theorem mul_up (E f : Nat) (h1 : 1 ≤ E) (hE : E ≤ 1022) (hf : f < 2 ^ 52) :
    floatBits .mul .f64 (E * 2 ^ 52 + f) 9209861237972664320 = some (nw (E - 1) f) := by
  show double.mul _ _ = _
  have e : (9209861237972664320 : Nat) = p2 2096 := by decide
  rw [e]
  refine mul_pos _ _ _ (norm_lt (by omega) hf) (p2_lt (by omega)) (nw_lt (by omega) hf) ?_
  rw [V_p2, V_norm _ _ (by omega) hf, V_nw _ _ hf, Nat.mul_assoc, Nat.mul_assoc, ← Nat.pow_add 2 (E - 1) 2096, ← Nat.pow_add 2 (1022 + (E - 1)) 1074]
  rw [show E - 1 + 2096 = 1022 + (E - 1) + 1074 from by omega]

theorem ge_power (d s f : Nat) (hf : f < 2 ^ 52) (hd : d ≤ 1023) (hs : s ≤ 1023) :
    (FloatKind.f64.format.order (nw d f) (p2 (1074 + s)) == some .gt || FloatKind.f64.format.order (nw d f) (p2 (1074 + s)) == some .eq) = decide (s ≤ d) := by
  rw [order_ge _ _ (nw_lt hd hf) (p2_lt (by omega)), p2_norm _ (by omega)]
  unfold nw
  by_cases h : s ≤ d
  · rw [decide_eq_true h, decide_eq_true (by omega)]
  · rw [decide_eq_false h, decide_eq_false (by omega)]

theorem half_step (j : Nat) (h : j < 10) : 2 ^ (10 - j) = 2 * 2 ^ (9 - j) ∧ 2 ^ (10 - (j + 1)) = 2 ^ (9 - j) ∧ (512 : Int) / 2 ^ j = ((2 ^ (9 - j) : Nat) : Int) ∧ 2 ^ (9 - j) ≤ 512 := by
  have : j = 0 ∨ j = 1 ∨ j = 2 ∨ j = 3 ∨ j = 4 ∨ j = 5 ∨ j = 6 ∨ j = 7 ∨ j = 8 ∨ j = 9 := by omega
  rcases this with rfl | rfl | rfl | rfl | rfl | rfl | rfl | rfl | rfl | rfl <;> decide

/-- the state of the loop -/
def Split (E f : Nat) (x e i : Value) : Prop :=
  ∃ j d : Nat, j ≤ 10 ∧ d < 2 ^ (10 - j) ∧ d ≤ 1023 ∧ i = .int .i64 j ∧ x = .float .f64 (nw d f) ∧ e = .int .i64 ((E : Int) - 1023 - d)

set_option maxHeartbeats 1000000 in
theorem split_any (E f : Nat) (h1 : 1 ≤ E) (h2 : E ≤ 2046) (hf : f < 2 ^ 52) (x : Nat) (hx : x = E * 2 ^ 52 + f) (w : World) :
    Calls Try.prog 86 #[.float .f64 x] w fun e w' => e = .returned (.tuple #[.int .i64 ((E : Int) - 1023), .float .f64 (nw 0 f)]) ∧ w' = w := by
  have ho : (FloatKind.f64.format.order x 4607182418800017408 == some .lt) = decide (x < 4607182418800017408) := order_lt _ _ (by rw [hx]; exact norm_lt h2 hf) (by decide)
  by_cases hc : E < 1023
  · have hm : floatBits .mul .f64 x 9209861237972664320 = some (nw (E - 1) f) := by rw [hx]; exact mul_up E f h1 (by omega) hf
    have hq := fun w => run_float_arith (P := Try.prog) w .mul 24 .f64 _ _ _ hm
    rw [decide_eq_true (by omega)] at ho
    clear hx hm
    go_enter Try.func86, Try.ntmps86
    go_wp2
    go_loop [0, 4, 12] (fun x e i => Split E f x e i) (fun _ _ i => 10 - (intOf i).toNat)
    case atStart => exact ⟨0, E - 1, by omega, by omega, by omega, rfl, rfl, by congr 1; omega⟩
    case round =>
      obtain ⟨j, d, hj, hd, hd2, rfl, rfl, rfl⟩ := hrel
      by_cases hlt : j < 10
      · obtain ⟨e1, e2, e3, e4⟩ := half_step j hlt
        obtain ⟨s, hs⟩ : ∃ s, s = 2 ^ (9 - j) := ⟨_, rfl⟩
        rw [← hs] at e1 e2 e3 e4
        rw [e1] at hd
        have hg := ge_power d s f hf hd2 (by omega)
        have E2 : Hid (2 ^ (10 - (j + 1)) = s) := e2
        clear e1 e2 hs
        have hpw := fun w => power_up s (by omega) w
        by_cases hsd : s ≤ d
        · rw [decide_eq_true hsd] at hg
          have hdv := fun w => run_float_arith (P := Try.prog) w .quo 24 .f64 _ _ _ (div_step d s f hf hd2 hsd)
          go_wp2_with fail
          refine (hpw _).mono ?_
          rintro e w' ⟨rfl, rfl⟩
          go_wp2_with fail
          go_round
          case rel => exact ⟨j + 1, d - s, by omega, by rw [E2.out]; omega, by omega, by go_num, rfl, by congr 1; omega⟩
          case measure => simp [intOf]; omega
        · rw [decide_eq_false hsd] at hg
          go_wp2_with fail
          refine (hpw _).mono ?_
          rintro e w' ⟨rfl, rfl⟩
          go_wp2_with fail
          go_round
          case rel => exact ⟨j + 1, d, by omega, by rw [E2.out]; omega, by omega, by go_num, rfl, rfl⟩
          case measure => simp [intOf]; omega
      · have hd0 : d = 0 := by
          rw [show j = 10 from by omega] at hd; omega
        subst hd0
        go_wp2
        go_ret2
        exact ⟨by simp [nw], rfl⟩
  · have hx2 : x = nw (E - 1023) f := by rw [hx]; unfold nw; rw [show 1023 + (E - 1023) = E from by omega]
    rw [decide_eq_false (by omega)] at ho
    have Hx : Hid (x = nw (E - 1023) f) := hx2
    clear hx hx2
    go_enter Try.func86, Try.ntmps86
    go_wp2
    go_loop [0, 4, 12] (fun x e i => Split E f x e i) (fun _ _ i => 10 - (intOf i).toNat)
    case atStart => exact ⟨0, E - 1023, by omega, by omega, by omega, rfl, by rw [Hx.out], by congr 1; omega⟩
    case round =>
      obtain ⟨j, d, hj, hd, hd2, rfl, rfl, rfl⟩ := hrel
      by_cases hlt : j < 10
      · obtain ⟨e1, e2, e3, e4⟩ := half_step j hlt
        obtain ⟨s, hs⟩ : ∃ s, s = 2 ^ (9 - j) := ⟨_, rfl⟩
        rw [← hs] at e1 e2 e3 e4
        rw [e1] at hd
        have hg := ge_power d s f hf hd2 (by omega)
        have E2 : Hid (2 ^ (10 - (j + 1)) = s) := e2
        clear e1 e2 hs
        have hpw := fun w => power_up s (by omega) w
        by_cases hsd : s ≤ d
        · rw [decide_eq_true hsd] at hg
          have hdv := fun w => run_float_arith (P := Try.prog) w .quo 24 .f64 _ _ _ (div_step d s f hf hd2 hsd)
          go_wp2_with fail
          refine (hpw _).mono ?_
          rintro e w' ⟨rfl, rfl⟩
          go_wp2_with fail
          go_round
          case rel => exact ⟨j + 1, d - s, by omega, by rw [E2.out]; omega, by omega, by go_num, rfl, by congr 1; omega⟩
          case measure => simp [intOf]; omega
        · rw [decide_eq_false hsd] at hg
          go_wp2_with fail
          refine (hpw _).mono ?_
          rintro e w' ⟨rfl, rfl⟩
          go_wp2_with fail
          go_round
          case rel => exact ⟨j + 1, d, by omega, by rw [E2.out]; omega, by omega, by go_num, rfl, rfl⟩
          case measure => simp [intOf]; omega
      · have hd0 : d = 0 := by
          rw [show j = 10 from by omega] at hd; omega
        subst hd0
        go_wp2
        go_ret2
        exact ⟨by simp [nw], rfl⟩

end Go.Proofs.Ytepgelalkfgdlaa
