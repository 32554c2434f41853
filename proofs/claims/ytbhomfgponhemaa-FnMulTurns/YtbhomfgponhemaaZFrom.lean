/- The contracts of the two FromBits: the float of these bits, some NaN for bits of one. -/
import Derived.Test.YtbhomfgponhemaaZSize
namespace Go.Proofs.Ytbhomfgponhemaa.Z
open Ieee Go.RowKit Fl
attribute [local go_sem] run_fneg

theorem fneg_pos (r : Nat) (h : r < 2 ^ 63) : fneg r = 2 ^ 63 + r := by
  have h1 := xor_top r h
  have h2 : fneg (2 ^ 63 + r) = r := h1
  rw [← h2, fneg_fneg, h2]

theorem neg_div (b : Nat) (h : b < 2 ^ 64) : neg b = decide (b / 2 ^ 63 = 1) := by
  unfold neg
  have : b / 2 ^ 63 = 0 ∨ b / 2 ^ 63 = 1 := by omega
  rcases this with h | h <;> rw [h] <;> decide

theorem nan_fneg {x : Nat} (hx : x < 2 ^ 63) (h : isNaN x) : isNaN (fneg x) := by
  rw [fneg_pos x hx]
  unfold isNaN at h ⊢
  rw [rung_small x hx] at h
  unfold rung
  omega

theorem nan_word : isNaN 9221120237041090561 := by show inf < rung 9221120237041090561; decide

theorem andNot_top (b : Nat) (h : b < 2 ^ 64) : bits .andNot .u64 (b : Int) 9223372036854775808 = ((b % 2 ^ 63 : Nat) : Int) := by
  show IntKind.u64.wrap ((BitVec.ofInt 64 (b : Int) &&& ~~~ (BitVec.ofInt 64 9223372036854775808)).toNat : Int) = _
  have e : (~~~ (BitVec.ofInt 64 9223372036854775808)).toNat = 2 ^ 63 - 1 := by decide
  rw [BitVec.toNat_and, e, ofInt_nat b h, Nat.and_two_pow_sub_one_eq_mod, IntKind.wrap_u64]
  omega

theorem double_any (n k r : Nat) (hr : r < inf) (hn : n < 2 ^ 53) (hV : V r = n * 2 ^ k) (hb : n * 2 ^ (k + 1) < 2 ^ 2098) :
    ∃ s, s < inf ∧ V s = n * 2 ^ (k + 1) ∧ floatBits .mul .f64 r 4611686018427387904 = some s := by
  obtain ⟨s, hs, vs⟩ := exists_rung n (k + 1) hn hb
  refine ⟨s, hs, vs, ?_⟩
  show double.mul _ _ = _
  rw [two_p2]
  refine mul_pos _ _ _ hr (p2_lt (by omega)) hs ?_
  rw [V_p2, hV, vs]
  exact shift2 n k 1075 (k + 1) 1074 (by omega)

theorem halve_any (n k r : Nat) (hr : r < inf) (hn : n < 2 ^ 53) (hV : V r = n * 2 ^ (k + 1)) (hb : n * 2 ^ k < 2 ^ 2098) :
    ∃ s, s < inf ∧ V s = n * 2 ^ k ∧ floatBits .quo .f64 r 4611686018427387904 = some s := by
  obtain ⟨s, hs, vs⟩ := exists_rung n k hn hb
  refine ⟨s, hs, vs, ?_⟩
  show double.div _ _ = _
  rw [two_p2]
  refine div_pos _ _ 1075 hr (by omega) hs ?_
  rw [hV, vs]
  exact shift2 n (k + 1) 1074 k 1075 (by omega)

theorem scale_le (n a b : Nat) (h : a ≤ b) : n * 2 ^ a ≤ n * 2 ^ b := Nat.mul_le_mul_left n (pow_le a b h)

/-- the state of a loop that scales -/
def Scaled (n k : Nat) (x : Value) : Prop := ∃ r, r < inf ∧ V r = n * 2 ^ k ∧ x = .float .f64 r

set_option maxRecDepth 20000 in
theorem scale_up (n k m r : Nat) (hr : r < inf) (hn : n < 2 ^ 53) (hV : V r = n * 2 ^ k) (hm : m ≤ 4096) (hb : n * 2 ^ (k + m) < 2 ^ 2098) (w : World) :
    Calls Try.prog 34 #[.float .f64 r, .int .i64 m] w fun e w' => (∃ s, e = .returned (.float .f64 s) ∧ s < inf ∧ V s = n * 2 ^ (k + m)) ∧ w' = w := by
  have HB : Hid (n * 2 ^ (k + m) < 2 ^ 2098) := hb
  have HV : Hid (V r = n * 2 ^ k) := hV
  clear hb hV
  go_enter Try.func34, Try.ntmps34
  go_wp2
  go_loop [0, 1] (fun x e => ∃ t : Nat, t ≤ m ∧ e = .int .i64 ((m : Int) - t) ∧ Scaled n (k + t) x) (fun _ e => (intOf e).toNat)
  case atStart => exact ⟨0, by omega, by go_num, r, hr, HV.out, rfl⟩
  case round =>
    obtain ⟨t, ht, rfl, q, hq, vq, rfl⟩ := hrel
    by_cases hlt : t < m
    · obtain ⟨s, hs, vs, m1⟩ := double_any n (k + t) q hq hn vq (Nat.lt_of_le_of_lt (scale_le n _ _ (by omega)) HB.out)
      have q1 := fun w => run_float_arith (P := Try.prog) w .mul 24 .f64 _ _ _ m1
      have VS : Hid (V s = n * 2 ^ (k + (t + 1))) := vs
      clear m1 vs vq
      go_wp2
      go_round
      case rel => exact ⟨t + 1, by omega, by congr 1; omega, s, hs, VS.out, rfl⟩
      case measure => simp [intOf]; omega
    · have VQ : Hid (V q = n * 2 ^ (k + m)) := by show V q = _; rw [vq, show t = m from by omega]
      have e0 : (m : Int) - (t : Int) = 0 := by omega
      rw [e0]
      clear vq e0
      go_wp2
      refine wp_loop_rounds 1 ?_
      rw [rounds_succ]
      go_wp2
      go_ret
      exact ⟨⟨q, rfl, hq, VQ.out⟩, rfl⟩

set_option maxRecDepth 20000 in
theorem scale_down (n k m r : Nat) (h0 : 0 < m) (hr : r < inf) (hn : n < 2 ^ 53) (hV : V r = n * 2 ^ (k + m)) (hm : m ≤ 4096) (hb : n * 2 ^ (k + m) < 2 ^ 2098) (w : World) :
    Calls Try.prog 34 #[.float .f64 r, .int .i64 (-(m : Int))] w fun e w' => (∃ s, e = .returned (.float .f64 s) ∧ s < inf ∧ V s = n * 2 ^ k) ∧ w' = w := by
  have HB : Hid (n * 2 ^ (k + m) < 2 ^ 2098) := hb
  have HV : Hid (V r = n * 2 ^ (k + m)) := hV
  clear hb hV
  go_enter Try.func34, Try.ntmps34
  go_wp2
  refine wp_loop_rounds 1 ?_
  rw [rounds_succ]
  go_wp2
  go_loop [0, 1] (fun x e => ∃ t : Nat, t ≤ m ∧ e = .int .i64 (-(t : Int)) ∧ Scaled n (k + t) x) (fun _ e => (- intOf e).toNat)
  case atStart => exact ⟨m, by omega, rfl, r, hr, HV.out, rfl⟩
  case round =>
    obtain ⟨t, ht, rfl, q, hq, vq, rfl⟩ := hrel
    by_cases hlt : 0 < t
    · obtain ⟨u, hu⟩ : ∃ u, t = u + 1 := ⟨t - 1, by omega⟩
      subst hu
      obtain ⟨s, hs, vs, m1⟩ := halve_any n (k + u) q hq hn vq (Nat.lt_of_le_of_lt (scale_le n _ _ (by omega)) HB.out)
      have q1 := fun w => run_float_arith (P := Try.prog) w .quo 24 .f64 _ _ _ m1
      have VS : Hid (V s = n * 2 ^ (k + u)) := vs
      clear m1 vs vq
      go_wp2
      go_round
      case rel => exact ⟨u, by omega, by congr 1; omega, s, hs, VS.out, rfl⟩
      case measure => simp [intOf]; omega
    · have VQ : Hid (V q = n * 2 ^ k) := by show V q = _; rw [vq, show t = 0 from by omega, Nat.add_zero]
      clear vq
      go_wp2
      go_ret
      exact ⟨⟨q, rfl, hq, VQ.out⟩, rfl⟩

end Go.Proofs.Ytbhomfgponhemaa.Z
