/- The contract of the specification's ToBits: the word of a float itself; of every NaN one word. -/
import Derived.Test.YtbhomfgponhemaaZFl4
namespace Go.Proofs.Ytbhomfgponhemaa.Z
open Ieee Go.RowKit Fl
attribute [local go_sem] run_fneg

theorem minus_spec (b : Nat) (h : rung b ≤ inf) (w : World) :
    Calls Try.prog 32 #[.float .f64 b] w fun e w' => e = .returned (.bool (neg b)) ∧ w' = w := by
  by_cases h0 : rung b = 0
  · have hz := div_zero b h0
    have hq := fun w => run_float_arith (P := Try.prog) w .quo 24 .f64 _ _ _ hz
    have h1 := order_zero_zero b h0
    obtain ⟨m1, m2⟩ := neg_word_le (neg b) inf (Nat.le_refl _)
    cases hn : neg b with
    | false =>
      rw [hn] at m1 m2 hq
      have h2 := order_zero_pos _ m1 (by rw [m2]; exact Nat.le_refl _)
      generalize double.word false inf = x at *
      clear hz m1 m2
      go_enter Try.func32, Try.ntmps32
      go_wp2
      go_ret
      exact ⟨rfl, rfl⟩
    | true =>
      rw [hn] at m1 m2 hq
      have h2 := order_zero_neg _ m1 (by rw [m2]; decide) (by rw [m2]; exact Nat.le_refl _)
      generalize double.word true inf = x at *
      clear hz m1 m2
      go_enter Try.func32, Try.ntmps32
      go_wp2
      go_ret
      exact ⟨rfl, rfl⟩
  · have h3 : (FloatKind.f64.format.order b 0 == some .eq) = false := by
      cases hc : (FloatKind.f64.format.order b 0 == some .eq) with
      | false => rfl
      | true => exact absurd (rung_of_zero b (by simpa using hc)) h0
    cases hn : neg b with
    | false =>
      have h1 := order_zero_pos b hn h
      go_enter Try.func32, Try.ntmps32
      go_wp2
      go_ret
      exact ⟨rfl, rfl⟩
    | true =>
      have h1 := order_zero_neg b hn h0 h
      clear h3
      go_enter Try.func32, Try.ntmps32
      go_wp2
      go_ret
      exact ⟨rfl, rfl⟩

def bitsOf : Value → Nat
  | .float _ b => b
  | _ => 0

/-- the state of the first loop: halved t times -/
def Down (r0 : Nat) (a e : Value) : Prop :=
  ∃ r t : Nat, r < inf ∧ 0 < r ∧ V r0 = V r * 2 ^ t ∧ t ≤ 1023 ∧ (t = 0 ∨ 4607182418800017408 ≤ r) ∧ a = .float .f64 r ∧ e = .int .i64 t

/-- the state of the second loop: halved t times and not below 1, or doubled t times -/
def Up (r0 : Nat) (a e : Value) : Prop :=
  ∃ r t : Nat, r < 4611686018427387904 ∧ a = .float .f64 r ∧
    ((V r0 = V r * 2 ^ t ∧ t ≤ 1023 ∧ 4607182418800017408 ≤ r ∧ e = .int .i64 t) ∨ (V r = V r0 * 2 ^ t ∧ t ≤ 1022 ∧ e = .int .i64 (-(t : Int))))

end Go.Proofs.Ytbhomfgponhemaa.Z
