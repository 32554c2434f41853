/- Two floats that are one value are told so by the law's own comparison. -/
import Derived.Test.YtbhomfgponhemaaFlw
import Derived.WalkLawsBesides
import Derived.WalkSpells
namespace Go.Proofs.Ytbhomfgponhemaa
open Ieee Go.RowKit

def same (a b : Nat) : Prop := a = b ∨ (isNaN a ∧ isNaN b)

theorem order_self (x : Nat) (h : ¬ isNaN x) : FloatKind.f64.format.order x x = some .eq := by
  show double.order x x = some .eq
  unfold isNaN at h
  by_cases h1 : Fl.rung x < Fl.inf
  · simp [Format.order, Fl.read_fin' x h1, Datum.order]
  · simp [Format.order, Fl.read_inf x (by omega), Datum.order]

theorem order_nan (x y : Nat) (h : isNaN x) : FloatKind.f64.format.order x y = none := order_nan_left x y h
theorem order_nan' (x y : Nat) (h : isNaN y) : FloatKind.f64.format.order x y = none := order_nan_right x y h

/-- what is equal to nought is a nought -/
theorem rung_of_zero (x : Nat) (h : FloatKind.f64.format.order x 0 = some .eq) : Fl.rung x = 0 := by
  have h' : double.order x 0 = some .eq := h
  by_cases h1 : Fl.rung x < Fl.inf
  · have r0 : Fl.rung 0 < Fl.inf := by decide
    have e0 : double.read 0 = .number false 0 (-1074) := by decide
    unfold Format.order at h'
    rw [Fl.read_fin' x h1, e0] at h'
    unfold Datum.order signed at h'
    simp only [Nat.zero_shiftLeft, Bool.false_eq_true, if_false, Option.some.injEq] at h'
    have h2 := Int.compare_eq_eq.1 h'
    have h3 : Fl.mag (Fl.rung x) <<< (-1074 + (Fl.sh (Fl.rung x) : Int) - min (-1074 + (Fl.sh (Fl.rung x) : Int)) (-1074)).toNat = 0 := by
      split at h2 <;> omega
    rw [Nat.shiftLeft_eq] at h3
    have h4 : Fl.mag (Fl.rung x) = 0 := by
      rcases Nat.mul_eq_zero.1 h3 with h | h
      · exact h
      · have := Nat.two_pow_pos (-1074 + (Fl.sh (Fl.rung x) : Int) - min (-1074 + (Fl.sh (Fl.rung x) : Int)) (-1074)).toNat; omega
    exact Fl.mag_zero (by unfold Fl.V; rw [h4, Nat.zero_mul])
  · exfalso
    by_cases h2 : Fl.rung x = Fl.inf
    · have e0 : double.read 0 = .number false 0 (-1074) := by decide
      unfold Format.order at h'
      rw [Fl.read_inf x h2, e0] at h'
      simp [Datum.order] at h'
      split at h' <;> simp at h'
    · rw [order_nan_left x 0 (by unfold isNaN; omega)] at h'; simp at h'

/-- 1 by a nought: an infinity with its sign -/
theorem div_zero (x : Nat) (h : Fl.rung x = 0) : floatBits .quo .f64 4607182418800017408 x = some (double.word (Fl.neg x) Fl.inf) := by
  show double.div 4607182418800017408 x = _
  have e1 : double.read 4607182418800017408 = .number false (2 ^ 52) (-52) := by decide
  have h1 : Fl.rung x < Fl.inf := by rw [h]; decide
  unfold Format.div
  rw [e1, Fl.read_fin' x h1, h]
  have e2 : Fl.mag 0 = 0 := by decide
  rw [e2]
  simp [Datum.quotient, Format.write, Fl.infRung_eq]

set_option maxHeartbeats 400000 in
theorem sameFloat_any (a b : Nat) (h : same a b) (w : World) :
    Calls Try.prog 24 #[.float .f64 a, .float .f64 b] w fun e w' => e = .returned (.bool true) ∧ w' = w := by
  by_cases ha : isNaN a
  · have hb : isNaN b := by
      rcases h with h | h
      · rw [← h]; exact ha
      · exact h.2
    have h1 : FloatKind.f64.format.order a a = none := order_nan a a ha
    have h2 : FloatKind.f64.format.order b b = none := order_nan b b hb
    clear h
    go_enter Try.func24, Try.ntmps24
    go_wp2
    go_ret
    exact ⟨rfl, rfl⟩
  · have hab : a = b := by
      rcases h with h | h
      · exact h
      · exact absurd h.1 ha
    subst hab
    have h1 : FloatKind.f64.format.order a a = some .eq := order_self a ha
    clear h
    by_cases hz : FloatKind.f64.format.order a 0 = some .eq
    · have hd := div_zero a (rung_of_zero a hz)
      have hq := fun t w => run_float_arith (P := Try.prog) w .quo t .f64 4607182418800017408 a _ hd
      clear hd
      generalize double.word (Fl.neg a) Fl.inf = r at hq
      go_enter Try.func24, Try.ntmps24
      go_wp2
      go_ret
      exact ⟨rfl, rfl⟩
    · have hz' : (FloatKind.f64.format.order a 0 == some .eq) = false := by simpa using hz
      go_enter Try.func24, Try.ntmps24
      go_wp2
      go_ret
      exact ⟨rfl, rfl⟩

end Go.Proofs.Ytbhomfgponhemaa
