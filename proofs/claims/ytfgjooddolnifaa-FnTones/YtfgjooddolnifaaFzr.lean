/- A sum of squares has no minus; nought and such a number give the number. -/
import Derived.Test.YtfgjooddolnifaaBln
namespace Go.Proofs.Ytfgjooddolnifaa
open Ieee Go.RowKit

theorem nearest_pos (m : Nat) (p : Int) : double.nearest false m p < 2 ^ 63 := by
  unfold Format.nearest
  split
  · decide
  · dsimp only
    rw [Fl.infRung_eq, Fl.word_false]
    exact Nat.lt_of_le_of_lt (Nat.min_le_right _ _) Fl.inf_lt
theorem write_pos {d : Datum} {r : Nat} (h : double.write d = r) (hd : (∃ m p, d = .number false m p) ∨ d = .infinity false) : r < 2 ^ 63 := by
  rcases hd with ⟨m, p, rfl⟩ | rfl
  · rw [← h]; exact nearest_pos m p
  · rw [← h]; decide
theorem mul_self_pos {x r : Nat} (h : floatBits .mul .f64 x x = some r) : r < 2 ^ 63 := by
  have h' : double.mul x x = some r := h
  unfold Format.mul at h'
  cases hx : double.read x with
  | nan s q => rw [hx] at h'; simp [Datum.product] at h'
  | infinity s =>
    rw [hx] at h'
    simp only [Datum.product, Bool.xor_self, Option.map_some, Option.some.injEq] at h'
    exact write_pos h' (.inr rfl)
  | number s m i =>
    rw [hx] at h'
    simp only [Datum.product, Bool.xor_self, Option.map_some, Option.some.injEq] at h'
    exact write_pos h' (.inl ⟨_, _, rfl⟩)
theorem read_pos {x : Nat} (h : x < 2 ^ 63) : (∃ m i, double.read x = .number false m i) ∨ double.read x = .infinity false ∨ ∃ q, double.read x = .nan false q := by
  have hn := Fl.neg_small x h
  by_cases h1 : Fl.rung x < Fl.inf
  · exact .inl ⟨_, _, by rw [Fl.read_fin' x h1, hn]⟩
  · by_cases h2 : Fl.rung x = Fl.inf
    · exact .inr (.inl (by rw [Fl.read_inf x h2, hn]))
    · exact .inr (.inr ⟨_, by rw [Fl.read_nan x (by omega), hn]⟩)
theorem add_pos {x y r : Nat} (hx : x < 2 ^ 63) (hy : y < 2 ^ 63) (h : floatBits .add .f64 x y = some r) : r < 2 ^ 63 := by
  have h' : double.add x y = some r := h
  unfold Format.add at h'
  rcases read_pos hx with ⟨m, i, e⟩ | e | ⟨q, e⟩ <;> rcases read_pos hy with ⟨n, j, e'⟩ | e' | ⟨q', e'⟩ <;> rw [e, e'] at h'
  · simp only [Datum.sum, Option.map_some, Option.some.injEq] at h'
    have hs : ∀ m k : Nat, 0 ≤ signed false m k := fun m k => by
      unfold signed
      simp only [Bool.false_eq_true, if_false]
      exact Int.natCast_nonneg _
    have h1 := hs m (i - min i j).toNat
    have h2 := hs n (j - min i j).toNat
    generalize signed false m (i - min i j).toNat = A at *
    generalize signed false n (j - min i j).toNat = B at *
    have hg : (if A + B = 0 then false && false else decide (A + B < 0)) = false := by
      split
      · rfl
      · simp; omega
    rw [hg] at h'
    exact write_pos h' (.inl ⟨_, _, rfl⟩)
  all_goals first
    | (simp only [Datum.sum, Option.map_some, Option.some.injEq, if_true] at h'; exact write_pos h' (.inr rfl))
    | (simp [Datum.sum] at h')
theorem zero_add_float {z : Nat} (hz : z < 2 ^ 63) (hn : ¬ isNaN z) : floatBits .add .f64 0 z = some z := by
  show double.add 0 z = some z
  have e0 : double.read 0 = .number false 0 (-1074) := by decide
  have hs := Fl.neg_small z hz
  have hr := Fl.rung_small z hz
  unfold isNaN at hn
  unfold Format.add
  rw [e0]
  by_cases h1 : Fl.rung z < Fl.inf
  · rw [Fl.read_fin' z h1, hs]
    simp only [Datum.sum, Option.map_some, Option.some.injEq]
    have e1 : min (-1074 : Int) (-1074 + (Fl.sh (Fl.rung z) : Int)) = -1074 := by omega
    rw [e1]
    have e2 : (-1074 + (Fl.sh (Fl.rung z) : Int) - -1074).toNat = Fl.sh (Fl.rung z) := by omega
    rw [e2]
    unfold signed
    simp only [Bool.false_eq_true, if_false, Nat.zero_shiftLeft, Bool.and_self]
    have e3 : ((0 : Nat) : Int) + ((Fl.mag (Fl.rung z) <<< Fl.sh (Fl.rung z) : Nat) : Int) = ((Fl.V (Fl.rung z) : Nat) : Int) := by
      rw [Nat.shiftLeft_eq]; unfold Fl.V; omega
    rw [e3]
    have e4 : (if ((Fl.V (Fl.rung z) : Nat) : Int) = 0 then false else decide (((Fl.V (Fl.rung z) : Nat) : Int) < 0)) = false := by
      split
      · rfl
      · simp
    rw [e4, Int.natAbs_natCast]
    show double.nearest false (Fl.V (Fl.rung z)) (-1074) = z
    rw [Fl.nearest_exact false (Fl.V (Fl.rung z)) (-1074) (Fl.rung z) 0 0 h1 (by omega) rfl, Fl.word_false, hr]
  · have h2 : Fl.rung z = Fl.inf := by omega
    rw [Fl.read_inf z h2, hs]
    simp only [Datum.sum, Option.map_some, Option.some.injEq]
    rw [hr] at h2
    rw [h2]
    decide

theorem cop_mul_self (x : Nat) : cop .mul x x < 2 ^ 63 := by
  unfold cop
  cases h : floatBits .mul .f64 x x with
  | none => decide
  | some r => exact mul_self_pos h
theorem csz_pos (a b : Nat) : csz a b < 2 ^ 63 := by
  unfold csz
  generalize hp : cop .mul a a = p
  generalize hq : cop .mul b b = q
  have h1 : p < 2 ^ 63 := by rw [← hp]; exact cop_mul_self a
  have h2 : q < 2 ^ 63 := by rw [← hq]; exact cop_mul_self b
  unfold cop
  cases h : floatBits .add .f64 p q with
  | none => decide
  | some r => exact add_pos h1 h2 h
/-- nought and a size: the size -/
theorem zero_csz (a b : Nat) : same (cop .add 0 (csz a b)) (csz a b) := by
  by_cases hn : isNaN (csz a b)
  · refine .inr ⟨?_, hn⟩
    unfold cop
    rw [bits_nan_right .add aAdd _ _ hn]
    unfold isNaN
    decide
  · unfold cop
    rw [zero_add_float (csz_pos a b) hn]
    exact .inl rfl

end Go.Proofs.Ytfgjooddolnifaa
