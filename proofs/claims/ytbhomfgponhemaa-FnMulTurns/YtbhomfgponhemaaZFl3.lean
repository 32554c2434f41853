/- Plain arithmetic on the words of a 64 bit float, third part: words with a leading one, comparisons as truth values, signs. -/
import Derived.Test.YtbhomfgponhemaaZFl2
import Derived.Test.YtbhomfgponhemaaFsm
namespace Go.Proofs.Ytbhomfgponhemaa.Fl
open Ieee

theorem V_norm (E f : Nat) (hE : 1 ≤ E) (hf : f < 2 ^ 52) : V (E * 2 ^ 52 + f) = (2 ^ 52 + f) * 2 ^ (E - 1) := by
  have h1 : ¬ E * 2 ^ 52 + f < 2 ^ 52 := by omega
  have h2 : (E * 2 ^ 52 + f) % 2 ^ 52 = f := by omega
  have h3 : (E * 2 ^ 52 + f) / 2 ^ 52 = E := by omega
  unfold V mag sh
  rw [if_neg h1, if_neg h1, h2, h3]

theorem norm_lt {E f : Nat} (hE : E ≤ 2046) (hf : f < 2 ^ 52) : E * 2 ^ 52 + f < inf := by
  unfold inf
  have : E * 2 ^ 52 ≤ 2046 * 2 ^ 52 := Nat.mul_le_mul_right _ hE
  omega

theorem p2_norm (e : Nat) (h : 52 ≤ e) : p2 e = (e - 51) * 2 ^ 52 := by unfold p2; rw [if_neg (by omega)]

theorem order_ge (x y : Nat) (hx : x < inf) (hy : y < inf) : (FloatKind.f64.format.order x y == some .gt || FloatKind.f64.format.order x y == some .eq) = decide (y ≤ x) := by
  have h : FloatKind.f64.format.order x y = some (compare x y) := order_small x y hx hy
  rw [h]
  by_cases h1 : y < x
  · rw [Nat.compare_eq_gt.2 h1, decide_eq_true (by omega)]; rfl
  · by_cases h2 : x = y
    · rw [Nat.compare_eq_eq.2 h2, decide_eq_true (by omega)]; rfl
    · rw [Nat.compare_eq_lt.2 (by omega), decide_eq_false (by omega)]; rfl

theorem order_lt (x y : Nat) (hx : x < inf) (hy : y < inf) : (FloatKind.f64.format.order x y == some .lt) = decide (x < y) := by
  have h : FloatKind.f64.format.order x y = some (compare x y) := order_small x y hx hy
  rw [h]
  by_cases h1 : y < x
  · rw [Nat.compare_eq_gt.2 h1, decide_eq_false (by omega)]; rfl
  · by_cases h2 : x = y
    · rw [Nat.compare_eq_eq.2 h2, decide_eq_false (by omega)]; rfl
    · rw [Nat.compare_eq_lt.2 (by omega), decide_eq_true (by omega)]; rfl

theorem order_gt (x y : Nat) (hx : x < inf) (hy : y < inf) : (FloatKind.f64.format.order x y == some .gt) = decide (y < x) := by
  have h : FloatKind.f64.format.order x y = some (compare x y) := order_small x y hx hy
  rw [h]
  by_cases h1 : y < x
  · rw [Nat.compare_eq_gt.2 h1, decide_eq_true (by omega)]; rfl
  · by_cases h2 : x = y
    · rw [Nat.compare_eq_eq.2 h2, decide_eq_false (by omega)]; rfl
    · rw [Nat.compare_eq_lt.2 (by omega), decide_eq_false (by omega)]; rfl

/-- infinity against a finite word that is not negative -/
theorem order_inf (y : Nat) (hy : y < inf) : FloatKind.f64.format.order inf y = some .gt := by
  have b := fin_small hy
  show double.order inf y = some .gt
  unfold Format.order
  have r1 : rung inf = inf := by decide
  rw [read_inf inf r1, read_fin' y (by rw [b.1]; exact hy)]
  rfl

theorem order_zero_neg (x : Nat) (hn : neg x = true) (h0 : rung x ≠ 0) (h : rung x ≤ inf) : FloatKind.f64.format.order x 0 = some .lt := by
  show double.order x 0 = some .lt
  have e0 : double.read 0 = .number false 0 (-1074) := by decide
  unfold Format.order
  by_cases h1 : rung x < inf
  · rw [read_fin' x h1, e0, hn]
    unfold Datum.order signed
    simp only [Nat.zero_shiftLeft, Bool.false_eq_true, if_false, if_true]
    have hm : mag (rung x) ≠ 0 := by
      intro hm; apply h0; apply mag_zero; unfold V; rw [hm, Nat.zero_mul]
    have hp : 0 < mag (rung x) <<< (-1074 + (sh (rung x) : Int) - min (-1074 + (sh (rung x) : Int)) (-1074)).toNat := by
      rw [Nat.shiftLeft_eq]; exact Nat.mul_pos (by omega) (Nat.two_pow_pos _)
    refine congrArg some ?_
    rw [Int.compare_eq_lt]
    omega
  · rw [read_inf x (by omega), e0, hn]
    rfl

theorem order_zero_pos (x : Nat) (hn : neg x = false) (h : rung x ≤ inf) : (FloatKind.f64.format.order x 0 == some .lt) = false := by
  show (double.order x 0 == some .lt) = false
  have e0 : double.read 0 = .number false 0 (-1074) := by decide
  unfold Format.order
  by_cases h1 : rung x < inf
  · rw [read_fin' x h1, e0, hn]
    unfold Datum.order signed
    simp only [Nat.zero_shiftLeft, Bool.false_eq_true, if_false]
    generalize mag (rung x) <<< (-1074 + (sh (rung x) : Int) - min (-1074 + (sh (rung x) : Int)) (-1074)).toNat = t
    have : compare ((t : Nat) : Int) ((0 : Nat) : Int) ≠ .lt := by
      intro hc; rw [Int.compare_eq_lt] at hc; omega
    revert this
    cases compare ((t : Nat) : Int) ((0 : Nat) : Int) <;> simp
  · rw [read_inf x (by omega), e0, hn]
    rfl

/-- 1 by a word that is no NaN: a word with its sign -/
theorem div_one (x : Nat) (h : rung x ≤ inf) : ∃ r, r ≤ inf ∧ floatBits .quo .f64 4607182418800017408 x = some (double.word (neg x) r) := by
  show ∃ r, r ≤ inf ∧ double.div 4607182418800017408 x = _
  have e1 : double.read 4607182418800017408 = .number false (2 ^ 52) (-52) := by decide
  have near : ∀ (s : Bool) (m : Nat) (p : Int), ∃ r, r ≤ inf ∧ double.nearest s m p = double.word s r := by
    intro s m p
    unfold Format.nearest
    split
    · exact ⟨0, by decide, rfl⟩
    · exact ⟨_, Nat.min_le_right _ _, rfl⟩
  unfold Format.div
  by_cases h1 : rung x < inf
  · rw [e1, read_fin' x h1]
    unfold Datum.quotient
    by_cases hm : mag (rung x) = 0
    · rw [hm]
      simp only [if_true]
      exact ⟨inf, Nat.le_refl _, by simp [Format.write, infRung_eq]⟩
    · simp only [if_neg hm, Bool.false_bne]
      obtain ⟨r, hr, e⟩ := near (neg x) _ _
      exact ⟨r, hr, congrArg some e⟩
  · rw [e1, read_inf x (by omega)]
    exact ⟨0, by decide, by simp [Datum.quotient, Format.write, Format.nearest]⟩

theorem neg_word_le (s : Bool) (r : Nat) (h : r ≤ inf) : neg (double.word s r) = s ∧ rung (double.word s r) = r := by
  have := inf_lt
  exact ⟨neg_word s r (by omega), rung_word s r (by omega)⟩

end Go.Proofs.Ytbhomfgponhemaa.Fl
