/- The order of all floats as the order of whole numbers: a key for every word. -/
import Derived.Test.YtbhomfgponhemaaZToBits2
namespace Go.Proofs.Ytbhomfgponhemaa.Z
open Ieee Go.RowKit Fl

/-- minus infinity, the numbers below 0, minus nought (-1), nought (0), the numbers above 0, infinity, NaN -/
def okey (b : Nat) : Int := if inf < rung b then 9221120237041090561 else if neg b then -1 - (rung b : Int) else (rung b : Int)
/-- the specification's five kinds -/
def rk (b : Nat) : Int := if inf < rung b then 4 else if neg b then (if rung b = 0 then 1 else 0) else (if rung b = 0 then 2 else 3)
def cmpI (x y : Int) : Int := if x < y then -1 else if y < x then 1 else 0

theorem okey_nan {b : Nat} (h : inf < rung b) : okey b = 9221120237041090561 := if_pos h
theorem okey_neg {b : Nat} (h : ¬ inf < rung b) (hn : neg b = true) : okey b = -1 - (rung b : Int) := by unfold okey; rw [if_neg h, if_pos hn]
theorem okey_pos {b : Nat} (h : ¬ inf < rung b) (hn : neg b = false) : okey b = (rung b : Int) := by unfold okey; rw [if_neg h, hn]; rfl

/-- words up to infinity, with no minus -/
theorem order_le (x y : Nat) (hx : x ≤ inf) (hy : y ≤ inf) : double.order x y = some (compare x y) := by
  by_cases h1 : x < inf
  · by_cases h2 : y < inf
    · exact order_small x y h1 h2
    · have e : y = inf := by omega
      subst e
      have b := fin_small h1
      unfold Format.order
      rw [read_inf inf (by decide), read_fin' x (by rw [b.1]; exact h1), Nat.compare_eq_lt.2 h1]
      rfl
  · have e : x = inf := by omega
    subst e
    by_cases h2 : y < inf
    · have := order_inf y h2
      rw [Nat.compare_eq_gt.2 h2]; exact this
    · have e : y = inf := by omega
      subst e
      rw [Nat.compare_eq_eq.2 rfl]; decide

theorem read_rung (x : Nat) (h : rung x ≤ inf) : double.read x = (if neg x then (double.read (rung x)).opposite else double.read (rung x)) := by
  have hl : rung x < 2 ^ 63 := Nat.mod_lt _ (by decide)
  have r1 := rung_small (rung x) hl
  have r2 := neg_small (rung x) hl
  by_cases h1 : rung x < inf
  · rw [read_fin' x h1, read_fin' (rung x) (by rw [r1]; exact h1), r1, r2]
    cases neg x <;> rfl
  · have h2 : rung x = inf := by omega
    rw [read_inf x h2, read_inf (rung x) (by rw [r1]; exact h2), r2]
    cases neg x <;> rfl

theorem order_opposite (d e : Datum) : d.opposite.order e.opposite = e.order d := by
  cases d with
  | nan s f => cases e <;> rfl
  | infinity s =>
    cases e with
    | nan t g => rfl
    | infinity t => cases s <;> cases t <;> rfl
    | number t n j => cases s <;> rfl
  | number s m i =>
    cases e with
    | nan t g => rfl
    | infinity t => cases t <;> rfl
    | number t n j =>
      simp only [Datum.opposite, Datum.order]
      rw [Int.min_comm j i]
      refine congrArg some ?_
      have key : ∀ (s : Bool) (m k : Nat), signed (!s) m k = - signed s m k := by
        intro s m k; cases s <;> simp [signed]
      rw [key, key]
      generalize signed s m (i - min i j).toNat = p
      generalize signed t n (j - min i j).toNat = q
      simp only [compare, compareOfLessAndEq]
      by_cases h1 : q < p
      · rw [if_pos (by omega), if_pos h1]
      · by_cases h2 : q = p
        · rw [if_neg (by omega), if_pos (by omega), if_neg h1, if_pos h2]
        · rw [if_neg (by omega), if_neg (by omega), if_neg h1, if_neg h2]

theorem order_key (a b : Nat) (ha : ¬ inf < rung a) (hb : ¬ inf < rung b) (h : neg a = neg b) :
    FloatKind.f64.format.order a b = some (compare (okey a) (okey b)) := by
  show (double.read a).order (double.read b) = _
  rw [read_rung a (by omega), read_rung b (by omega), h]
  cases hn : neg b with
  | false =>
    rw [hn] at h
    rw [okey_pos ha h, okey_pos hb hn]
    simp only [Bool.false_eq_true, if_false]
    rw [show (double.read (rung a)).order (double.read (rung b)) = some (compare (rung a) (rung b)) from order_le _ _ (by omega) (by omega)]
    simp only [compare, compareOfLessAndEq, Int.ofNat_lt, Int.ofNat_inj]
  | true =>
    rw [hn] at h
    rw [okey_neg ha h, okey_neg hb hn]
    simp only [if_true]
    rw [order_opposite, show (double.read (rung b)).order (double.read (rung a)) = some (compare (rung b) (rung a)) from order_le _ _ (by omega) (by omega)]
    refine congrArg some ?_
    simp only [compare, compareOfLessAndEq]
    by_cases h1 : rung b < rung a
    · rw [if_pos h1, if_pos (by omega)]
    · by_cases h2 : rung b = rung a
      · rw [if_neg h1, if_pos h2, if_neg (by omega), if_pos (by omega)]
      · rw [if_neg h1, if_neg h2, if_neg (by omega), if_neg (by omega)]

theorem cmp_tests (x y : Int) : ((some (compare x y) == some Ordering.lt) = decide (x < y)) ∧ ((some (compare x y) == some Ordering.gt) = decide (y < x)) := by
  simp only [compare, compareOfLessAndEq]
  by_cases h1 : x < y
  · rw [if_pos h1, decide_eq_true h1, decide_eq_false (by omega)]; exact ⟨rfl, rfl⟩
  · by_cases h2 : x = y
    · rw [if_neg h1, if_pos h2, decide_eq_false h1, decide_eq_false (by omega)]; exact ⟨rfl, rfl⟩
    · rw [if_neg h1, if_neg h2, decide_eq_false h1, decide_eq_true (by omega)]; exact ⟨rfl, rfl⟩

theorem rank_facts (a b : Nat) : (rk a < rk b → okey a < okey b) ∧ (rk b < rk a → okey b < okey a) ∧
    (rk a = rk b → (FloatKind.f64.format.order a b == some .lt) = decide (okey a < okey b) ∧ (FloatKind.f64.format.order a b == some .gt) = decide (okey b < okey a)) := by
  have ei : inf = 9218868437227405312 := by decide
  have key : (rk a < rk b → okey a < okey b) ∧ (rk b < rk a → okey b < okey a) := by
    unfold rk okey
    constructor <;> (intro h; repeat' split at h) <;> first | omega | skip
    all_goals (repeat' split) <;> omega
  refine ⟨key.1, key.2, fun h => ?_⟩
  by_cases ha : inf < rung a
  · have h4 : rk a = 4 := if_pos ha
    have hb : inf < rung b := by
      by_cases hb : inf < rung b
      · exact hb
      · exfalso
        rw [h4] at h
        unfold rk at h; rw [if_neg hb] at h
        repeat' split at h
        all_goals omega
    rw [okey_nan ha, okey_nan hb, order_nan a b ha]
    exact ⟨by simp, by simp⟩
  · by_cases hb : inf < rung b
    · exfalso
      rw [show rk b = 4 from if_pos hb] at h
      unfold rk at h; rw [if_neg ha] at h
      repeat' split at h
      all_goals omega
    · have hs : neg a = neg b := by
        unfold rk at h; rw [if_neg ha, if_neg hb] at h
        cases h1 : neg a <;> cases h2 : neg b <;> simp [h1, h2] at h ⊢
        all_goals (repeat' split at h) <;> omega
      rw [order_key a b ha hb hs]
      exact cmp_tests _ _

end Go.Proofs.Ytbhomfgponhemaa.Z
