/- Bends: numbers alone. -/
import Derived.Test.YtigiddkodpcpkaaPic
namespace Go.Proofs.Ytigiddkodpcpkaa
open Go.RowKit

/-- do the first n numbers rise strictly -/
def risB (f : Nat → Int) : Nat → Bool
  | 0 => true
  | n + 1 => risB f n && (decide (n = 0) || decide (f (n - 1) < f n))
theorem risB_false {f : Nat → Int} {n k : Nat} (hk : k + 1 < n) (h : ¬ f k < f (k + 1)) : risB f n = false := by
  induction n with
  | zero => omega
  | succ n ih =>
    unfold risB
    by_cases e : k + 1 = n
    · subst e
      have : decide (k + 1 = 0) = false := by simp
      rw [this]
      simp [h]
    · rw [ih (by omega)]; rfl
theorem risB_one {f : Nat → Int} : risB f 1 = true := rfl
theorem risB_step {f : Nat → Int} {k : Nat} (h : risB f (k + 1) = true) (h' : f k < f (k + 1)) : risB f (k + 2) = true := by
  rw [risB, h]; simp [h']
theorem risB_at {f : Nat → Int} : ∀ {n k : Nat}, risB f n = true → k + 1 < n → f k < f (k + 1)
  | n + 1, k, h, hk => by
    unfold risB at h
    rw [Bool.and_eq_true] at h
    by_cases e : k + 1 = n
    · subst e
      have := h.2
      simp at this
      exact this
    · exact risB_at h.1 (by omega)

/-- is it a bend -/
def bdB (n : Nat) (f : Nat → Int) : Bool := inB (n : Int) 2 64 && (alW f (-1000) 1000 n && risB f n)

structure Bend (n : Nat) (f : Nat → Int) : Prop where
  lo : 2 ≤ n
  hi : n ≤ 64
  at' : ∀ k, k < n → -1000 ≤ f k ∧ f k ≤ 1000
  up : ∀ k, k + 1 < n → f k < f (k + 1)

theorem inB_iff (x lo hi : Int) : inB x lo hi = true ↔ lo ≤ x ∧ x ≤ hi := by unfold inB; simp

theorem bdB_parts {n : Nat} {f : Nat → Int} (h : bdB n f = true) : Bend n f := by
  unfold bdB at h
  rw [Bool.and_eq_true, Bool.and_eq_true] at h
  obtain ⟨h1, h2, h3⟩ := h
  rw [inB_iff] at h1
  exact ⟨by omega, by omega, fun k hk => (inB_iff _ _ _).1 (alW_at h2 hk), fun k hk => risB_at h3 hk⟩

/-- where the place x goes -/
def bdA (f : Nat → Int) (x : Nat) : Int := 16 * f (x / 16) + ((x % 16 : Nat) : Int) * (f (x / 16 + 1) - f (x / 16))

theorem bdA_at (f : Nat → Int) (i r : Nat) (hr : r < 16) : bdA f (16 * i + r) = 16 * f i + (r : Int) * (f (i + 1) - f i) := by
  unfold bdA
  rw [show (16 * i + r) / 16 = i by omega, show (16 * i + r) % 16 = r by omega]
theorem bdA_mul (f : Nat → Int) (i : Nat) : bdA f (16 * i) = 16 * f i := by
  have := bdA_at f i 0 (by omega)
  simpa using this
theorem bdA_end (f : Nat → Int) (i r : Nat) (hr : r ≤ 16) : bdA f (16 * i + r) = 16 * f i + (r : Int) * (f (i + 1) - f i) := by
  by_cases h : r < 16
  · exact bdA_at f i r h
  · obtain rfl : r = 16 := by omega
    rw [show 16 * i + 16 = 16 * (i + 1) by omega, bdA_mul]
    omega

theorem bdA_step {n : Nat} {f : Nat → Int} (H : Bend n f) {x : Nat} (hx : x < 16 * (n - 1)) : bdA f x < bdA f (x + 1) := by
  obtain ⟨i, r, rfl, hr⟩ : ∃ i r, x = 16 * i + r ∧ r < 16 := ⟨x / 16, x % 16, by omega, by omega⟩
  have hi : i + 1 < n := by omega
  have hu := H.up i hi
  rw [bdA_at f i r hr, Nat.add_assoc, bdA_end f i (r + 1) (by omega)]
  rw [show ((r + 1 : Nat) : Int) = (r : Int) + 1 by omega, Int.add_mul]
  omega

theorem bdA_lt {n : Nat} {f : Nat → Int} (H : Bend n f) {x : Nat} : ∀ d, x + d + 1 ≤ 16 * (n - 1) → bdA f x < bdA f (x + d + 1)
  | 0, h => bdA_step H (by omega)
  | d + 1, h => Int.lt_trans (bdA_lt H d (by omega)) (bdA_step H (by omega))
theorem bdA_mono {n : Nat} {f : Nat → Int} (H : Bend n f) {x y : Nat} (hxy : x < y) (h : y ≤ 16 * (n - 1)) : bdA f x < bdA f y := by
  have := bdA_lt H (x := x) (y - x - 1) (by omega)
  rwa [show x + (y - x - 1) + 1 = y by omega] at this

theorem bdA_bound {n : Nat} {f : Nat → Int} (H : Bend n f) {x : Nat} (h : x ≤ 16 * (n - 1)) : -16000 ≤ bdA f x ∧ bdA f x ≤ 16000 := by
  have h2 := H.lo
  have a0 := H.at' 0 (by omega)
  have a1 := H.at' (n - 1) (by omega)
  have e0 : bdA f 0 = 16 * f 0 := bdA_mul f 0
  have e1 := bdA_mul f (n - 1)
  constructor
  · by_cases h0 : x = 0
    · subst h0; omega
    · have := bdA_mono H (x := 0) (y := x) (by omega) h
      omega
  · by_cases h0 : x = 16 * (n - 1)
    · subst h0; omega
    · have := bdA_mono H (x := x) (y := 16 * (n - 1)) (by omega) (by omega)
      omega

/-- the greatest place to m that goes no further than y -/
def bdK (f : Nat → Int) (y : Int) : Nat → Nat
  | 0 => 0
  | m + 1 => if bdA f (m + 1) ≤ y then m + 1 else bdK f y m

theorem bdK_is {n : Nat} {f : Nat → Int} (H : Bend n f) {y : Int} {x : Nat} (h1 : bdA f x ≤ y) : ∀ m, x ≤ m → m ≤ 16 * (n - 1) → (x = m ∨ y < bdA f (x + 1)) → bdK f y m = x
  | 0, hm, _, _ => by unfold bdK; omega
  | m + 1, hm, hn, h2 => by
    unfold bdK
    by_cases e : x = m + 1
    · subst e; rw [if_pos h1]
    · have h3 : y < bdA f (x + 1) := by
        rcases h2 with h2 | h2
        · exact absurd h2 e
        · exact h2
      have h4 : ¬ bdA f (m + 1) ≤ y := by
        by_cases e' : x + 1 = m + 1
        · rw [← e']; omega
        · have := bdA_mono H (x := x + 1) (y := m + 1) (by omega) hn
          omega
      rw [if_neg h4]
      exact bdK_is H h1 m (by omega) (by omega) (.inr h3)

/-- where x goes, and whether it does -/
def bdAI (n : Nat) (f : Nat → Int) (x : Int) : Int := if bdB n f = true ∧ 0 ≤ x ∧ x ≤ 16 * ((n : Int) - 1) then bdA f x.toNat else 0
def bdAF (n : Nat) (f : Nat → Int) (x : Int) : Bool := decide (bdB n f = true ∧ 0 ≤ x ∧ x ≤ 16 * ((n : Int) - 1))
/-- the way back, and whether there is one -/
def bdKI (n : Nat) (f : Nat → Int) (y : Int) : Int := if bdB n f = true ∧ 16 * f 0 ≤ y ∧ y ≤ 16 * f (n - 1) then (bdK f y (16 * (n - 1)) : Nat) else 0
def bdKF (n : Nat) (f : Nat → Int) (y : Int) : Bool := decide (bdB n f = true ∧ 16 * f 0 ≤ y ∧ y ≤ 16 * f (n - 1))

/-- the place that the program finds -/
theorem bdK_prog {n : Nat} {f : Nat → Int} (H : Bend n f) {y : Int} {i : Nat} (hi : i < n) (h1 : 16 * f i ≤ y) (h2 : i + 1 = n ∨ (i + 1 < n ∧ y < 16 * f (i + 1))) (hy : y ≤ 16 * f (n - 1)) :
    (0 < y - 16 * f i → i + 1 < n ∧ (bdK f y (16 * (n - 1)) : Int) = 16 * (i : Int) + (y - 16 * f i) / (f (i + 1) - f i) ∧ 0 ≤ (y - 16 * f i) / (f (i + 1) - f i) ∧ (y - 16 * f i) / (f (i + 1) - f i) < 16) ∧
      (¬ 0 < y - 16 * f i → (bdK f y (16 * (n - 1)) : Int) = 16 * (i : Int)) := by
  constructor
  · intro h0
    have hlt : i + 1 < n := by
      rcases h2 with h2 | h2
      · exfalso
        rw [show n - 1 = i by omega] at hy
        omega
      · exact h2.1
    have hy2 : y < 16 * f (i + 1) := by
      rcases h2 with h2 | h2
      · omega
      · exact h2.2
    have hu := H.up i hlt
    generalize hd : f (i + 1) - f i = d at *
    generalize hl : y - 16 * f i = l at *
    have hd0 : 0 < d := by omega
    have q0 : 0 ≤ l / d := Int.ediv_nonneg (by omega) (by omega)
    have q1 : l / d < 16 := Int.ediv_lt_of_lt_mul hd0 (by omega)
    refine ⟨hlt, ?_, q0, q1⟩
    obtain ⟨q, hq⟩ : ∃ q : Nat, l / d = q := ⟨(l / d).toNat, by omega⟩
    have m1 : (q : Int) * d ≤ l := by rw [← hq]; exact Int.ediv_mul_le l (by omega)
    have m2 : l < ((q : Int) + 1) * d := by rw [← hq]; exact Int.lt_ediv_add_one_mul_self l hd0
    rw [hq] at q1 ⊢
    have := bdK_is H (y := y) (x := 16 * i + q) (by rw [bdA_end f i q (by omega), hd]; omega) (16 * (n - 1)) (by omega) (by omega) (.inr (by
      rw [Nat.add_assoc, bdA_end f i (q + 1) (by omega), hd, show ((q + 1 : Nat) : Int) = (q : Int) + 1 by omega]; omega))
    rw [this]
    omega
  · intro h0
    have hyi : y = 16 * f i := by omega
    have := bdK_is H (y := y) (x := 16 * i) (by rw [bdA_mul]; omega) (16 * (n - 1)) (by omega) (by omega) (by
      rcases h2 with h2 | h2
      · exact .inl (by omega)
      · have hs := bdA_step H (x := 16 * i) (by omega)
        rw [bdA_mul] at hs
        exact .inr (by omega))
    rw [this]
    omega

end Go.Proofs.Ytigiddkodpcpkaa
