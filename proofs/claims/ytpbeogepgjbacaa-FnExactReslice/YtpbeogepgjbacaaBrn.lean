/- Brightest: numbers. -/
import Derived.Test.YtpbeogepgjbacaaLst
import Derived.Test.YtpbeogepgjbacaaUpd
namespace Go.Proofs.Ytpbeogepgjbacaa
open Go.RowKit

/-- the greatest along a line of m numbers -/
def mxF (f : Nat → Int) (sl base : Nat) : Nat → Int
  | 0 => -4095
  | d + 1 => max (mxF f sl base d) (f (base + d * sl))
/-- the picture -/
def brF (f : Nat → Int) (L sl A sa sd : Nat) (q : Nat) : Int := mxF f sl (q / A * sd + q % A * sa) L
/-- the picture when k numbers are scattered -/
def scK (f : Nat → Int) (at' : Nat → Nat) : Nat → Nat → Int
  | 0, _ => -4095
  | k + 1, q => updN (scK f at' k) (at' k) (max (scK f at' k (at' k)) (f k)) q
/-- before: the first i are laid -/
def lowK (i q : Nat) : Int := if q < i then -4095 else 0
theorem lowK_step (i q : Nat) : updN (lowK i) i (-4095) q = lowK (i + 1) q := by
  unfold updN lowK
  by_cases h : q = i
  · subst h; rw [if_pos rfl, if_pos (by omega)]
  · rw [if_neg h]
    by_cases h2 : q < i
    · rw [if_pos h2, if_pos (by omega)]
    · rw [if_neg h2, if_neg (by omega)]
theorem mxF_le {f : Nat → Int} {sl base : Nat} {v : Int} : ∀ {m : Nat}, mxF f sl base m ≤ v ↔ (-4095 ≤ v ∧ ∀ d, d < m → f (base + d * sl) ≤ v)
  | 0 => ⟨fun h => ⟨h, fun d hd => absurd hd (Nat.not_lt_zero _)⟩, fun h => h.1⟩
  | m + 1 => by
    have ih := mxF_le (f := f) (sl := sl) (base := base) (v := v) (m := m)
    show max (mxF f sl base m) (f (base + m * sl)) ≤ v ↔ _
    rw [show (max (mxF f sl base m) (f (base + m * sl)) ≤ v) ↔ (mxF f sl base m ≤ v ∧ f (base + m * sl) ≤ v) from by omega, ih]
    constructor
    · rintro ⟨⟨h1, h2⟩, h3⟩
      refine ⟨h1, fun d hd => ?_⟩
      by_cases e : d = m
      · rw [e]; exact h3
      · exact h2 d (by omega)
    · rintro ⟨h1, h2⟩
      exact ⟨⟨h1, fun d hd => h2 d (by omega)⟩, h2 m (by omega)⟩
theorem scK_le {f : Nat → Int} {at' : Nat → Nat} {q : Nat} {v : Int} : ∀ {k : Nat}, scK f at' k q ≤ v ↔ (-4095 ≤ v ∧ ∀ j, j < k → at' j = q → f j ≤ v)
  | 0 => ⟨fun h => ⟨h, fun d hd => absurd hd (Nat.not_lt_zero _)⟩, fun h => h.1⟩
  | k + 1 => by
    have ih := scK_le (f := f) (at' := at') (q := q) (v := v) (k := k)
    show updN (scK f at' k) (at' k) (max (scK f at' k (at' k)) (f k)) q ≤ v ↔ _
    unfold updN
    by_cases e : q = at' k
    · rw [if_pos e]
      rw [← e, show (max (scK f at' k q) (f k) ≤ v) ↔ (scK f at' k q ≤ v ∧ f k ≤ v) from by omega, ih]
      constructor
      · rintro ⟨⟨h1, h2⟩, h3⟩
        refine ⟨h1, fun j hj hq => ?_⟩
        by_cases e2 : j = k
        · rw [e2]; exact h3
        · exact h2 j (by omega) hq
      · rintro ⟨h1, h2⟩
        exact ⟨⟨h1, fun j hj hq => h2 j (by omega) hq⟩, h2 k (by omega) e.symm⟩
    · rw [if_neg e, ih]
      constructor
      · rintro ⟨h1, h2⟩
        refine ⟨h1, fun j hj hq => ?_⟩
        by_cases e2 : j = k
        · rw [e2] at hq; exact absurd hq.symm e
        · exact h2 j (by omega) hq
      · rintro ⟨h1, h2⟩
        exact ⟨h1, fun j hj hq => h2 j (by omega) hq⟩
/-- both ways are one, where the places are -/
theorem br_eq {f : Nat → Int} {at' : Nat → Nat} {L sl A sa sd n q : Nat} (h1 : ∀ d, d < L → q / A * sd + q % A * sa + d * sl < n ∧ at' (q / A * sd + q % A * sa + d * sl) = q) (h2 : ∀ j, j < n → at' j = q → ∃ d, d < L ∧ j = q / A * sd + q % A * sa + d * sl) : scK f at' n q = brF f L sl A sa sd q := by
  have e : ∀ v, scK f at' n q ≤ v ↔ brF f L sl A sa sd q ≤ v := fun v => by
    unfold brF
    rw [scK_le, mxF_le]
    constructor
    · rintro ⟨a, b⟩
      exact ⟨a, fun d hd => b _ (h1 d hd).1 (h1 d hd).2⟩
    · rintro ⟨a, b⟩
      refine ⟨a, fun j hj hq => ?_⟩
      obtain ⟨d, hd, rfl⟩ := h2 j hj hq
      exact b d hd
  have a1 := (e (brF f L sl A sa sd q)).2 (Int.le_refl _)
  have a2 := (e (scK f at' n q)).1 (Int.le_refl _)
  omega
theorem dec3 {X Y x y : Nat} (z : Nat) (hx : x < X) (hy : y < Y) : ((z * Y + y) * X + x) % X = x ∧ ((z * Y + y) * X + x) / X = z * Y + y ∧ (z * Y + y) % Y = y ∧ (z * Y + y) / Y = z := by
  refine ⟨?_, ?_, ?_, ?_⟩
  · rw [Nat.add_comm, Nat.add_mul_mod_self_right, Nat.mod_eq_of_lt hx]
  · rw [Nat.add_comm, Nat.add_mul_div_right _ _ (by omega), Nat.div_eq_of_lt hx, Nat.zero_add]
  · rw [Nat.add_comm, Nat.add_mul_mod_self_right, Nat.mod_eq_of_lt hy]
  · rw [Nat.add_comm, Nat.add_mul_div_right _ _ (by omega), Nat.div_eq_of_lt hy, Nat.zero_add]
theorem rec3 (X Y j : Nat) : (j / X / Y * Y + j / X % Y) * X + j % X = j := by
  have h1 := Nat.div_add_mod (j / X) Y
  have h2 := Nat.div_add_mod j X
  rw [Nat.mul_comm Y] at h1
  rw [h1, Nat.mul_comm, h2]
theorem lt3 {X Y Z x y z : Nat} (hx : x < X) (hy : y < Y) (hz : z < Z) : (z * Y + y) * X + x < X * Y * Z := by
  have h1 : z * Y + y + 1 ≤ Y * Z := by
    have : (z + 1) * Y ≤ Z * Y := Nat.mul_le_mul_right _ hz
    rw [Nat.succ_mul] at this
    rw [Nat.mul_comm Y Z]; omega
  have h2 : (z * Y + y + 1) * X ≤ (Y * Z) * X := Nat.mul_le_mul_right _ h1
  rw [Nat.succ_mul] at h2
  have e : X * Y * Z = Y * Z * X := by rw [Nat.mul_assoc, Nat.mul_comm]
  omega
theorem z_lt {X Y Z j : Nat} (h : j < X * Y * Z) : j / X / Y < Z := by
  rw [Nat.div_div_eq_div_mul]
  exact Nat.div_lt_of_lt_mul h
/-- along the first axis -/
theorem br1 {X Y Z : Nat} (f : Nat → Int) (hX : 0 < X) (hY : 0 < Y) {q : Nat} (hq : q < Y * Z) : scK f (fun j => j / X / Y * Y + j / X % Y) (X * Y * Z) q = brF f X 1 Y X (X * Y) q := by
  have hy := Nat.mod_lt q hY
  have hz : q / Y < Z := Nat.div_lt_of_lt_mul hq
  have hq' := Nat.div_add_mod q Y
  rw [Nat.mul_comm] at hq'
  have e : ∀ d, q / Y * (X * Y) + q % Y * X + d * 1 = (q / Y * Y + q % Y) * X + d := fun d => by
    rw [Nat.add_mul, Nat.mul_one, Nat.mul_assoc, Nat.mul_comm X Y]
  refine br_eq (fun d hd => ?_) (fun j hj hjq => ?_)
  · rw [e]
    obtain ⟨a1, a2, a3, a4⟩ := dec3 (q / Y) hd hy
    refine ⟨lt3 hd hy hz, ?_⟩
    show ((q / Y * Y + q % Y) * X + d) / X / Y * Y + ((q / Y * Y + q % Y) * X + d) / X % Y = q
    rw [a2, a3, a4]
    exact hq'
  · refine ⟨j % X, Nat.mod_lt _ hX, ?_⟩
    rw [e]
    have h3 := rec3 X Y j
    have hjq' : j / X / Y * Y + j / X % Y = q := hjq
    rw [hjq'] at h3
    rw [hq', h3]
/-- along the second axis -/
theorem br2 {X Y Z : Nat} (f : Nat → Int) (hX : 0 < X) (hY : 0 < Y) {q : Nat} (hq : q < X * Z) : scK f (fun j => j / X / Y * X + j % X) (X * Y * Z) q = brF f Y X X 1 (X * Y) q := by
  have hx := Nat.mod_lt q hX
  have hz : q / X < Z := Nat.div_lt_of_lt_mul hq
  have hq' := Nat.div_add_mod q X
  rw [Nat.mul_comm] at hq'
  have e : ∀ d, q / X * (X * Y) + q % X * 1 + d * X = (q / X * Y + d) * X + q % X := fun d => by
    rw [Nat.add_mul, Nat.mul_one, Nat.mul_assoc, Nat.mul_comm X Y]; omega
  refine br_eq (fun d hd => ?_) (fun j hj hjq => ?_)
  · rw [e]
    obtain ⟨a1, a2, a3, a4⟩ := dec3 (q / X) hx hd
    refine ⟨lt3 hx hd hz, ?_⟩
    show ((q / X * Y + d) * X + q % X) / X / Y * X + ((q / X * Y + d) * X + q % X) % X = q
    rw [a2, a4, a1]
    exact hq'
  · replace hjq : j / X / Y * X + j % X = q := hjq
    have a1 : q / X = j / X / Y := by rw [← hjq, Nat.add_comm, Nat.add_mul_div_right _ _ hX, Nat.div_eq_of_lt (Nat.mod_lt _ hX), Nat.zero_add]
    have a2 : q % X = j % X := by rw [← hjq, Nat.add_comm, Nat.add_mul_mod_self_right, Nat.mod_mod]
    refine ⟨j / X % Y, Nat.mod_lt _ hY, ?_⟩
    rw [e, a1, a2, rec3]
/-- along the third axis -/
theorem br3 {X Y Z : Nat} (f : Nat → Int) (hX : 0 < X) {q : Nat} (hq : q < X * Y) : scK f (fun j => j / X % Y * X + j % X) (X * Y * Z) q = brF f Z (X * Y) X 1 X q := by
  have hx := Nat.mod_lt q hX
  have hy : q / X < Y := Nat.div_lt_of_lt_mul hq
  have hq' := Nat.div_add_mod q X
  rw [Nat.mul_comm] at hq'
  have e : ∀ d, q / X * X + q % X * 1 + d * (X * Y) = (d * Y + q / X) * X + q % X := fun d => by
    rw [Nat.add_mul, Nat.mul_one, Nat.mul_assoc, Nat.mul_comm Y X]; omega
  refine br_eq (fun d hd => ?_) (fun j hj hjq => ?_)
  · rw [e]
    obtain ⟨a1, a2, a3, a4⟩ := dec3 d hx hy
    refine ⟨lt3 hx hy hd, ?_⟩
    show ((d * Y + q / X) * X + q % X) / X % Y * X + ((d * Y + q / X) * X + q % X) % X = q
    rw [a2, a3, a1]
    exact hq'
  · replace hjq : j / X % Y * X + j % X = q := hjq
    have a1 : q / X = j / X % Y := by rw [← hjq, Nat.add_comm, Nat.add_mul_div_right _ _ hX, Nat.div_eq_of_lt (Nat.mod_lt _ hX), Nat.zero_add]
    have a2 : q % X = j % X := by rw [← hjq, Nat.add_comm, Nat.add_mul_mod_self_right, Nat.mod_mod]
    refine ⟨j / X / Y, z_lt hj, ?_⟩
    rw [e, a1, a2, rec3]

end Go.Proofs.Ytpbeogepgjbacaa
