/- Turns: numbers alone. -/
import Derived.Test.YtkgkdhocmglklaaDoorPic
namespace Go.Proofs.YtkgkdhocmglklaaDoor
open Go.RowKit

/-- four numbers as a list -/
def q4 (a b c d : Int) : Nat → Int
  | 0 => a
  | 1 => b
  | 2 => c
  | _ => d
/-- is a turn right -/
def tkB (a b c d : Int) : Bool := alW (q4 a b c d) (-2) 2 4 && decide (a * a + b * b + c * c + d * d = 4)

/-- parts of a product -/
def qW (a0 a1 a2 a3 b0 b1 b2 b3 : Int) : Int := a0 * b0 - a1 * b1 - a2 * b2 - a3 * b3
def qX (a0 a1 a2 a3 b0 b1 b2 b3 : Int) : Int := a0 * b1 + a1 * b0 + a2 * b3 - a3 * b2
def qY (a0 a1 a2 a3 b0 b1 b2 b3 : Int) : Int := a0 * b2 - a1 * b3 + a2 * b0 + a3 * b1
def qZ (a0 a1 a2 a3 b0 b1 b2 b3 : Int) : Int := a0 * b3 + a1 * b2 - a2 * b1 + a3 * b0

theorem mulB {a b A B : Int} (h1 : -A ≤ a) (h2 : a ≤ A) (h3 : -B ≤ b) (h4 : b ≤ B) : -(A * B) ≤ a * b ∧ a * b ≤ A * B := by
  have hA : 0 ≤ A := by omega
  have hB : 0 ≤ B := by omega
  have p1 := Int.mul_nonneg (show 0 ≤ A - a by omega) (show 0 ≤ B - b by omega)
  have p2 := Int.mul_nonneg (show 0 ≤ A + a by omega) (show 0 ≤ B + b by omega)
  have p3 := Int.mul_nonneg (show 0 ≤ A - a by omega) (show 0 ≤ B + b by omega)
  have p4 := Int.mul_nonneg (show 0 ≤ A + a by omega) (show 0 ≤ B - b by omega)
  simp only [Int.mul_add, Int.add_mul, Int.mul_sub, Int.sub_mul] at p1 p2 p3 p4
  omega

structure Sml (B : Int) (a b c d : Int) : Prop where
  w0 : -B ≤ a
  w1 : a ≤ B
  x0 : -B ≤ b
  x1 : b ≤ B
  y0 : -B ≤ c
  y1 : c ≤ B
  z0 : -B ≤ d
  z1 : d ≤ B

theorem tkB_sml {a b c d : Int} (h : tkB a b c d = true) : Sml 2 a b c d ∧ a * a + b * b + c * c + d * d = 4 := by
  unfold tkB at h
  rw [Bool.and_eq_true] at h
  have g : ∀ k, k < 4 → -2 ≤ q4 a b c d k ∧ q4 a b c d k ≤ 2 := fun k hk => by
    have := alW_at h.1 hk
    unfold inB at this
    simpa using this
  have g0 := g 0 (by omega)
  have g1 := g 1 (by omega)
  have g2 := g 2 (by omega)
  have g3 := g 3 (by omega)
  simp only [q4] at g0 g1 g2 g3
  exact ⟨⟨g0.1, g0.2, g1.1, g1.2, g2.1, g2.2, g3.1, g3.2⟩, of_decide_eq_true h.2⟩

theorem tkB_of {a b c d : Int} (h : Sml 2 a b c d) (h' : a * a + b * b + c * c + d * d = 4) : tkB a b c d = true := by
  obtain ⟨w0, w1, x0, x1, y0, y1, z0, z1⟩ := h
  unfold tkB
  simp [alW, q4, inB, h']
  omega

theorem tkB_back {a b c d : Int} : tkB a (-b) (-c) (-d) = tkB a b c d := by
  unfold tkB
  have e : a * a + -b * -b + -c * -c + -d * -d = a * a + b * b + c * c + d * d := by rw [Int.neg_mul_neg, Int.neg_mul_neg, Int.neg_mul_neg]
  rw [e]
  congr 1
  simp [alW, q4, inB]
  rw [Bool.eq_iff_iff]
  simp
  omega

/-- how often a number is v -/
def cn (v : Int) (f : Nat → Int) : Nat → Int
  | 0 => 0
  | n + 1 => cn v f n + (if f n = v then 1 else 0)
/-- the size of a number, as it is told -/
def ab (x : Int) : Int := if x < 0 then IntKind.i64.wrap (-x) else x

theorem ab_eq {x v : Int} (h0 : 0 ≤ v) (h1 : v ≤ 2) (hx : -9223372036854775808 ≤ x) (hx' : x ≤ 9223372036854775807) : ab x = v ↔ x = v ∨ x = -v := by
  unfold ab
  by_cases h : x < 0
  · rw [if_pos h]
    by_cases hm : x = -9223372036854775808
    · subst hm
      rw [IntKind.wrap_i64]
      omega
    · rw [show IntKind.i64.wrap (-x) = -x by rw [IntKind.wrap_i64]; omega]
      omega
  · rw [if_neg h]
    omega

/-- the counts tell the same -/
theorem tkB_counts {a b c d : Int} (ha : -9223372036854775808 ≤ a ∧ a ≤ 9223372036854775807) (hb : -9223372036854775808 ≤ b ∧ b ≤ 9223372036854775807) (hc : -9223372036854775808 ≤ c ∧ c ≤ 9223372036854775807) (hd : -9223372036854775808 ≤ d ∧ d ≤ 9223372036854775807) :
    tkB a b c d = (decide (cn 1 (q4 (ab a) (ab b) (ab c) (ab d)) 4 = 4) || (decide (cn 2 (q4 (ab a) (ab b) (ab c) (ab d)) 4 = 1) && decide (cn 0 (q4 (ab a) (ab b) (ab c) (ab d)) 4 = 3))) := by
  have key : ∀ x : Int, -9223372036854775808 ≤ x ∧ x ≤ 9223372036854775807 → (x = 0 ∧ ab x = 0 ∧ x * x = 0) ∨ ((x = 1 ∨ x = -1) ∧ ab x = 1 ∧ x * x = 1) ∨ ((x = 2 ∨ x = -2) ∧ ab x = 2 ∧ x * x = 4) ∨ (¬ (-2 ≤ x ∧ x ≤ 2) ∧ ab x ≠ 0 ∧ ab x ≠ 1 ∧ ab x ≠ 2) := fun x hx => by
    have e0 := ab_eq (x := x) (v := 0) (by omega) (by omega) hx.1 hx.2
    have e1 := ab_eq (x := x) (v := 1) (by omega) (by omega) hx.1 hx.2
    have e2 := ab_eq (x := x) (v := 2) (by omega) (by omega) hx.1 hx.2
    by_cases h0 : x = 0
    · subst h0; exact .inl ⟨rfl, e0.2 (.inl rfl), rfl⟩
    by_cases h1 : x = 1 ∨ x = -1
    · exact .inr (.inl ⟨h1, e1.2 h1, by rcases h1 with rfl | rfl <;> rfl⟩)
    by_cases h2 : x = 2 ∨ x = -2
    · exact .inr (.inr (.inl ⟨h2, e2.2 h2, by rcases h2 with rfl | rfl <;> rfl⟩))
    · exact .inr (.inr (.inr ⟨by omega, fun h => by have := e0.1 h; omega, fun h => by have := e1.1 h; omega, fun h => by have := e2.1 h; omega⟩))
  have kin : ∀ x : Int, ((-2 ≤ x ∧ x ≤ 2) → inB x (-2) 2 = true) ∧ (¬ (-2 ≤ x ∧ x ≤ 2) → inB x (-2) 2 = false) := fun x => by
    unfold inB; simp; try omega
  unfold tkB
  simp only [alW, q4, cn, Bool.true_and]
  rcases key a ha with ⟨r, p, q⟩ | ⟨r, p, q⟩ | ⟨r, p, q⟩ | ⟨r, p⟩ <;>
  rcases key b hb with ⟨r', p', q'⟩ | ⟨r', p', q'⟩ | ⟨r', p', q'⟩ | ⟨r', p'⟩ <;>
  rcases key c hc with ⟨r2, p2, q2⟩ | ⟨r2, p2, q2⟩ | ⟨r2, p2, q2⟩ | ⟨r2, p2⟩ <;>
  rcases key d hd with ⟨r3, p3, q3⟩ | ⟨r3, p3, q3⟩ | ⟨r3, p3, q3⟩ | ⟨r3, p3⟩ <;>
  first
  | (rw [(kin a).2 r]; simp [p, p', p2, p3]; done)
  | (rw [(kin b).2 r']; simp [p, p', p2, p3]; done)
  | (rw [(kin c).2 r2]; simp [p, p', p2, p3]; done)
  | (rw [(kin d).2 r3]; simp [p, p', p2, p3]; done)
  | (rw [(kin a).1 (by omega), (kin b).1 (by omega), (kin c).1 (by omega), (kin d).1 (by omega), q, q', q2, q3, p, p', p2, p3]; rfl)

end Go.Proofs.YtkgkdhocmglklaaDoor
