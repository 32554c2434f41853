/- Thresholds: the numbers. -/
import Derived.Test.YtionmmmmmjjciaaHom
namespace Go.Proofs.Ytionmmmmmjjciaa
open Go.RowKit

/-- how many, and the sum of their tones, below k -/
def sm (f : Nat → Int) : Nat → Int
  | 0 => 0
  | k + 1 => sm f k + f k
def sto (f : Nat → Int) : Nat → Int
  | 0 => 0
  | k + 1 => sto f k + (k : Int) * f k

theorem sm_mono {f : Nat → Int} {n : Nat} (h : ∀ k, k < n → 0 ≤ f k) : ∀ {a b : Nat}, a ≤ b → b ≤ n → 0 ≤ sm f a ∧ sm f a ≤ sm f b := by
  intro a b hab hb
  induction b with
  | zero => obtain rfl : a = 0 := by omega
            exact ⟨Int.le_refl _, Int.le_refl _⟩
  | succ b ih =>
    by_cases e : a = b + 1
    · subst e
      refine ⟨?_, Int.le_refl _⟩
      have : ∀ m, m ≤ n → 0 ≤ sm f m := by
        intro m
        induction m with
        | zero => intro _; exact Int.le_refl _
        | succ m ih2 => intro hm; have := ih2 (by omega); have := h m (by omega); simp only [sm]; omega
      exact this _ hb
    · have := ih (by omega) (by omega)
      have := h b (by omega)
      simp only [sm]
      omega

theorem sm_le {f : Nat → Int} {n : Nat} (h : ∀ k, k < n → 0 ≤ f k ∧ f k ≤ 4096) : ∀ k, k ≤ n → 0 ≤ sm f k ∧ sm f k ≤ 4096 * k
  | 0, _ => by simp [sm]
  | k + 1, hk => by
    have := sm_le h k (by omega)
    have := h k (by omega)
    simp only [sm]
    omega
theorem sto_le {f : Nat → Int} {n : Nat} (h : ∀ k, k < n → 0 ≤ f k ∧ f k ≤ 4096) (hn : n ≤ 256) : ∀ k, k ≤ n → 0 ≤ sto f k ∧ sto f k ≤ 1048576 * k
  | 0, _ => by simp [sto]
  | k + 1, hk => by
    have := sto_le h hn k (by omega)
    have h1 := h k (by omega)
    have h2 : 0 ≤ (k : Int) * f k := Int.mul_nonneg (by omega) h1.1
    have h3 : (k : Int) * f k ≤ 256 * 4096 := Int.mul_le_mul (by omega) h1.2 h1.1 (by omega)
    simp only [sto]
    omega
theorem tone_le {f : Nat → Int} {k : Nat} (h : 0 ≤ f k ∧ f k ≤ 4096) (hk : k < 256) : 0 ≤ (k : Int) * f k ∧ (k : Int) * f k ≤ 1048576 := by
  have h2 : 0 ≤ (k : Int) * f k := Int.mul_nonneg (by omega) h.1
  have h3 : (k : Int) * f k ≤ 256 * 4096 := Int.mul_le_mul (by omega) h.2 h.1 (by omega)
  omega
/-- the tones of a stretch are at most 255 times as many -/
theorem sto_sm {f : Nat → Int} {n : Nat} (h : ∀ k, k < n → 0 ≤ f k) (hn : n ≤ 256) : ∀ {a b : Nat}, a ≤ b → b ≤ n → 0 ≤ sto f b - sto f a ∧ sto f b - sto f a ≤ 255 * (sm f b - sm f a) := by
  intro a b hab hb
  induction b with
  | zero => obtain rfl : a = 0 := by omega
            simp
  | succ b ih =>
    by_cases e : a = b + 1
    · subst e; simp
    · have := ih (by omega) (by omega)
      have h1 := h b (by omega)
      have h2 : 0 ≤ (b : Int) * f b := Int.mul_nonneg (by omega) h1
      have h3 : (b : Int) * f b ≤ 255 * f b := Int.mul_le_mul_of_nonneg_right (by omega) h1
      simp only [sm, sto]
      omega

/-- a histogram -/
def hisB (n : Nat) (f : Nat → Int) : Bool := decide (n = 256) && (alW f 0 4096 256 && decide (sm f 256 ≤ 4096))
structure His (f : Nat → Int) : Prop where
  at' : ∀ k, k < 256 → 0 ≤ f k ∧ f k ≤ 4096
  all : sm f 256 ≤ 4096
theorem hisB_parts {n : Nat} {f : Nat → Int} (h : hisB n f = true) : n = 256 ∧ His f := by
  unfold hisB at h
  simp only [Bool.and_eq_true, decide_eq_true_eq] at h
  refine ⟨h.1, fun k hk => ?_, h.2.2⟩
  have := alW_at h.2.1 hk
  unfold inB at this
  simp at this
  omega

/-- what a threshold parts: both counts, the numerator's root -/
def nlo (f : Nat → Int) (t : Nat) : Int := sm f (t + 1)
def nhi (f : Nat → Int) (t : Nat) : Int := sm f 256 - sm f (t + 1)
def slo (f : Nat → Int) (t : Nat) : Int := sto f (t + 1)
def shi (f : Nat → Int) (t : Nat) : Int := sto f 256 - sto f (t + 1)
def apt (f : Nat → Int) (t : Nat) : Int := slo f t * nhi f t - shi f t * nlo f t
def tpw (f : Nat → Int) (t : Nat) : Int := apt f t * apt f t
def lwt (f : Nat → Int) (t : Nat) : Int := nlo f t * nhi f t
def goodT (f : Nat → Int) (t : Nat) : Prop := nlo f t ≠ 0 ∧ nhi f t ≠ 0
instance (f : Nat → Int) (t : Nat) : Decidable (goodT f t) := inferInstanceAs (Decidable (_ ∧ _))

theorem His.bounds {f : Nat → Int} (h : His f) {t : Nat} (ht : t < 255) :
    (0 ≤ nlo f t ∧ nlo f t ≤ 4096) ∧ (0 ≤ nhi f t ∧ nhi f t ≤ 4096) ∧ (0 ≤ slo f t ∧ slo f t ≤ 255 * nlo f t) ∧ (0 ≤ shi f t ∧ shi f t ≤ 255 * nhi f t) ∧ nlo f t + nhi f t ≤ 4096 := by
  have h0 : ∀ k, k < 256 → 0 ≤ f k := fun k hk => (h.at' k hk).1
  have h1 := sm_mono h0 (a := t + 1) (b := 256) (by omega) (by omega)
  have h2 := sto_sm h0 (by omega) (a := 0) (b := t + 1) (by omega) (by omega)
  have h3 := sto_sm h0 (by omega) (a := t + 1) (b := 256) (by omega) (by omega)
  have h4 := h.all
  have e1 : sto f 0 = 0 := rfl
  have e2 : sm f 0 = 0 := rfl
  rw [e1, e2] at h2
  unfold nlo nhi slo shi
  generalize sm f 256 = A at *
  generalize sto f 256 = B at *
  generalize sm f (t + 1) = C at *
  generalize sto f (t + 1) = D at *
  omega

theorem mul_bound {a b A B : Int} (ha : 0 ≤ a) (ha' : a ≤ A) (hb : 0 ≤ b) (hb' : b ≤ B) : 0 ≤ a * b ∧ a * b ≤ A * B :=
  ⟨Int.mul_nonneg ha hb, Int.mul_le_mul ha' hb' hb (by omega)⟩
theorem sq_bound {a A : Int} (h : -A ≤ a ∧ a ≤ A) : 0 ≤ a * a ∧ a * a ≤ A * A := by
  have : a * a = (a.natAbs : Int) * (a.natAbs : Int) := by rw [← Int.natCast_mul, Int.natAbs_mul_self]
  rw [this]
  exact mul_bound (by omega) (by omega) (by omega) (by omega)

theorem lwt_le {x y : Int} (hx : 0 ≤ x) (hy : 0 ≤ y) (h : x + y ≤ 4096) : 0 ≤ x * y ∧ x * y ≤ 4194304 := by
  refine ⟨Int.mul_nonneg hx hy, ?_⟩
  have h1 := (sq_bound (a := x + y) (A := 4096) (by omega)).2
  have h2 : 0 ≤ (x - y) * (x - y) := (sq_bound (a := x - y) (A := 4096) (by omega)).1
  have e1 : (x + y) * (x + y) = x * x + 2 * (x * y) + y * y := by rw [Int.add_mul, Int.mul_add, Int.mul_add, Int.mul_comm y x]; omega
  have e2 : (x - y) * (x - y) = x * x - 2 * (x * y) + y * y := by rw [Int.sub_mul, Int.mul_sub, Int.mul_sub, Int.mul_comm y x]; omega
  rw [e1] at h1
  rw [e2] at h2
  generalize x * x = P at *
  generalize x * y = Q at *
  generalize y * y = R at *
  omega

theorem His.more {f : Nat → Int} (h : His f) {t : Nat} (ht : t < 255) :
    (0 ≤ slo f t * nhi f t ∧ slo f t * nhi f t ≤ 1069547520) ∧ (0 ≤ shi f t * nlo f t ∧ shi f t * nlo f t ≤ 1069547520) ∧ (-1069547520 ≤ apt f t ∧ apt f t ≤ 1069547520) ∧ (0 ≤ tpw f t ∧ tpw f t ≤ 1143931897538150400) ∧ (0 ≤ lwt f t ∧ lwt f t ≤ 4194304) := by
  obtain ⟨⟨a1, a2⟩, ⟨b1, b2⟩, ⟨c1, c2⟩, ⟨d1, d2⟩, e⟩ := h.bounds ht
  obtain ⟨l1, l2⟩ := lwt_le a1 b1 e
  have m1 : 0 ≤ slo f t * nhi f t := Int.mul_nonneg c1 b1
  have m2 : slo f t * nhi f t ≤ 255 * nlo f t * nhi f t := Int.mul_le_mul_of_nonneg_right c2 b1
  have m3 : 0 ≤ shi f t * nlo f t := Int.mul_nonneg d1 a1
  have m4 : shi f t * nlo f t ≤ 255 * nhi f t * nlo f t := Int.mul_le_mul_of_nonneg_right d2 a1
  rw [Int.mul_assoc] at m2 m4
  rw [Int.mul_comm (nhi f t) (nlo f t)] at m4
  have ha : -1069547520 ≤ apt f t ∧ apt f t ≤ 1069547520 := by unfold apt; omega
  have hs := sq_bound ha
  refine ⟨by omega, by omega, ha, ?_, ?_⟩
  · unfold tpw; omega
  · unfold lwt; omega
theorem lwt_pos {f : Nat → Int} (h : His f) {t : Nat} (ht : t < 255) (hg : goodT f t) : 0 < lwt f t := by
  obtain ⟨⟨a1, a2⟩, ⟨b1, b2⟩, _⟩ := h.bounds ht
  obtain ⟨g1, g2⟩ := hg
  exact Int.mul_pos (by omega) (by omega)

/-- the best of the first k thresholds: below 0 none -/
structure Bst where
  best : Int
  top : Int
  low : Int
def aboF (a b c d : Int) : Prop := c * b < a * d
instance (a b c d : Int) : Decidable (aboF a b c d) := inferInstanceAs (Decidable (_ < _))
def thr (f : Nat → Int) : Nat → Bst
  | 0 => ⟨-1, 0, 1⟩
  | t + 1 => if goodT f t ∧ ((thr f t).best < 0 ∨ aboF (tpw f t) (lwt f t) (thr f t).top (thr f t).low) then ⟨t, tpw f t, lwt f t⟩ else thr f t
theorem thr_ok {f : Nat → Int} (h : His f) : ∀ k, k ≤ 255 → (-1 ≤ (thr f k).best ∧ (thr f k).best < k ∨ (thr f k).best = -1) ∧ (0 ≤ (thr f k).top ∧ (thr f k).top ≤ 1143931897538150400) ∧ (0 < (thr f k).low ∧ (thr f k).low ≤ 4194304)
  | 0, _ => by simp [thr]
  | t + 1, ht => by
    have ih := thr_ok h t (by omega)
    unfold thr
    split
    · rename_i hg
      obtain ⟨_, _, _, h4, h5⟩ := h.more (t := t) (by omega)
      have := lwt_pos h (t := t) (by omega) hg.1
      refine ⟨.inl ⟨?_, ?_⟩, h4, this, h5.2⟩
      · show -1 ≤ (t : Int); omega
      · show (t : Int) < ((t + 1 : Nat) : Int); omega
    · refine ⟨?_, ih.2⟩
      rcases ih.1 with ⟨a, b⟩ | a
      · exact .inl ⟨a, by omega⟩
      · exact .inr a
theorem thr_skip {f : Nat → Int} {t : Nat} (h : ¬ goodT f t) : thr f (t + 1) = thr f t := by
  rw [thr, if_neg (fun e => h e.1)]
theorem thr_keep {f : Nat → Int} {t : Nat} (h1 : ¬ (thr f t).best < 0) (h2 : ¬ aboF (tpw f t) (lwt f t) (thr f t).top (thr f t).low) : thr f (t + 1) = thr f t := by
  rw [thr, if_neg (fun e => e.2.elim h1 h2)]
theorem thr_take {f : Nat → Int} {t : Nat} (hg : goodT f t) (h : (thr f t).best < 0 ∨ aboF (tpw f t) (lwt f t) (thr f t).top (thr f t).low) : thr f (t + 1) = ⟨t, tpw f t, lwt f t⟩ := by
  rw [thr, if_pos ⟨hg, h⟩]

/-- one step of the comparison of two fractions -/
theorem abo_step {a b c d : Int} (h : a / b = c / d) : aboF a b c d ↔ aboF d (c % d) b (a % b) := by
  unfold aboF
  have ea := Int.mul_ediv_add_emod a b
  have ec := Int.mul_ediv_add_emod c d
  obtain ⟨q, hq⟩ : ∃ q, q = a / b := ⟨_, rfl⟩
  rw [← h, ← hq] at ec
  rw [← hq] at ea
  generalize a % b = a' at *
  generalize c % d = c' at *
  subst ea ec
  have e1 : (d * q + c') * b = d * q * b + c' * b := Int.add_mul _ _ _
  have e2 : (b * q + a') * d = b * q * d + a' * d := Int.add_mul _ _ _
  have e3 : d * q * b = b * q * d := by rw [Int.mul_comm (d * q) b, Int.mul_comm d q, ← Int.mul_assoc]
  rw [e1, e2, e3, Int.mul_comm c' b, Int.mul_comm a' d]
  constructor <;> intro h <;> omega
theorem abo_gt {a b c d : Int} (hb : 0 < b) (hd : 0 < d) (h : c / d < a / b) : aboF a b c d := by
  unfold aboF
  have ea := Int.mul_ediv_add_emod a b
  have ec := Int.mul_ediv_add_emod c d
  have h1 := Int.emod_nonneg a (Int.ne_of_gt hb)
  have h2 := Int.emod_lt_of_pos c hd
  generalize a % b = a' at *
  generalize c % d = c' at *
  generalize a / b = p at *
  generalize c / d = q at *
  have hc : c < d * (q + 1) := by rw [Int.mul_add]; omega
  have hc2 : c < d * p := Int.lt_of_lt_of_le hc (Int.mul_le_mul_of_nonneg_left (by omega) (by omega))
  have hc3 : c * b < d * p * b := Int.mul_lt_mul_of_pos_right hc2 hb
  have ha : b * p ≤ a := by omega
  have ha2 : b * p * d ≤ a * d := Int.mul_le_mul_of_nonneg_right ha (by omega)
  have e3 : d * p * b = b * p * d := by rw [Int.mul_comm (d * p) b, Int.mul_comm d p, ← Int.mul_assoc]
  omega
theorem abo_lt {a b c d : Int} (hb : 0 < b) (hd : 0 < d) (h : a / b < c / d) : ¬ aboF a b c d := by
  have := abo_gt hd hb h
  unfold aboF at this ⊢
  omega

end Go.Proofs.Ytionmmmmmjjciaa
