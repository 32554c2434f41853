/- The threshold is the best one. -/
import Derived.Test.YtionmmmmmjjciaaThi
namespace Go.Proofs.Ytionmmmmmjjciaa

theorem abo_irr (a b : Int) : ¬ aboF a b a b := by unfold aboF; omega
theorem abo_trans {x p y q z r : Int} (hp : 0 < p) (hq : 0 < q) (hr : 0 < r) (h1 : ¬ aboF x p y q) (h2 : aboF z r y q) : aboF z r x p := by
  unfold aboF at *
  have h1' : x * q ≤ y * p := by omega
  have e1 := Int.mul_le_mul_of_nonneg_right h1' (Int.le_of_lt hr)
  have e2 := Int.mul_lt_mul_of_pos_right h2 hp
  have e3 : x * r * q = x * q * r := by rw [Int.mul_assoc, Int.mul_comm r q, ← Int.mul_assoc]
  have e4 : y * p * r = y * r * p := by rw [Int.mul_assoc, Int.mul_comm p r, ← Int.mul_assoc]
  have e5 : z * p * q = z * q * p := by rw [Int.mul_assoc, Int.mul_comm p q, ← Int.mul_assoc]
  exact Int.lt_of_mul_lt_mul_right (a := q) (by rw [e3, e5]; omega) (Int.le_of_lt hq)
/-- what is known of the best of the first k -/
def BsI (f : Nat → Int) (k : Nat) (s : Bst) : Prop := (s.best < 0 ∧ ∀ t, t < k → ¬ goodT f t) ∨ ∃ b : Nat, b < k ∧ s.best = b ∧ goodT f b ∧ s.top = tpw f b ∧ s.low = lwt f b ∧ (∀ t, t < k → goodT f t → ¬ aboF (tpw f t) (lwt f t) (tpw f b) (lwt f b)) ∧ (∀ t, t < b → goodT f t → aboF (tpw f b) (lwt f b) (tpw f t) (lwt f t))
theorem thr_best {f : Nat → Int} (h : His f) : ∀ k, k ≤ 255 → BsI f k (thr f k)
  | 0, _ => .inl ⟨by simp [thr], fun t ht => by omega⟩
  | k + 1, hk => by
    have ih := thr_best h k (by omega)
    by_cases hg : goodT f k
    · rcases ih with ⟨hb, hn⟩ | ⟨b, hbk, hbe, hbg, ht, hl, hle, hlt⟩
      · rw [thr_take hg (.inl hb)]
        refine .inr ⟨k, by omega, rfl, hg, rfl, rfl, fun t ht hgt => ?_, fun t ht hgt => absurd hgt (hn t ht)⟩
        by_cases e : t = k
        · subst e; exact abo_irr _ _
        · exact absurd hgt (hn t (by omega))
      · have pk := lwt_pos h (t := k) (by omega) hg
        have pb := lwt_pos h (t := b) (by omega) hbg
        by_cases ha : aboF (tpw f k) (lwt f k) (tpw f b) (lwt f b)
        · rw [thr_take hg (.inr (by rw [ht, hl]; exact ha))]
          have hall : ∀ t, t < k → goodT f t → aboF (tpw f k) (lwt f k) (tpw f t) (lwt f t) := fun t htk hgt => abo_trans (lwt_pos h (t := t) (by omega) hgt) pb pk (hle t htk hgt) ha
          refine .inr ⟨k, by omega, rfl, hg, rfl, rfl, fun t ht hgt => ?_, hall⟩
          by_cases e : t = k
          · subst e; exact abo_irr _ _
          · have := hall t (by omega) hgt
            unfold aboF at this ⊢
            omega
        · rw [thr_keep (by rw [hbe]; omega) (by rw [ht, hl]; exact ha)]
          refine .inr ⟨b, by omega, hbe, hbg, ht, hl, fun t ht hgt => ?_, hlt⟩
          by_cases e : t = k
          · subst e; exact ha
          · exact hle t (by omega) hgt
    · rw [thr_skip hg]
      rcases ih with ⟨hb, hn⟩ | ⟨b, hbk, hbe, hbg, ht, hl, hle, hlt⟩
      · refine .inl ⟨hb, fun t ht => ?_⟩
        by_cases e : t = k
        · subst e; exact hg
        · exact hn t (by omega)
      · refine .inr ⟨b, by omega, hbe, hbg, ht, hl, fun t ht hgt => ?_, hlt⟩
        by_cases e : t = k
        · subst e; exact absurd hgt hg
        · exact hle t (by omega) hgt
/-- is any of the first good -/
def someB (f : Nat → Int) : Nat → Bool
  | 0 => false
  | t + 1 => someB f t || decide (0 < lwt f t)
theorem good_iff {f : Nat → Int} (h : His f) {t : Nat} (ht : t < 255) : 0 < lwt f t ↔ goodT f t := by
  refine ⟨fun hp => ?_, lwt_pos h ht⟩
  unfold lwt at hp
  refine ⟨fun e => ?_, fun e => ?_⟩
  · rw [e] at hp; simp at hp
  · rw [e] at hp; simp at hp
theorem someB_iff {f : Nat → Int} : ∀ k, someB f k = true ↔ ∃ t, t < k ∧ 0 < lwt f t
  | 0 => by simp [someB]
  | k + 1 => by
    unfold someB
    rw [Bool.or_eq_true, someB_iff k, decide_eq_true_eq]
    constructor
    · rintro (⟨t, h1, h2⟩ | h)
      · exact ⟨t, by omega, h2⟩
      · exact ⟨k, by omega, h⟩
    · rintro ⟨t, h1, h2⟩
      by_cases e : t = k
      · subst e; exact .inr h2
      · exact .inl ⟨t, by omega, h2⟩
theorem thr_end {f : Nat → Int} (h : His f) : (someB f 255 = false ∧ fI (thr f 255) = false ∧ bI (thr f 255) = 0) ∨ (someB f 255 = true ∧ fI (thr f 255) = true ∧ ∃ b : Nat, b < 255 ∧ bI (thr f 255) = b ∧ lwt f b ≠ 0 ∧ (∀ t, t < 255 → lwt f t ≠ 0 → ¬ aboF (tpw f t) (lwt f t) (tpw f b) (lwt f b)) ∧ (∀ t, t < b → lwt f t ≠ 0 → aboF (tpw f b) (lwt f b) (tpw f t) (lwt f t)) ∧ ∀ t, t < 255 → lwt f t ≠ 0 → 0 < lwt f t) := by
  have pos : ∀ t, t < 255 → lwt f t ≠ 0 → 0 < lwt f t := fun t ht hne => by have := (h.more ht).2.2.2.2; omega
  rcases thr_best h 255 (Nat.le_refl _) with ⟨hb, hn⟩ | ⟨b, hbk, hbe, hbg, ht, hl, hle, hlt⟩
  · refine .inl ⟨?_, ?_, ?_⟩
    · rw [Bool.eq_false_iff]
      intro e
      obtain ⟨t, h1, h2⟩ := (someB_iff 255).1 e
      exact hn t h1 ((good_iff h h1).1 h2)
    · unfold fI; rw [decide_eq_true hb]; rfl
    · unfold bI; rw [if_pos hb]
  · have hb0 : ¬ (thr f 255).best < 0 := by rw [hbe]; omega
    refine .inr ⟨(someB_iff 255).2 ⟨b, hbk, (good_iff h hbk).2 hbg⟩, ?_, b, hbk, ?_, ?_, fun t htl hne => hle t htl ((good_iff h htl).1 (pos t htl hne)), fun t htl hne => hlt t htl ((good_iff h (by omega)).1 (pos t (by omega) hne)), pos⟩
    · unfold fI; rw [decide_eq_false hb0]; rfl
    · unfold bI; rw [if_neg hb0]; exact hbe
    · have := (good_iff h hbk).2 hbg; omega
theorem his_B {f : Nat → Int} (h : His f) : hisB 256 f = true := by
  have e : alW f 0 4096 256 = true := by
    have : ∀ n, n ≤ 256 → alW f 0 4096 n = true := fun n => by
      induction n with
      | zero => intro _; rfl
      | succ n ih =>
        intro hn
        unfold alW
        rw [ih (by omega)]
        have := h.at' n (by omega)
        unfold inB
        simp
        omega
    exact this 256 (Nat.le_refl _)
  unfold hisB
  rw [e, decide_eq_true h.all]
  rfl

end Go.Proofs.Ytionmmmmmjjciaa
