/- Right lists of elements: numbers alone. -/
import Derived.Test.YteadhhhhnihoaaaElv
namespace Go.Proofs.Yteadhhhhnihoaaa
open Go.RowKit

/-- may an element stand at a place of a level that ends at en -/
def hdB (E : Nat → El) (i en : Nat) (it : Bool) (last : Int) : Bool :=
  valB (E i).k (E i).t (E i).ln (E i).f && (decide ((E i).k = 6) == it) && decide (0 ≤ (E i).s ∧ (E i).s ≤ (en : Int) - i - 1) &&
  (if it = true then decide ((E i).g = 0 ∧ (E i).n = 0) else tagB (E i).g (E i).n && decide (last < (E i).g * 65536 + (E i).n)) &&
  decide ((E i).k = 5 ∨ (E i).k = 6 ∨ (E i).s = 0)
def nxt (E : Nat → El) (i : Nat) : Nat := i + 1 + (E i).s.toNat
def lstB (E : Nat → El) (i : Nat) (it : Bool) (last : Int) : Int := if it = true then last else (E i).g * 65536 + (E i).n
def levL (E : Nat → El) : Nat → Nat → Nat → Int → Bool → Int → Bool
  | 0, _, _, _, _, _ => true
  | f + 1, i, en, d, it, last => if i < en then decide (d ≤ 8) && (hdB E i en it last && (levL E f (i + 1) (nxt E i) (d + 1) (decide ((E i).k = 5)) (-1) && levL E f (nxt E i) en d it (lstB E i it last))) else true
/-- is a level right from a place on -/
def lev (E : Nat → El) (i en : Nat) (d : Int) (it : Bool) (last : Int) : Bool := levL E (en - i) i en d it last
theorem hdB_size {E : Nat → El} {i en : Nat} {it : Bool} {last : Int} (h : hdB E i en it last = true) (_hi : i < en) : nxt E i ≤ en ∧ 0 ≤ (E i).s := by
  unfold hdB at h
  simp only [Bool.and_eq_true] at h
  have := of_decide_eq_true h.1.1.2
  unfold nxt
  omega
theorem levL_more (E : Nat → El) : ∀ (f g i en : Nat) (d : Int) (it : Bool) (last : Int), en - i ≤ f → en - i ≤ g → levL E f i en d it last = levL E g i en d it last := by
  intro f
  induction f with
  | zero =>
    intro g i en d it last hf _
    cases g with
    | zero => rfl
    | succ g => simp only [levL]; rw [if_neg (by omega)]
  | succ f ih =>
    intro g i en d it last hf hg
    by_cases hi : i < en
    · cases g with
      | zero => omega
      | succ g =>
        simp only [levL, if_pos hi]
        cases hh : hdB E i en it last with
        | false => simp
        | true =>
          obtain ⟨hn, _⟩ := hdB_size hh hi
          have h1 : i < nxt E i := by unfold nxt; omega
          rw [ih g (i + 1) (nxt E i) _ _ _ (by omega) (by omega), ih g (nxt E i) en _ _ _ (by omega) (by omega)]
    · cases g with
      | zero => simp only [levL]; rw [if_neg hi]
      | succ g => simp only [levL, if_neg hi]
theorem lev_end {E : Nat → El} {i en : Nat} {d : Int} {it : Bool} {last : Int} (h : ¬ i < en) : lev E i en d it last = true := by
  unfold lev
  rw [show en - i = 0 by omega]
  rfl
theorem lev_bad {E : Nat → El} {i en : Nat} {d : Int} {it : Bool} {last : Int} (h : i < en) (hh : hdB E i en it last = false) : lev E i en d it last = false := by
  unfold lev
  obtain ⟨q, hq⟩ : ∃ q, en - i = q + 1 := ⟨en - i - 1, by omega⟩
  rw [hq]
  simp only [levL, if_pos h, hh, Bool.false_and, Bool.and_false]
theorem lev_deep {E : Nat → El} {i en : Nat} {d : Int} {it : Bool} {last : Int} (h : i < en) (hh : ¬ d ≤ 8) : lev E i en d it last = false := by
  unfold lev
  obtain ⟨q, hq⟩ : ∃ q, en - i = q + 1 := ⟨en - i - 1, by omega⟩
  rw [hq]
  simp only [levL, if_pos h, decide_eq_false hh, Bool.false_and]
theorem lev_good {E : Nat → El} {i en : Nat} {d : Int} {it : Bool} {last : Int} (h : i < en) (hd : d ≤ 8) (hh : hdB E i en it last = true) :
    lev E i en d it last = (lev E (i + 1) (nxt E i) (d + 1) (decide ((E i).k = 5)) (-1) && lev E (nxt E i) en d it (lstB E i it last)) := by
  obtain ⟨hn, _⟩ := hdB_size hh h
  have h1 : i < nxt E i := by unfold nxt; omega
  unfold lev
  obtain ⟨q, hq⟩ : ∃ q, en - i = q + 1 := ⟨en - i - 1, by omega⟩
  rw [hq]
  simp only [levL, if_pos h, decide_eq_true hd, hh, Bool.true_and]
  rw [levL_more E q (nxt E i - (i + 1)) (i + 1) (nxt E i) _ _ _ (by omega) (by omega), levL_more E q (en - nxt E i) (nxt E i) en _ _ _ (by omega) (by omega)]
/-- the parts of it -/
theorem hdB_iff {E : Nat → El} {i en : Nat} {it : Bool} {last : Int} {g n k : Int} {t : ByteArray} {l : Nat} {f : Nat → Int} {s : Int} (h : E i = ⟨g, n, k, t, l, f, s⟩) :
    hdB E i en it last = true ↔ valB k t l f = true ∧ decide (k = 6) = it ∧ (0 ≤ s ∧ s ≤ (en : Int) - i - 1) ∧ ((it = true ∧ g = 0 ∧ n = 0) ∨ (it = false ∧ tagB g n = true ∧ last < g * 65536 + n)) ∧ (k = 5 ∨ k = 6 ∨ s = 0) := by
  unfold hdB
  rw [h]
  simp only [Bool.and_eq_true, beq_iff_eq]
  constructor
  · rintro ⟨⟨⟨⟨a, b⟩, c⟩, e⟩, q⟩
    refine ⟨a, b, of_decide_eq_true c, ?_, of_decide_eq_true q⟩
    cases it with
    | true => rw [if_pos rfl] at e; exact .inl ⟨rfl, of_decide_eq_true e⟩
    | false =>
      rw [if_neg (by simp), Bool.and_eq_true] at e
      exact .inr ⟨rfl, e.1, of_decide_eq_true e.2⟩
  · rintro ⟨a, b, c, e, q⟩
    refine ⟨⟨⟨⟨a, b⟩, decide_eq_true c⟩, ?_⟩, decide_eq_true q⟩
    rcases e with ⟨rfl, e⟩ | ⟨rfl, e1, e2⟩
    · rw [if_pos rfl]; exact decide_eq_true e
    · rw [if_neg (by simp), e1, decide_eq_true e2]; rfl
theorem hdB_no {E : Nat → El} {i en : Nat} {it : Bool} {last : Int} {g n k : Int} {t : ByteArray} {l : Nat} {f : Nat → Int} {s : Int} (h : E i = ⟨g, n, k, t, l, f, s⟩)
    (hn : ¬ (valB k t l f = true ∧ decide (k = 6) = it ∧ (0 ≤ s ∧ s ≤ (en : Int) - i - 1) ∧ ((it = true ∧ g = 0 ∧ n = 0) ∨ (it = false ∧ tagB g n = true ∧ last < g * 65536 + n)) ∧ (k = 5 ∨ k = 6 ∨ s = 0))) : hdB E i en it last = false := by
  rw [Bool.eq_false_iff]
  exact fun x => hn ((hdB_iff h).1 x)
/-- the same list from a place on -/
theorem lev_shift (E : Nat → El) (p : Nat) : ∀ (f i en : Nat) (d : Int) (it : Bool) (last : Int), levL (fun q => E (p + q)) f i en d it last = levL E f (p + i) (p + en) d it last := by
  intro f
  induction f with
  | zero => intros; rfl
  | succ f ih =>
    intro i en d it last
    have e1 : hdB (fun q => E (p + q)) i en it last = hdB E (p + i) (p + en) it last := by
      unfold hdB
      have : ((en : Int) - i - 1) = (((p + en : Nat) : Int) - ((p + i : Nat) : Int) - 1) := by omega
      rw [this]
    have e2 : p + nxt (fun q => E (p + q)) i = nxt E (p + i) := by
      unfold nxt
      show p + (i + 1 + (E (p + i)).s.toNat) = _
      omega
    have e3 : lstB (fun q => E (p + q)) i it last = lstB E (p + i) it last := rfl
    simp only [levL]
    rw [e1, ih, ih, e2, e3, show p + (i + 1) = p + i + 1 by omega]
    by_cases h : i < en
    · rw [if_pos h, if_pos (by omega)]
    · rw [if_neg h, if_neg (by omega)]
theorem lev_shift' (E : Nat → El) (p i en : Nat) (d : Int) (it : Bool) (last : Int) : lev (fun q => E (p + q)) i en d it last = lev E (p + i) (p + en) d it last := by
  unfold lev
  rw [lev_shift, show p + en - (p + i) = en - i by omega]

end Go.Proofs.Yteadhhhhnihoaaa
