/- A heap in a list: numbers alone. -/
import Derived.Test.YtekoioggamhlaaaLst
namespace Go.Proofs.Ytekoioggamhlaaa
open Go.RowKit

abbrev I3 := Int × Int × Int
/-- x is not behind y -/
def leI (x y : I3) : Prop := x.1 < y.1 ∨ (x.1 = y.1 ∧ x.2.1 ≤ y.2.1)
/-- x goes before y -/
def bfI (x y : I3) : Prop := x.1 < y.1 ∨ (x.1 = y.1 ∧ x.2.1 < y.2.1)
instance (x y : I3) : Decidable (bfI x y) := by unfold bfI; infer_instance
theorem leI_not {x y : I3} : ¬ bfI y x ↔ leI x y := by unfold bfI leI; omega
theorem leI_trans {x y z : I3} (h : leI x y) (k : leI y z) : leI x z := by unfold leI at *; omega
theorem leI_refl (x : I3) : leI x x := by unfold leI; omega
theorem bfI_le {x y : I3} (h : bfI x y) : leI x y := by unfold bfI leI at *; omega
theorem leI_total (x y : I3) : leI x y ∨ leI y x := by unfold leI; omega

/-- the item at i -/
def gI (L : List I3) (i : Nat) : I3 := L.getD i (0, 0, 0)
theorem gI_at {L : List I3} {i : Nat} (h : i < L.length) : L[i]? = some (gI L i) := by
  unfold gI
  rw [List.getD_eq_getElem?_getD, List.getElem?_eq_getElem h]
  rfl
theorem gI_set {L : List I3} {i j : Nat} {x : I3} (h : i < L.length) : gI (L.set i x) j = if j = i then x else gI L j := by
  unfold gI
  rw [List.getD_eq_getElem?_getD, List.getD_eq_getElem?_getD, List.getElem?_set]
  by_cases e : i = j
  · subst e; simp [h]
  · rw [if_neg e, if_neg (fun h => e h.symm)]
/-- two change places -/
def swI (L : List I3) (i j : Nat) : List I3 := (L.set i (gI L j)).set j (gI L i)
theorem swI_len (L : List I3) (i j : Nat) : (swI L i j).length = L.length := by simp [swI]
theorem swI_at {L : List I3} {i j k : Nat} (hi : i < L.length) (hj : j < L.length) : gI (swI L i j) k = if k = j then gI L i else if k = i then gI L j else gI L k := by
  unfold swI
  rw [gI_set (by simpa using hj), gI_set hi]
theorem swI_perm {L : List I3} {i j : Nat} (hi : i < L.length) (hj : j < L.length) : (swI L i j).Perm L := by
  have h := Array.swap_perm (xs := L.toArray) (i := i) (j := j) (by simpa using hi) (by simpa using hj)
  have h2 := h.toList
  have e : (L.toArray.swap i j (by simpa using hi) (by simpa using hj)).toList = swI L i j := by
    unfold swI
    rw [Array.toList_swap]
    simp only [List.getElem_toArray]
    congr 1
    · congr 1
      have := gI_at hj
      rw [List.getElem?_eq_getElem hj] at this
      exact Option.some.inj this
    · have := gI_at hi
      rw [List.getElem?_eq_getElem hi] at this
      exact Option.some.inj this
  rw [e] at h2
  simpa using h2

/-- each item but the first goes not before the one above it -/
def hpI (L : List I3) : Prop := ∀ i, 0 < i → i < L.length → leI (gI L ((i - 1) / 2)) (gI L i)
theorem hpI_root {L : List I3} (h : hpI L) : ∀ i, i < L.length → leI (gI L 0) (gI L i) := by
  intro i
  induction i using Nat.strongRecOn with
  | _ i ih =>
    intro hi
    by_cases h0 : i = 0
    · subst h0; exact leI_refl _
    · exact leI_trans (ih ((i - 1) / 2) (by omega) (by omega)) (h i (by omega) hi)
theorem hpI_nil : hpI [] := fun i _ h => by simp at h
/-- on the way up: all is right but at a -/
def upI (L : List I3) (a : Nat) : Prop := (∀ i, 0 < i → i < L.length → i ≠ a → leI (gI L ((i - 1) / 2)) (gI L i)) ∧ (0 < a → ∀ i, i < L.length → 0 < i → (i - 1) / 2 = a → leI (gI L ((a - 1) / 2)) (gI L i))
theorem upI_start {L : List I3} (h : hpI L) (x : I3) : upI (L ++ [x]) L.length := by
  have e : ∀ i, i < L.length → gI (L ++ [x]) i = gI L i := fun i hi => by
    unfold gI; rw [List.getD_eq_getElem?_getD, List.getElem?_append_left hi, List.getD_eq_getElem?_getD]
  refine ⟨fun i h0 hi ha => ?_, fun h0 i hi h1 hp => ?_⟩
  · have hl : i < L.length := by simp at hi; omega
    rw [e i hl, e ((i - 1) / 2) (by omega)]
    exact h i h0 hl
  · simp at hi; omega
theorem upI_end {L : List I3} {a : Nat} (h : upI L a) (he : a = 0 ∨ ¬ bfI (gI L a) (gI L ((a - 1) / 2))) : hpI L := fun i h0 hi => by
  by_cases e : i = a
  · subst e
    rcases he with h' | h'
    · omega
    · exact leI_not.1 h'
  · exact h.1 i h0 hi e
theorem upI_step {L : List I3} {a : Nat} (h : upI L a) (h0 : 0 < a) (ha : a < L.length) (hb : bfI (gI L a) (gI L ((a - 1) / 2))) : upI (swI L a ((a - 1) / 2)) ((a - 1) / 2) := by
  have hp : (a - 1) / 2 < L.length := by omega
  obtain ⟨p, hpe⟩ : ∃ p, (a - 1) / 2 = p := ⟨_, rfl⟩
  rw [hpe] at hb hp ⊢
  have hpa : p < a := by omega
  refine ⟨fun i h1 hi hne => ?_, fun h1 i hi h2 hpi => ?_⟩
  · rw [swI_len] at hi
    rw [swI_at ha hp, swI_at ha hp, if_neg hne]
    by_cases e : i = a
    · subst e
      rw [if_pos rfl, if_pos hpe]
      exact bfI_le hb
    · rw [if_neg e]
      by_cases e2 : (i - 1) / 2 = p
      · rw [if_pos e2]
        have := h.1 i h1 hi e
        rw [e2] at this
        exact leI_trans (bfI_le hb) this
      · rw [if_neg e2]
        by_cases e3 : (i - 1) / 2 = a
        · rw [if_pos e3]
          have := h.2 h0 i hi h1 e3
          rw [hpe] at this
          exact this
        · rw [if_neg e3]
          exact h.1 i h1 hi e
  · rw [swI_len] at hi
    have hq : (p - 1) / 2 ≠ p := by omega
    have hqa : (p - 1) / 2 ≠ a := by omega
    rw [swI_at ha hp, swI_at ha hp, if_neg hq, if_neg hqa, if_neg (show i ≠ p by omega)]
    have hpp := h.1 p h1 hp (by omega)
    by_cases e : i = a
    · rw [if_pos e]; exact hpp
    · rw [if_neg e]
      have := h.1 i h2 hi e
      rw [hpi] at this
      exact leI_trans hpp this

/-- on the way down: all is right but below a -/
def dnI (L : List I3) (a : Nat) : Prop := (∀ i, 0 < i → i < L.length → (i - 1) / 2 ≠ a → leI (gI L ((i - 1) / 2)) (gI L i)) ∧ (0 < a → ∀ i, i < L.length → 0 < i → (i - 1) / 2 = a → leI (gI L ((a - 1) / 2)) (gI L i))
theorem dnI_start {L : List I3} {x y : I3} {M : List I3} (h : hpI (x :: M ++ [y])) (hL : L = y :: M) : dnI L 0 := by
  subst hL
  have e : ∀ i, 0 < i → i < (y :: M).length → gI (y :: M) i = gI (x :: M ++ [y]) i := fun i h0 hi => by
    unfold gI
    rw [List.getD_eq_getElem?_getD, List.getD_eq_getElem?_getD, List.cons_append]
    obtain ⟨j, rfl⟩ : ∃ j, i = j + 1 := ⟨i - 1, by omega⟩
    simp only [List.getElem?_cons_succ]
    rw [List.getElem?_append_left (by simpa using hi)]
  refine ⟨fun i h0 hi hne => ?_, fun h0 => absurd h0 (Nat.lt_irrefl _)⟩
  rw [e i h0 hi, e ((i - 1) / 2) (by omega) (by omega)]
  exact h i h0 (by simp at hi ⊢; omega)
theorem dnI_end {L : List I3} {a : Nat} (h : dnI L a) (he : ∀ i, i < L.length → 0 < i → (i - 1) / 2 = a → leI (gI L a) (gI L i)) : hpI L := fun i h0 hi => by
  by_cases e : (i - 1) / 2 = a
  · rw [e]; exact he i hi h0 e
  · exact h.1 i h0 hi e
theorem dnI_step {L : List I3} {a c : Nat} (h : dnI L a) (hc : c < L.length) (h0 : 0 < c) (hca : (c - 1) / 2 = a) (hb : bfI (gI L c) (gI L a)) (hm : ∀ i, i < L.length → 0 < i → (i - 1) / 2 = a → leI (gI L c) (gI L i)) : dnI (swI L a c) c := by
  have ha : a < L.length := by omega
  have hac : a < c := by omega
  refine ⟨fun i h1 hi hne => ?_, fun _ i hi h2 hpi => ?_⟩
  · rw [swI_len] at hi
    rw [swI_at ha hc, swI_at ha hc, if_neg hne]
    by_cases e : (i - 1) / 2 = a
    · rw [if_pos e]
      by_cases e2 : i = c
      · rw [if_pos e2]; exact bfI_le hb
      · rw [if_neg e2, if_neg (show i ≠ a by omega)]
        exact hm i hi h1 e
    · rw [if_neg e]
      have hic : i ≠ c := fun h' => e (by rw [h']; exact hca)
      rw [if_neg hic]
      by_cases e3 : i = a
      · rw [if_pos e3]
        have := h.2 (by omega) c hc h0 hca
        rw [← e3] at this
        exact this
      · rw [if_neg e3]
        exact h.1 i h1 hi e
  · rw [swI_len] at hi
    rw [hca, swI_at ha hc, swI_at ha hc, if_neg (show a ≠ c by omega), if_pos rfl, if_neg (show i ≠ c by omega), if_neg (show i ≠ a by omega)]
    have := h.1 i h2 hi (by omega)
    rw [hpi] at this
    exact this

/-- the cells of the items -/
def hl : List I3 → List Int
  | [] => []
  | x :: t => x.1 :: x.2.1 :: x.2.2 :: hl t
theorem hl_len : ∀ L : List I3, (hl L).length = L.length * 3
  | [] => rfl
  | x :: t => by simp [hl, hl_len t]; omega
theorem hl_app : ∀ (L M : List I3), hl (L ++ M) = hl L ++ hl M
  | [], M => rfl
  | x :: t, M => by simp [hl, hl_app t M]
theorem hl_at : ∀ {L : List I3} {k : Nat} {x : I3}, L[k]? = some x → (hl L)[k * 3]? = some x.1 ∧ (hl L)[k * 3 + 1]? = some x.2.1 ∧ (hl L)[k * 3 + 2]? = some x.2.2
  | [], k, x, h => by simp at h
  | y :: t, 0, x, h => by simp at h; subst h; simp [hl]
  | y :: t, k + 1, x, h => by
    have := hl_at (L := t) (k := k) (x := x) (by simpa using h)
    rw [show (k + 1) * 3 = k * 3 + 1 + 1 + 1 by omega]
    simpa [hl] using this
theorem hl_get {L : List I3} {k : Nat} (h : k < L.length) : (hl L).getD (k * 3) 0 = (gI L k).1 ∧ (hl L).getD (k * 3 + 1) 0 = (gI L k).2.1 ∧ (hl L).getD (k * 3 + 2) 0 = (gI L k).2.2 := by
  obtain ⟨h0, h1, h2⟩ := hl_at (gI_at h)
  simp only [List.getD, h0, h1, h2]
  exact ⟨rfl, rfl, rfl⟩
theorem hl_set : ∀ {L : List I3} {k : Nat} (x : I3), k < L.length → hl (L.set k x) = (((hl L).set (k * 3) x.1).set (k * 3 + 1) x.2.1).set (k * 3 + 2) x.2.2
  | [], k, x, h => by simp at h
  | y :: t, 0, x, h => by simp [hl]
  | y :: t, k + 1, x, h => by
    have := hl_set (L := t) (k := k) x (by simpa using h)
    rw [show (k + 1) * 3 = k * 3 + 1 + 1 + 1 by omega]
    simp [hl, this]

end Go.Proofs.Ytekoioggamhlaaa
