/- Joint counts: the numbers alone: pairs put in one by one, or gathered where they stand sorted. -/
import Derived.Test.YtfpcenaaenondaaLst
namespace Go.Proofs.Ytfpcenaaenondaa
open Go.RowKit

theorem snoc_ind {α : Type} {p : List α → Prop} (h0 : p []) (h1 : ∀ L x, p L → p (L ++ [x])) (L : List α) : p L := by
  have : ∀ M : List α, p M.reverse := fun M => by
    induction M with
    | nil => exact h0
    | cons x t ih => rw [List.reverse_cons]; exact h1 _ _ ih
  have := this L.reverse
  rwa [List.reverse_reverse] at this
abbrev J3 := Int × Int × Int
/-- a counted pair lies ahead of (a, b) -/
def ltJ (a b : Int) (x : J3) : Prop := x.1 < a ∨ (x.1 = a ∧ x.2.1 < b)
instance (a b : Int) (x : J3) : Decidable (ltJ a b x) := by unfold ltJ; infer_instance
def eqJ (a b : Int) (x : J3) : Prop := x.1 = a ∧ x.2.1 = b
instance (a b : Int) (x : J3) : Decidable (eqJ a b x) := by unfold eqJ; infer_instance
/-- a pair is counted in -/
def insJ (a b : Int) : List J3 → List J3
  | [] => [(a, b, 1)]
  | x :: t => if ltJ a b x then x :: insJ a b t else if eqJ a b x then (a, b, x.2.2 + 1) :: t else (a, b, 1) :: x :: t
theorem insJ_comm (a b c d : Int) : ∀ L : List J3, insJ a b (insJ c d L) = insJ c d (insJ a b L)
  | [] => by
    simp only [insJ]
    by_cases h5 : ltJ a b (c, d, 1)
    · rw [if_pos h5, if_neg (show ¬ ltJ c d (a, b, 1) by simp only [ltJ] at h5 ⊢; omega), if_neg (show ¬ eqJ c d (a, b, 1) by simp only [ltJ, eqJ] at h5 ⊢; omega)]
    · rw [if_neg h5]
      by_cases h6 : eqJ a b (c, d, 1)
      · obtain ⟨e1, e2⟩ : a = c ∧ b = d := by simp only [eqJ] at h6; omega
        subst e1; subst e2
        rw [if_pos h6, if_neg h5]
        try (first | rfl | rw [if_pos h6])
      · rw [if_neg h6, if_pos (show ltJ c d (a, b, 1) by simp only [ltJ, eqJ] at h5 h6 ⊢; omega)]
  | x :: t => by
    have ih := insJ_comm a b c d t
    simp only [insJ]
    by_cases h1 : ltJ c d x
    · by_cases h2 : ltJ a b x
      · rw [if_pos h1, if_pos h2]
        simp only [insJ]
        rw [if_pos h1, if_pos h2, ih]
      · rw [if_pos h1, if_neg h2]
        by_cases h3 : eqJ a b x
        · rw [if_pos h3]
          simp only [insJ]
          rw [if_neg h2, if_pos h3, if_pos (by simp only [ltJ, eqJ] at h1 h3 ⊢; omega)]
        · rw [if_neg h3]
          simp only [insJ]
          rw [if_neg h2, if_neg h3, if_pos (by simp only [ltJ, eqJ] at h1 h2 h3 ⊢; omega), if_pos h1]
    · by_cases h2 : ltJ a b x
      · rw [if_neg h1, if_pos h2]
        by_cases h3 : eqJ c d x
        · rw [if_pos h3]
          simp only [insJ]
          rw [if_neg h1, if_pos h3, if_pos (by simp only [ltJ, eqJ] at h2 h3 ⊢; omega)]
        · rw [if_neg h3]
          simp only [insJ]
          rw [if_neg h1, if_neg h3, if_pos (by simp only [ltJ, eqJ] at h1 h2 h3 ⊢; omega), if_pos h2]
      · rw [if_neg h1, if_neg h2]
        by_cases h3 : eqJ c d x
        · rw [if_pos h3]
          by_cases h4 : eqJ a b x
          · rw [if_pos h4]
            obtain ⟨e1, e2⟩ : a = c ∧ b = d := by simp only [eqJ] at h3 h4; omega
            subst e1; subst e2; rfl
          · rw [if_neg h4]
            simp only [insJ]
            rw [if_neg (show ¬ ltJ a b (c, d, x.2.2 + 1) by simp only [ltJ, eqJ] at h1 h2 h3 h4 ⊢; omega), if_neg (show ¬ eqJ a b (c, d, x.2.2 + 1) by simp only [ltJ, eqJ] at h1 h2 h3 h4 ⊢; omega),
              if_pos (show ltJ c d (a, b, 1) by simp only [ltJ, eqJ] at h1 h2 h3 h4 ⊢; omega), if_neg h1, if_pos h3]
        · rw [if_neg h3]
          by_cases h4 : eqJ a b x
          · rw [if_pos h4]
            simp only [insJ]
            rw [if_neg (show ¬ ltJ c d (a, b, x.2.2 + 1) by simp only [ltJ, eqJ] at h1 h2 h3 h4 ⊢; omega), if_neg (show ¬ eqJ c d (a, b, x.2.2 + 1) by simp only [ltJ, eqJ] at h1 h2 h3 h4 ⊢; omega),
              if_pos (show ltJ a b (c, d, 1) by simp only [ltJ, eqJ] at h1 h2 h3 h4 ⊢; omega), if_neg h2, if_pos h4]
          · rw [if_neg h4]
            simp only [insJ]
            by_cases h5 : ltJ a b (c, d, 1)
            · rw [if_pos h5, if_neg h2, if_neg h4, if_neg (show ¬ ltJ c d (a, b, 1) by simp only [ltJ] at h5 ⊢; omega), if_neg (show ¬ eqJ c d (a, b, 1) by simp only [ltJ, eqJ] at h5 ⊢; omega)]
            · rw [if_neg h5]
              by_cases h6 : eqJ a b (c, d, 1)
              · obtain ⟨e1, e2⟩ : a = c ∧ b = d := by simp only [eqJ] at h6; omega
                subst e1; subst e2
                rw [if_pos h6, if_neg h5]
                try (first | rfl | rw [if_pos h6])
              · rw [if_neg h6, if_pos (show ltJ c d (a, b, 1) by simp only [ltJ, eqJ] at h5 h6 ⊢; omega), if_neg h1, if_neg h3]

/-- all pairs of a list are counted in -/
def jnt (P : List (Int × Int)) : List J3 := P.foldl (fun L p => insJ p.1 p.2 L) []
theorem jnt_snoc (P : List (Int × Int)) (p : Int × Int) : jnt (P ++ [p]) = insJ p.1 p.2 (jnt P) := by simp [jnt, List.foldl_append]
theorem jnt_perm {P Q : List (Int × Int)} (h : P.Perm Q) : jnt P = jnt Q := by
  unfold jnt
  exact h.foldl_eq' (fun x _ y _ z => insJ_comm y.1 y.2 x.1 x.2 z) []
theorem insJ_len (a b : Int) : ∀ L : List J3, (insJ a b L).length ≤ L.length + 1
  | [] => by simp [insJ]
  | x :: t => by
    have := insJ_len a b t
    simp only [insJ]
    split
    · simp; omega
    · split <;> simp
theorem insJ_cnt {a b : Int} {M : Int} : ∀ {L : List J3}, (∀ x ∈ L, 0 < x.2.2 ∧ x.2.2 ≤ M) → (∀ x ∈ insJ a b L, 0 < x.2.2 ∧ x.2.2 ≤ M + 1 ∨ x.2.2 = 1)
  | [], _, x, hx => by simp [insJ] at hx; right; rw [hx]
  | y :: t, h, x, hx => by
    have hy := h y List.mem_cons_self
    simp only [insJ] at hx
    split at hx
    · rcases List.mem_cons.1 hx with rfl | hx
      · left; omega
      · exact insJ_cnt (fun z hz => h z (List.mem_cons_of_mem _ hz)) x hx
    · split at hx
      · rcases List.mem_cons.1 hx with rfl | hx
        · left; dsimp only; omega
        · have := h x (List.mem_cons_of_mem _ hx); left; omega
      · rcases List.mem_cons.1 hx with rfl | hx
        · right; rfl
        · have := h x hx; left; omega
theorem jnt_bd : ∀ (P : List (Int × Int)), (jnt P).length ≤ P.length ∧ ∀ x ∈ jnt P, 0 < x.2.2 ∧ x.2.2 ≤ (P.length : Int) := by
  intro P
  refine snoc_ind (p := fun P => (jnt P).length ≤ P.length ∧ ∀ x ∈ jnt P, 0 < x.2.2 ∧ x.2.2 ≤ (P.length : Int)) ⟨Nat.le_refl _, fun x hx => by cases hx⟩ ?_ P
  · intro P p ih
    rw [jnt_snoc]
    refine ⟨?_, fun x hx => ?_⟩
    · have := insJ_len p.1 p.2 (jnt P); simp; omega
    · have := insJ_cnt ih.2 x hx
      simp
      omega

/-- what the walk over the list finds -/
theorem insJ_eq {a b : Int} : ∀ {L : List J3} {t : Nat}, (∀ j x, j < t → L[j]? = some x → ltJ a b x) → ∀ x, L[t]? = some x → eqJ a b x → insJ a b L = L.set t (a, b, x.2.2 + 1)
  | [], t, _, x, hx, _ => by simp at hx
  | y :: T, 0, _, x, hx, he => by
    simp at hx; subst hx
    have : ¬ ltJ a b y := by simp only [eqJ] at he; simp only [ltJ]; omega
    simp only [insJ]; rw [if_neg this, if_pos he]; rfl
  | y :: T, t + 1, h, x, hx, he => by
    have h0 := h 0 y (by omega) rfl
    have := insJ_eq (L := T) (t := t) (fun j z hj hz => h (j + 1) z (by omega) (by simpa using hz)) x (by simpa using hx) he
    simp only [insJ]; rw [if_pos h0, this]; rfl
theorem insJ_new {a b : Int} : ∀ {L : List J3} {t : Nat}, t ≤ L.length → (∀ j x, j < t → L[j]? = some x → ltJ a b x) → (∀ x, L[t]? = some x → ¬ ltJ a b x ∧ ¬ eqJ a b x) → insJ a b L = L.take t ++ (a, b, 1) :: L.drop t
  | [], t, ht, _, _ => by simp at ht; subst ht; rfl
  | y :: T, 0, _, _, h2 => by
    obtain ⟨h3, h4⟩ := h2 y rfl
    simp only [insJ]; rw [if_neg h3, if_neg h4]; rfl
  | y :: T, t + 1, ht, h, h2 => by
    have h0 := h 0 y (by omega) rfl
    have := insJ_new (L := T) (t := t) (by simpa using ht) (fun j z hj hz => h (j + 1) z (by omega) (by simpa using hz)) (fun z hz => h2 z (by simpa using hz))
    simp only [insJ]; rw [if_pos h0, this]; rfl

/-- a list whose last pair alone may be (a, b), all others ahead of it -/
theorem insJ_last {a b : Int} {L : List J3} {x : J3} (h : ∀ y ∈ L, ltJ a b y) (he : eqJ a b x) : insJ a b (L ++ [x]) = L ++ [(a, b, x.2.2 + 1)] := by
  rw [insJ_eq (t := L.length) (x := x) (fun j z hj hz => ?_) (by simp) he]
  · rw [List.set_append_right _ _ (Nat.le_refl _)]; simp
  · rw [List.getElem?_append_left hj] at hz
    exact h z (List.mem_of_getElem? hz)
theorem insJ_app {a b : Int} {L : List J3} (h : ∀ y ∈ L, ltJ a b y) : insJ a b L = L ++ [(a, b, 1)] := by
  rw [insJ_new (t := L.length) (Nat.le_refl _) (fun j z hj hz => h z (List.mem_of_getElem? hz)) (fun x hx => by simp at hx)]
  simp

/-- pairs stand in order -/
def leP (p q : Int × Int) : Prop := p.1 < q.1 ∨ (p.1 = q.1 ∧ p.2 ≤ q.2)
/-- of a sorted list: where it ends with p, all that is counted lies ahead of p but for the last, which is p -/
theorem jnt_sorted : ∀ (P : List (Int × Int)) (p : Int × Int), (P ++ [p]).Pairwise leP → ∃ L c, jnt (P ++ [p]) = L ++ [(p.1, p.2, c)] ∧ ∀ y ∈ L, ltJ p.1 p.2 y := by
  intro P
  refine snoc_ind (p := fun P => ∀ p : Int × Int, (P ++ [p]).Pairwise leP → ∃ L c, jnt (P ++ [p]) = L ++ [(p.1, p.2, c)] ∧ ∀ y ∈ L, ltJ p.1 p.2 y) ?_ ?_ P
  · intro p _; exact ⟨[], 1, rfl, fun y hy => by cases hy⟩
  · intro P q ih p hp
    obtain ⟨h1, -, h3⟩ := List.pairwise_append.1 hp
    obtain ⟨L, c, hL, hl⟩ := ih q h1
    have hq : leP q p := h3 q (by simp) p (by simp)
    rw [jnt_snoc, hL]
    by_cases e : q = p
    · subst e
      refine ⟨L, c + 1, insJ_last hl ⟨rfl, rfl⟩, hl⟩
    · have hlt : q.1 < p.1 ∨ (q.1 = p.1 ∧ q.2 < p.2) := by
        rcases hq with h | ⟨h, h'⟩
        · exact .inl h
        · right
          refine ⟨h, ?_⟩
          rcases Int.lt_or_eq_of_le h' with h2 | h2
          · exact h2
          · exact absurd (Prod.ext h h2) e
      have hall : ∀ y ∈ L ++ [(q.1, q.2, c)], ltJ p.1 p.2 y := fun y hy => by
        rcases List.mem_append.1 hy with hy | hy
        · have := hl y hy
          simp only [ltJ] at this ⊢; omega
        · simp at hy; subst hy
          simp only [ltJ]; omega
      exact ⟨L ++ [(q.1, q.2, c)], 1, insJ_app hall, hall⟩

theorem jnt_step (P : List (Int × Int)) (q : Int × Int) (hs : (P ++ [q]).Pairwise leP) :
    (jnt P = [] ∧ jnt (P ++ [q]) = [(q.1, q.2, 1)]) ∨ ∃ L' p c, jnt P = L' ++ [(p.1, p.2, c)] ∧ ((p = q ∧ jnt (P ++ [q]) = L' ++ [(p.1, p.2, c + 1)]) ∨ (p ≠ q ∧ jnt (P ++ [q]) = jnt P ++ [(q.1, q.2, 1)])) := by
  rcases List.eq_nil_or_concat P with h | ⟨P', p, h⟩
  · subst h; exact .inl ⟨rfl, rfl⟩
  · rw [List.concat_eq_append] at h
    subst h
    right
    obtain ⟨h1, -, h3⟩ := List.pairwise_append.1 hs
    obtain ⟨L, c, hL, hl⟩ := jnt_sorted P' p h1
    have hq : leP p q := h3 p (by simp) q (by simp)
    refine ⟨L, p, c, hL, ?_⟩
    rw [jnt_snoc, hL]
    by_cases e : p = q
    · left; subst e
      exact ⟨rfl, insJ_last hl ⟨rfl, rfl⟩⟩
    · right
      have hlt : p.1 < q.1 ∨ (p.1 = q.1 ∧ p.2 < q.2) := by
        rcases hq with h | ⟨h, h'⟩
        · exact .inl h
        · right
          refine ⟨h, ?_⟩
          rcases Int.lt_or_eq_of_le h' with h2 | h2
          · exact h2
          · exact absurd (Prod.ext h h2) e
      refine ⟨e, insJ_app fun y hy => ?_⟩
      rcases List.mem_append.1 hy with hy | hy
      · have := hl y hy
        simp only [ltJ] at this ⊢; omega
      · simp at hy; subst hy
        simp only [ltJ]; omega

/-- the cells of counted pairs -/
def jl : List J3 → List Int
  | [] => []
  | x :: t => x.1 :: x.2.1 :: x.2.2 :: jl t
theorem jl_len : ∀ L : List J3, (jl L).length = L.length * 3
  | [] => rfl
  | x :: t => by simp [jl, jl_len t]; omega
theorem jl_app : ∀ (L M : List J3), jl (L ++ M) = jl L ++ jl M
  | [], _ => rfl
  | x :: t, M => by simp [jl, jl_app t M]
theorem jl_at : ∀ {L : List J3} {k : Nat} {x : J3}, L[k]? = some x → (jl L)[k * 3]? = some x.1 ∧ (jl L)[k * 3 + 1]? = some x.2.1 ∧ (jl L)[k * 3 + 2]? = some x.2.2
  | [], k, x, h => by simp at h
  | y :: t, 0, x, h => by simp at h; subst h; exact ⟨rfl, rfl, rfl⟩
  | y :: t, k + 1, x, h => by
    have := jl_at (L := t) (k := k) (x := x) (by simpa using h)
    rw [show (k + 1) * 3 = k * 3 + 1 + 1 + 1 by omega]
    simpa [jl] using this
theorem jl_set : ∀ {L : List J3} {k : Nat} (x : J3), k < L.length → jl (L.set k x) = (((jl L).set (k * 3) x.1).set (k * 3 + 1) x.2.1).set (k * 3 + 2) x.2.2
  | [], k, x, h => by simp at h
  | y :: t, 0, x, h => by simp [jl]
  | y :: t, k + 1, x, h => by
    have := jl_set (L := t) (k := k) x (by simpa using h)
    rw [show (k + 1) * 3 = k * 3 + 1 + 1 + 1 by omega]
    simp [jl, this]
theorem jl_last (L : List J3) (a b c d : Int) : (jl (L ++ [(a, b, c)])).set (L.length * 3 + 2) d = jl (L ++ [(a, b, d)]) := by
  rw [jl_app, jl_app, List.set_append_right _ _ (by rw [jl_len]; omega), jl_len]
  rw [show L.length * 3 + 2 - L.length * 3 = 2 by omega]
  rfl
theorem jl_set2 : ∀ {L : List J3} {k : Nat} {a b c : Int} (d : Int), L[k]? = some (a, b, c) → (jl L).set (k * 3 + 2) d = jl (L.set k (a, b, d))
  | [], k, a, b, c, d, h => by simp at h
  | y :: t, 0, a, b, c, d, h => by simp at h; subst h; simp [jl]
  | y :: t, k + 1, a, b, c, d, h => by
    have := jl_set2 (L := t) (k := k) d (by simpa using h)
    rw [show (k + 1) * 3 + 2 = k * 3 + 2 + 1 + 1 + 1 by omega]
    simp [jl, this]
/-- a list with one more put in at I -/
def putI (L : List J3) (I : Nat) (z : J3) : List J3 := L.take I ++ z :: L.drop I
theorem putI_len {L : List J3} {I : Nat} (z : J3) (h : I ≤ L.length) : (putI L I z).length = L.length + 1 := by
  unfold putI
  simp only [List.length_append, List.length_take, List.length_cons, List.length_drop]
  omega
theorem putI_lt {L : List J3} {I j : Nat} (z : J3) (h : I ≤ L.length) (hj : j < I) : (putI L I z)[j]? = L[j]? := by
  unfold putI
  rw [List.getElem?_append_left (by rw [List.length_take]; omega), List.getElem?_take_of_lt hj]
theorem putI_set {L : List J3} {I : Nat} (z u : J3) (h : I ≤ L.length) : (putI L I z).set I u = putI L I u := by
  unfold putI
  have hl : (L.take I).length = I := by rw [List.length_take]; omega
  rw [List.set_append_right _ _ (by omega), hl, Nat.sub_self]
  rfl
theorem putI_step {L : List J3} {I : Nat} {u : J3} (h0 : 0 < I) (hu : L[I - 1]? = some u) : putI L I u = putI L (I - 1) u := by
  obtain ⟨J, rfl⟩ : ∃ J, I = J + 1 := ⟨I - 1, by omega⟩
  rw [Nat.add_sub_cancel] at hu ⊢
  unfold putI
  rw [List.take_add_one, hu]
  have hj := (List.getElem?_eq_some_iff.1 hu)
  obtain ⟨h1, h2⟩ := hj
  rw [List.drop_eq_getElem_cons h1, h2]
  simp
theorem putI_end (L : List J3) (z : J3) : putI L L.length z = L ++ [z] := by
  unfold putI
  simp

end Go.Proofs.Ytfpcenaaenondaa
