/- Labels: floods, a place at a time. -/
import Derived.Test.YtekoioggamhlaaaLbn
import Derived.Test.YtekoioggamhlaaaBes
namespace Go.Proofs.Ytekoioggamhlaaa
open Go.RowKit

open Classical in
/-- what is free and not there yet is put behind -/
noncomputable def fl1 (U : Nat → Prop) (A : List Nat) (x : Int) : List Nat := if U x.toNat ∧ x.toNat ∉ A then A ++ [x.toNat] else A
noncomputable def flA (U : Nat → Prop) (A : List Nat) (L : List Int) : List Nat := L.foldl (fl1 U) A
theorem flA_snoc (U : Nat → Prop) (A : List Nat) (L : List Int) (x : Int) : flA U A (L ++ [x]) = fl1 U (flA U A L) x := by simp [flA]
theorem flA_nil (U : Nat → Prop) (A : List Nat) : flA U A [] = A := rfl
theorem fl1_yes {U : Nat → Prop} {A : List Nat} {x : Int} (h : U x.toNat ∧ x.toNat ∉ A) : fl1 U A x = A ++ [x.toNat] := if_pos h
theorem fl1_no {U : Nat → Prop} {A : List Nat} {x : Int} (h : ¬ (U x.toNat ∧ x.toNat ∉ A)) : fl1 U A x = A := if_neg h
theorem fl1_ext (U : Nat → Prop) (A : List Nat) (x : Int) : ∃ N, fl1 U A x = A ++ N := by
  by_cases h : U x.toNat ∧ x.toNat ∉ A
  · exact ⟨[x.toNat], fl1_yes h⟩
  · exact ⟨[], by rw [fl1_no h]; simp⟩
theorem flA_ext (U : Nat → Prop) : ∀ (L : List Int) (A : List Nat), ∃ N, flA U A L = A ++ N
  | [], A => ⟨[], by simp [flA]⟩
  | x :: t, A => by
    obtain ⟨N, h⟩ := fl1_ext U A x
    obtain ⟨M, h2⟩ := flA_ext U t (fl1 U A x)
    refine ⟨N ++ M, ?_⟩
    show flA U (fl1 U A x) t = _
    rw [h2, h, List.append_assoc]
theorem flA_sub {U : Nat → Prop} {j : Nat} : ∀ (L : List Int) (A : List Nat), j ∈ flA U A L → j ∈ A ∨ (∃ x ∈ L, x.toNat = j ∧ U j)
  | [], A, h => .inl h
  | x :: t, A, h => by
    rcases flA_sub t (fl1 U A x) h with h | ⟨y, hy, h⟩
    · by_cases q : U x.toNat ∧ x.toNat ∉ A
      · rw [fl1_yes q] at h
        rcases List.mem_append.1 h with h | h
        · exact .inl h
        · simp at h; subst h; exact .inr ⟨x, List.mem_cons_self, rfl, q.1⟩
      · rw [fl1_no q] at h; exact .inl h
    · exact .inr ⟨y, List.mem_cons_of_mem _ hy, h⟩
theorem flA_up {U : Nat → Prop} {j : Nat} (L : List Int) (A : List Nat) (h : j ∈ A) : j ∈ flA U A L := by
  obtain ⟨N, e⟩ := flA_ext U L A
  rw [e]; exact List.mem_append_left _ h
theorem flA_has {U : Nat → Prop} : ∀ (L : List Int) (A : List Nat) (x : Int), x ∈ L → U x.toNat → x.toNat ∈ flA U A L
  | y :: t, A, x, h, hu => by
    rcases List.mem_cons.1 h with rfl | h
    · refine flA_up t (fl1 U A x) ?_
      by_cases q : x.toNat ∈ A
      · rw [fl1_no (fun h => h.2 q)]; exact q
      · rw [fl1_yes ⟨hu, q⟩]; simp
    · exact flA_has t (fl1 U A y) x h hu
theorem flA_nodup {U : Nat → Prop} : ∀ (L : List Int) (A : List Nat), A.Nodup → (flA U A L).Nodup
  | [], A, h => h
  | x :: t, A, h => by
    refine flA_nodup t (fl1 U A x) ?_
    by_cases q : U x.toNat ∧ x.toNat ∉ A
    · rw [fl1_yes q, List.nodup_append]
      refine ⟨h, by simp, fun a ha b hb => ?_⟩
      simp at hb; subst hb
      intro e; subst e; exact q.2 ha
    · rw [fl1_no q]; exact h

/-- a flood under way: A is what is labelled, S what waits -/
structure Fd (U : Nat → Prop) (nb : Nat → List Int) (k : Nat) (A S : List Nat) : Prop where
  st : k ∈ A
  rch : ∀ j ∈ A, Rch U nb k j
  nd : A.Nodup
  sub : ∀ j ∈ S, j ∈ A
  cl : ∀ j ∈ A, j ∉ S → ∀ m : Nat, (m : Int) ∈ nb j → U m → m ∈ A
theorem Fd.start (U : Nat → Prop) (nb : Nat → List Int) (k : Nat) : Fd U nb k [k] [k] :=
  ⟨List.mem_singleton.2 rfl, fun j hj => by rw [List.mem_singleton] at hj; subst hj; exact .base, by simp, fun j h => h, fun j h h' => absurd h h'⟩
theorem Fd.pop {U : Nat → Prop} {nb : Nat → List Int} {k p : Nat} {A S S' N : List Nat} {L : List Int} (h : Fd U nb k A S) (hp : p ∈ S) (h1 : ∀ j ∈ S, j = p ∨ j ∈ S') (h2 : ∀ j ∈ S', j ∈ S) (hL : ∀ x, x ∈ L ↔ x ∈ nb p) (h0 : ∀ x ∈ L, 0 ≤ x) (hN : flA U A L = A ++ N) : Fd U nb k (A ++ N) (S' ++ N) := by
  refine ⟨List.mem_append_left _ h.st, fun j hj => ?_, by rw [← hN]; exact flA_nodup L A h.nd, fun j hj => ?_, fun j hj hs m hm hu => ?_⟩
  · rw [← hN] at hj
    rcases flA_sub L A hj with hj | ⟨x, hx, rfl, hu⟩
    · exact h.rch j hj
    · refine .step (h.rch p (h.sub p hp)) ?_ hu
      rw [Int.toNat_of_nonneg (h0 x hx)]
      exact (hL x).1 hx
  · rcases List.mem_append.1 hj with hj | hj
    · exact List.mem_append_left _ (h.sub j (h2 j hj))
    · exact List.mem_append_right _ hj
  · rw [List.mem_append, not_or] at hs
    have hjA : j ∈ A := (List.mem_append.1 hj).resolve_right hs.2
    by_cases e : j = p
    · subst e
      rw [← hN]
      have := flA_has (U := U) L A (m : Int) ((hL _).2 hm) (by simpa using hu)
      simpa using this
    · refine List.mem_append_left _ (h.cl j hjA (fun hj => ?_) m hm hu)
      rcases h1 j hj with h | h
      · exact e h
      · exact hs.1 h
theorem Fd.len {n : Nat} {f l : Nat → Int} {nb : Nat → List Int} {k : Nat} {A S : List Nat} (h : Fd (Fre n f l) nb k A S) (hk : Fre n f l k) : A.length ≤ n ∧ ∀ j ∈ A, j < n ∧ f j = 1 ∧ l j = 0 :=
  have h2 : ∀ j ∈ A, Fre n f l j := fun j hj => (h.rch j hj).free hk
  ⟨len_le_of_nodup h.nd (fun j hj => (h2 j hj).1), h2⟩
theorem Fd.done {n : Nat} {f : Nat → Int} {nb : Nat → List Int} {k : Nat} {A : List Nat} (h : Fd (Fre n f (lb n f nb k).1) nb k A []) (hk : Fre n f (lb n f nb k).1 k) :
    (lb n f nb (k + 1)).1 = lbA (lb n f nb k).1 ((lb n f nb k).2 + 1) A ∧ (lb n f nb (k + 1)).2 = (lb n f nb k).2 + 1 :=
  lb_flood hk h.rch h.st (fun j hj m hm hu => h.cl j hj (by simp) m hm hu)

theorem visL_succ (W H p : Int) (g f : Nat → Int) (k : Nat) : visL W H p g f (k + 1) = visL W H p g f k ++ (if hasB W H (p % W + g (k * 2)) (p / W + g (k * 2 + 1)) = true then [f ((p / W + g (k * 2 + 1)) * W + (p % W + g (k * 2))).toNat] else []) := by
  rw [visL]
  split <;> simp
theorem if_list {p q : Prop} [Decidable p] [Decidable q] {x y : Int} (h : p ↔ q) (h2 : q → x = y) : (if p then [x] else []) = (if q then [y] else []) := by
  by_cases hq : q
  · rw [if_pos (h.2 hq), if_pos hq, h2 hq]
  · rw [if_neg (fun hp => hq (h.1 hp)), if_neg hq]
theorem nbs_bes {W H : Int} {n k : Nat} (hn : (n : Int) = W * H) (hW : 1 ≤ W) (hk : k < n) : nbs W H besF k = besL W H k := by
  have h0 : 0 ≤ (k : Int) % W := Int.emod_nonneg _ (by omega)
  have h1 : (k : Int) % W < W := Int.emod_lt_of_pos _ (by omega)
  have h2 : 0 ≤ (k : Int) / W := Int.ediv_nonneg (by omega) (by omega)
  have h3 : (k : Int) / W < H := Int.ediv_lt_of_lt_mul (by omega) (by rw [Int.mul_comm, ← hn]; omega)
  have h4 := Int.mul_ediv_add_emod (k : Int) W
  have h5 : 1 ≤ (k : Int) / W ↔ W ≤ (k : Int) := by rw [Int.le_ediv_iff_mul_le (by omega)]; omega
  unfold nbs besL
  rw [visL_succ, visL_succ, visL_succ, visL_succ]
  unfold besA besB besC besD
  generalize (k : Int) % W = X at *
  generalize (k : Int) / W = Y at *
  have e4 : W * Y = Y * W := Int.mul_comm _ _
  have e5 : 0 ≤ Y * W := Int.mul_nonneg h2 (by omega)
  have hY : ∀ d : Int, (Y + d) * W = Y * W + d * W := fun d => Int.add_mul _ _ _
  have g0 : besF (0 * 2) = 0 := rfl
  have g1 : besF (0 * 2 + 1) = -1 := rfl
  have g2 : besF (1 * 2) = -1 := rfl
  have g3 : besF (1 * 2 + 1) = 0 := rfl
  have g4 : besF (2 * 2) = 1 := rfl
  have g5 : besF (2 * 2 + 1) = 0 := rfl
  have g6 : besF (3 * 2) = 0 := rfl
  have g7 : besF (3 * 2 + 1) = 1 := rfl
  simp only [g0, g1, g2, g3, g4, g5, g6, g7, visL, List.nil_append]
  congr 1
  · congr 1
    · congr 1
      · refine if_list ?_ ?_
        · rw [hasB_iff]; omega
        · intro h; rw [hY]; omega
      · refine if_list ?_ ?_
        · rw [hasB_iff]; omega
        · intro h; rw [hY]; omega
    · refine if_list ?_ ?_
      · rw [hasB_iff]; omega
      · intro h; rw [hY]; omega
  · refine if_list ?_ ?_
    · rw [hasB_iff]; omega
    · intro h; rw [hY]; omega

/-- the labels as the program has them while it floods: -1 for what is free -/
def encL (f l : Nat → Int) (j : Nat) : Int := if f j = 1 ∧ l j = 0 then -1 else l j
theorem encL_free {f l : Nat → Int} {c : Int} {A : List Nat} {q n : Nat} (hc : 1 ≤ c) (hl : 0 ≤ l q) (hq : q < n) : encL f (lbA l c A) q = -1 ↔ (Fre n f l q ∧ q ∉ A) := by
  unfold encL lbA Fre
  by_cases h : q ∈ A
  · rw [if_pos h]
    simp only [h, not_true, and_false, iff_false]
    split
    · next h2 => omega
    · omega
  · rw [if_neg h]
    simp only [h, not_false_eq_true, and_true]
    constructor
    · intro h2
      split at h2
      · next h3 => exact ⟨hq, h3.1, h3.2⟩
      · omega
    · intro h2; rw [if_pos ⟨h2.2.1, h2.2.2⟩]
theorem encL_put {f l : Nat → Int} {c : Int} {A : List Nat} (hc : 1 ≤ c) (q : Nat) : updN (encL f (lbA l c A)) q c = encL f (lbA l c (A ++ [q])) := by
  rw [← lbA_snoc]
  funext j
  unfold encL updN
  by_cases h : j = q
  · rw [if_pos h, if_pos h, if_neg (by omega)]
  · rw [if_neg h, if_neg h]
theorem spec_free {f l : Nat → Int} {c : Int} {A : List Nat} {q n : Nat} (hc : 1 ≤ c) (hq : q < n) : (f q = 1 ∧ lbA l c A q = 0) ↔ (Fre n f l q ∧ q ∉ A) := by
  unfold lbA Fre
  by_cases h : q ∈ A
  · rw [if_pos h]
    simp only [h, not_true, and_false, iff_false]
    omega
  · rw [if_neg h]
    simp only [h, not_false_eq_true, and_true]
    exact ⟨fun h => ⟨hq, h⟩, fun h => h.2⟩

end Go.Proofs.Ytekoioggamhlaaa
