/- What fits, and its book: the theory. -/
import Derived.Test.YthfkdejlkegmoaaFti
namespace Go.Proofs.Ythfkdejlkegmoaa
open Go.RowKit

theorem ft_step1 {g lim : Nat → Int} (k : Nat) : (ftS g lim k).2 <+: (ftS g lim (k + 1)).2 := by
  show (ftS g lim k).2 <+: (if _ then _ else _ : (Nat → Int) × List Int).2
  split
  · exact List.prefix_append _ _
  · exact List.prefix_refl _
theorem ft_pre {g lim : Nat → Int} {k : Nat} : ∀ {n : Nat}, k ≤ n → (ftS g lim k).2 <+: (ftS g lim n).2
  | 0, h => by obtain rfl : k = 0 := by omega
               exact List.prefix_refl _
  | n + 1, h => by
    by_cases e : k = n + 1
    · subst e; exact List.prefix_refl _
    · exact (ft_pre (n := n) (by omega)).trans (ft_step1 n)
theorem pre_getD {A B : List Int} (h : A <+: B) {q : Nat} (hq : q < A.length) : B.getD q 0 = A.getD q 0 := by
  obtain ⟨C, rfl⟩ := h
  rw [List.getD_eq_getElem?_getD, List.getElem?_append_left hq, ← List.getD_eq_getElem?_getD]
theorem exA_of {g : Nat → Int} : ∀ {n : Nat}, (∀ k, k < n → ex1 g k = true) → exA g n = true
  | 0, _ => rfl
  | n + 1, h => exA_step (exA_of (n := n) fun k hk => h k (by omega)) (h n (by omega))
theorem exA_get {g : Nat → Int} {n k : Nat} (h : exA g n = true) (hk : k < n) : ex1 g k = true := by
  cases e : ex1 g k
  · rw [exA_false hk e] at h; cases h
  · rfl
theorem bkF_congr {g g' : Nat → Int} : ∀ {n : Nat}, (∀ q, q < n * 2 → g q = g' q) → bkF g n = bkF g' n
  | 0, _ => rfl
  | n + 1, h => by
    unfold bkF
    rw [bkF_congr (n := n) (fun q hq => h q (by omega)), h (n * 2) (by omega), h (n * 2 + 1) (by omega)]
/-- the given ones are right, and their book is the sums -/
theorem ft_book {g lim : Nat → Int} : ∀ {n : Nat}, exA g n = true → ∀ r, (ftS g lim n).2.length = r * 2 →
    exA (fun q => (ftS g lim n).2.getD q 0) r = true ∧ bkF (fun q => (ftS g lim n).2.getD q 0) r = (ftS g lim n).1
  | 0, _, r, hr => by
    obtain rfl : r = 0 := by simp [ftS] at hr; omega
    exact ⟨rfl, rfl⟩
  | n + 1, h, r, hr => by
    have hn : exA g n = true := exA_le h (by omega)
    obtain ⟨r0, hr0, -⟩ := ft_len g lim n
    obtain ⟨i1, i2⟩ := ft_book (lim := lim) hn r0 hr0
    by_cases hc : (ftS g lim n).1 (g (n * 2)).toNat + g (n * 2 + 1) ≤ lim (g (n * 2)).toNat
    · have e : ftS g lim (n + 1) = (Lnm.upd (ftS g lim n).1 (g (n * 2)).toNat ((ftS g lim n).1 (g (n * 2)).toNat + g (n * 2 + 1)), (ftS g lim n).2 ++ [g (n * 2), g (n * 2 + 1)]) := by
        show (if _ then _ else _ : (Nat → Int) × List Int) = _
        rw [if_pos hc]
      rw [e] at hr ⊢
      dsimp only at hr ⊢
      obtain rfl : r = r0 + 1 := by rw [List.length_append, hr0] at hr; simp at hr; omega
      have hpre : ∀ q, q < r0 * 2 → ((ftS g lim n).2 ++ [g (n * 2), g (n * 2 + 1)]).getD q 0 = (ftS g lim n).2.getD q 0 := fun q hq => pre_getD (List.prefix_append _ _) (by omega)
      have h0 : ((ftS g lim n).2 ++ [g (n * 2), g (n * 2 + 1)]).getD (r0 * 2) 0 = g (n * 2) := by
        rw [List.getD_eq_getElem?_getD, List.getElem?_append_right (by omega), hr0]; simp
      have h1 : ((ftS g lim n).2 ++ [g (n * 2), g (n * 2 + 1)]).getD (r0 * 2 + 1) 0 = g (n * 2 + 1) := by
        rw [List.getD_eq_getElem?_getD, List.getElem?_append_right (by omega), hr0]; simp
      constructor
      · refine exA_of fun k hk => ?_
        by_cases ek : k = r0
        · subst ek
          have := exA_get h (show n < n + 1 by omega)
          unfold ex1 at this ⊢
          dsimp only
          rw [h0, h1]; exact this
        · have := exA_get i1 (show k < r0 by omega)
          unfold ex1 at this ⊢
          dsimp only at this ⊢
          rw [hpre (k * 2) (by omega), hpre (k * 2 + 1) (by omega)]; exact this
      · unfold bkF
        rw [h0, h1, bkF_congr (n := r0) hpre, i2]
    · have e : ftS g lim (n + 1) = ftS g lim n := by
        show (if _ then _ else _ : (Nat → Int) × List Int) = _
        rw [if_neg hc]
      rw [e] at hr ⊢
      obtain rfl : r = r0 := by omega
      exact ⟨i1, i2⟩

end Go.Proofs.Ythfkdejlkegmoaa
