/- Medians: numbers, and lists of the call's own that are written in order. -/
import Derived.Test.YtlpfgmkkbplddaaSli
import Derived.Test.YtlpfgmkkbplddaaOff
namespace Go.Proofs.Ytlpfgmkkbplddaa
open Go.RowKit

/-- the pixels around p, in the order of the offsets -/
def visL (W H p : Int) (g f : Nat → Int) : Nat → List Int
  | 0 => []
  | k + 1 => if hasB W H (p % W + g (k * 2)) (p / W + g (k * 2 + 1)) = true then visL W H p g f k ++ [f ((p / W + g (k * 2 + 1)) * W + (p % W + g (k * 2))).toNat] else visL W H p g f k
theorem visL_len (W H p : Int) (g f : Nat → Int) : ∀ k, (visL W H p g f k).length ≤ k
  | 0 => by simp [visL]
  | k + 1 => by
    have := visL_len W H p g f k
    unfold visL
    split
    · simp; omega
    · omega
theorem visL_mem {W H p : Int} {g f : Nat → Int} {n : Nat} (hn : (n : Int) = W * H) {P : Int → Prop} (hP : ∀ k, k < n → P (f k)) : ∀ k, ∀ x ∈ visL W H p g f k, P x
  | 0, x, hx => by simp [visL] at hx
  | k + 1, x, hx => by
    unfold visL at hx
    cases hq : hasB W H (p % W + g (k * 2)) (p / W + g (k * 2 + 1))
    · rw [hq] at hx
      exact visL_mem hn hP k x (by simpa using hx)
    · rw [hq] at hx
      obtain ⟨q0, q1⟩ := place_lt hq hn
      simp only [if_true, List.mem_append, List.mem_singleton] at hx
      rcases hx with hx | rfl
      · exact visL_mem hn hP k x hx
      · exact hP _ (by omega)
theorem visL_mono (W H p : Int) (g f : Nat → Int) : ∀ k m, k ≤ m → (visL W H p g f k).length ≤ (visL W H p g f m).length
  | k, 0, h => by rw [show k = 0 by omega]; exact Nat.le_refl _
  | k, m + 1, h => by
    by_cases e : k = m + 1
    · rw [e]; exact Nat.le_refl _
    · have := visL_mono W H p g f k m (by omega)
      rw [visL]
      split
      · simp; omega
      · omega
theorem visL_pos {W H p : Int} {g f : Nat → Int} {k m : Nat} (hk : k < m) (h : hasB W H (p % W + g (k * 2)) (p / W + g (k * 2 + 1)) = true) : 0 < (visL W H p g f m).length := by
  have := visL_mono W H p g f (k + 1) m hk
  rw [visL, if_pos h] at this
  simp at this
  omega
/-- in order -/
abbrev Srt (L : List Int) : Prop := L.Pairwise (fun a b => a ≤ b)
def srt (L : List Int) : List Int := L.mergeSort (fun x y => decide (x ≤ y))
theorem srt_srt (L : List Int) : Srt (srt L) := by
  have := List.pairwise_mergeSort (le := fun x y : Int => decide (x ≤ y)) (fun a b c h1 h2 => by simp at *; omega) (fun a b => by simp; omega) L
  simpa [Srt, srt] using this
theorem srt_perm (L : List Int) : (srt L).Perm L := List.mergeSort_perm _ _
theorem srt_len (L : List Int) : (srt L).length = L.length := (srt_perm L).length_eq
theorem srt_uniq {L M : List Int} (h : Srt M) (hp : M.Perm L) : M = srt L :=
  List.Perm.eq_of_pairwise (fun a b _ _ h1 h2 => by omega) h (srt_srt L) (hp.trans (srt_perm L).symm)
/-- put in behind i -/
def putAt (L : List Int) (i : Nat) (x : Int) : List Int := L.take i ++ x :: L.drop i
theorem putAt_len (L : List Int) (i : Nat) (x : Int) (h : i ≤ L.length) : (putAt L i x).length = L.length + 1 := by simp [putAt]; omega
theorem putAt_perm (L : List Int) (i : Nat) (x : Int) : (putAt L i x).Perm (L ++ [x]) := by
  unfold putAt
  refine List.perm_middle.trans ?_
  rw [List.take_append_drop]
  exact (List.perm_append_comm (l₁ := L) (l₂ := [x])).symm
theorem putAt_srt {L : List Int} {i : Nat} {x : Int} (h : Srt L) (hi : i ≤ L.length) (h1 : i = 0 ∨ L.getD (i - 1) 0 ≤ x) (h2 : ∀ y ∈ L.drop i, x < y) : Srt (putAt L i x) := by
  have ht : Srt (L.take i) := List.Pairwise.sublist (List.take_sublist _ _) h
  have hd : Srt (L.drop i) := List.Pairwise.sublist (List.drop_sublist _ _) h
  have hle : ∀ a ∈ L.take i, a ≤ x := by
    intro a ha
    rcases h1 with h1 | h1
    · subst h1; simp at ha
    · by_cases hi0 : i = 0
      · subst hi0; simp at ha
      obtain ⟨j, hj, rfl⟩ := List.getElem_of_mem ha
      simp at hj
      rw [List.getElem_take]
      have hi1 : i - 1 < L.length := by omega
      have e : L.getD (i - 1) 0 = L[i - 1] := by simp [List.getD, List.getElem?_eq_getElem hi1]
      rw [e] at h1
      by_cases hji : j = i - 1
      · subst hji; exact h1
      · have := List.pairwise_iff_getElem.1 h j (i - 1) (by omega) hi1 (by omega)
        omega
  unfold putAt
  refine List.pairwise_append.2 ⟨ht, List.pairwise_cons.2 ⟨fun y hy => by have := h2 y hy; omega, hd⟩, fun a ha b hb => ?_⟩
  have ha' := hle a ha
  rcases List.mem_cons.1 hb with rfl | hb
  · exact ha'
  · have := h2 b hb; omega
def medOf (L : List Int) : Int := (srt L).getD ((L.length - 1) / 2) 0

/-- a list of numbers of the call's own, by its list -/
theorem own_partsL {w : World} {B n : Nat} {v : Value} {L : List Int} (h : w.ownsRow B 2 1 v n (ints L)) (hn : 0 < n) :
    ∃ b cap, v = .slice (some ⟨b, 0, none⟩) n cap ∧ B ≤ b ∧ ∀ k, k < n → w.cell? ⟨b, k, none⟩ = some (.int .i64 (L.getD k 0)) ∧ w.frozen? ⟨b, k, none⟩ = false := by
  obtain ⟨a, cap, b, hv, ho, hB, _⟩ := ow_of_some h hn
  rcases ho with h0 | ⟨ha, hr⟩
  · omega
  · exact ⟨b, cap, by rw [hv, ha], hB, fun k hk => hr k (by omega)⟩
theorem own_setL {w : World} {B n b cap : Nat} {L : List Int} (h : w.ownsRow B 2 1 (.slice (some ⟨b, 0, none⟩) n cap) n (ints L)) (k : Nat) (z : Int) :
    (w.setCell ⟨b, k, none⟩ (.int .i64 z)).ownsRow B 2 1 (.slice (some ⟨b, 0, none⟩) n cap) n (ints (L.set k z)) := by
  obtain ⟨h1, h2⟩ := h
  refine ⟨by rw [ints_length] at h1 ⊢; rw [List.length_set]; exact h1, ?_⟩
  rcases h2 with ⟨hv, _⟩ | ⟨b', cap', cur, hv, hB, hh, hn, hc, hs, ht⟩
  · cases hv
  · cases hv
    refine .inr ⟨b, cap, cur.setIfInBounds k (.int .i64 z), rfl, hB, ?_, hn, hc, by rw [Array.size_setIfInBounds]; exact hs, ?_⟩
    · rw [heap_setCell_same w b k cur 2 _ hh]
    · rw [Array.toList_setIfInBounds, List.take_set, ht]
      unfold ints
      rw [List.map_set]
theorem growL (w : World) {ops : Array Oper} {rest : List Oper} {o : Oper} {a : Act} {Q : Exit → Act → World → Prop} (hgd : o.guard = none) (s x : Operand)
    (ho : o.op = .call { callee := .builtin .append, args := #[s, x], argTypes := #[24, 24] }) (B : Nat) (v : Value) (n : Nat) (L : List Int) (hs : a.eval s = v) (w0 : World) (hown : w.ownsRow B 2 1 v n (ints L))
    (hb : Below B w0 w) (hB : B ≤ w.heap.size) (z : Int) (hx : a.eval x = .slice (some ⟨w.heap.size, 0, none⟩) 1 1) (hn : n ≤ 1048576)
    (h : ∀ v' w', w'.ownsRow B 2 1 v' (n + 1) (ints (L ++ [z])) → Below B w0 w' → w.heap.size < w'.heap.size → wpList Try.prog ops Q rest (a.put o.dst v') w') :
    wpList Try.prog ops Q (o :: rest) a (w.alloc (.cells #[.int .i64 z] 2)) := by
  obtain ⟨ti, hi1, hi2, hi3, hi4⟩ := info2
  exact grow w hgd s x 24 ho B 2 ti (.int .i64 0) 1 8 Try.underlying24 hi1 hi2 hi3 hi4 rfl (by omega) v n L hs w0 hown hb hB [z] 1 1 hx rfl (by unfold maxLen; omega) (by omega) h

end Go.Proofs.Ytlpfgmkkbplddaa
