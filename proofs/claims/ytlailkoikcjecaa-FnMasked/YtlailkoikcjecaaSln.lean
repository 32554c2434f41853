/- Lists in order: numbers alone. -/
import Derived.Test.YtlailkoikcjecaaGrl
namespace Go.Proofs.Ytlailkoikcjecaa
open Go.RowKit

/-- in order -/
abbrev Srt (L : List Int) : Prop := L.Pairwise (fun a b => a ≤ b)
def srt (L : List Int) : List Int := L.mergeSort (fun x y => decide (x ≤ y))
theorem srt_srt (L : List Int) : Srt (srt L) := by
  have := List.pairwise_mergeSort (le := fun x y : Int => decide (x ≤ y)) (fun a b c h1 h2 => by simp at *; omega) (fun a b => by simp; omega) L
  simpa [Srt, srt] using this
theorem srt_perm (L : List Int) : (srt L).Perm L := List.mergeSort_perm _ _
theorem srt_len (L : List Int) : (srt L).length = L.length := (srt_perm L).length_eq
theorem srt_uniq {L M : List Int} (h : Srt M) (hp : M.Perm L) : M = srt L :=
  List.Perm.eq_of_pairwise (fun a b _ _ h1 h2 => by omega) h (srt_srt L) (hp.trans (srt_perm L).symm)
/-- put in behind i -/
def putAt (L : List Int) (i : Nat) (x : Int) : List Int := L.take i ++ x :: L.drop i
theorem putAt_len (L : List Int) (i : Nat) (x : Int) (h : i ≤ L.length) : (putAt L i x).length = L.length + 1 := by simp [putAt]; omega
theorem putAt_perm (L : List Int) (i : Nat) (x : Int) : (putAt L i x).Perm (L ++ [x]) := by
  unfold putAt
  refine List.perm_middle.trans ?_
  rw [List.take_append_drop]
  exact (List.perm_append_comm (l₁ := L) (l₂ := [x])).symm
theorem putAt_srt {L : List Int} {i : Nat} {x : Int} (h : Srt L) (hi : i ≤ L.length) (h1 : i = 0 ∨ L.getD (i - 1) 0 ≤ x) (h2 : ∀ y ∈ L.drop i, x < y) : Srt (putAt L i x) := by
  have ht : Srt (L.take i) := List.Pairwise.sublist (List.take_sublist _ _) h
  have hd : Srt (L.drop i) := List.Pairwise.sublist (List.drop_sublist _ _) h
  have hle : ∀ a ∈ L.take i, a ≤ x := by
    intro a ha
    rcases h1 with h1 | h1
    · subst h1; simp at ha
    · by_cases hi0 : i = 0
      · subst hi0; simp at ha
      obtain ⟨j, hj, rfl⟩ := List.getElem_of_mem ha
      simp at hj
      rw [List.getElem_take]
      have hi1 : i - 1 < L.length := by omega
      have e : L.getD (i - 1) 0 = L[i - 1] := by simp [List.getD, List.getElem?_eq_getElem hi1]
      rw [e] at h1
      by_cases hji : j = i - 1
      · subst hji; exact h1
      · have := List.pairwise_iff_getElem.1 h j (i - 1) (by omega) hi1 (by omega)
        omega
  unfold putAt
  refine List.pairwise_append.2 ⟨ht, List.pairwise_cons.2 ⟨fun y hy => by have := h2 y hy; omega, hd⟩, fun a ha b hb => ?_⟩
  have ha' := hle a ha
  rcases List.mem_cons.1 hb with rfl | hb
  · exact ha'
  · have := h2 b hb; omega

end Go.Proofs.Ytlailkoikcjecaa
