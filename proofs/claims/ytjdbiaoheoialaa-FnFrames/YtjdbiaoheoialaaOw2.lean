/- Two lists of one call. -/
import Derived.Test.YtjdbiaoheoialaaHol
namespace Go.Proofs.Ytjdbiaoheoialaa
open Go.RowKit

/-- a list that is there already, in a block that is not in hand yet -/
theorem St.ownX {w0 : World} {L : List BoxT} {O : List OwnT} {w : World} (h : St w0 L O w) {a : Option Addr} {b n : Nat} {f : Nat → Value} (ho : OwV a b n f w) (h1 : n = 0 ∨ (w0.heap.size ≤ b ∧ b ∉ blocks L O)) :
    St w0 L ((a, b, n, f) :: O) w := by
  have kow : ∀ x ∈ (a, b, n, f) :: O, OwV x.1 x.2.1 x.2.2.1 x.2.2.2 w := by
    intro x hx
    rcases List.mem_cons.1 hx with rfl | hx
    · exact ho
    · exact h.ow x hx
  by_cases h0 : n = 0
  · have e : blocks L ((a, b, n, f) :: O) = blocks L O := by unfold blocks; rw [List.filter_cons_of_neg (by simp [h0])]
    exact ⟨h.below, h.bx, kow, by rw [e]; exact h.lt, by rw [e]; exact h.nd⟩
  · have pm : (blocks L ((a, b, n, f) :: O)).Perm (b :: blocks L O) := by
      unfold blocks
      rw [List.filter_cons_of_pos (by simp [h0])]
      exact List.perm_middle
    obtain ⟨h2, h3⟩ := h1.resolve_left h0
    refine ⟨h.below, h.bx, kow, ?_, ?_⟩
    · intro c hc
      rcases List.mem_cons.1 (pm.mem_iff.1 hc) with rfl | hc
      · exact ⟨h2, ho.lt h0⟩
      · exact h.lt c hc
    · rw [pm.nodup_iff]
      exact List.nodup_cons.2 ⟨h3, h.nd⟩
/-- two lists are answered, both new -/
theorem St.own2 {w0 : World} {L : List BoxT} {O : List OwnT} {w w' : World} (h : St w0 L O w) (hb : Below w.heap.size w w') {a a' : Option Addr} {b n b' n' : Nat} {f f' : Nat → Value} (ho : OwV a b n f w') (h1 : n = 0 ∨ w.heap.size ≤ b)
    (ho' : OwV a' b' n' f' w') (h1' : n' = 0 ∨ w.heap.size ≤ b') (hne : n = 0 ∨ n' = 0 ∨ b ≠ b') : St w0 L ((a', b', n', f') :: (a, b, n, f) :: O) w' := by
  have k := h.own hb ho h1
  refine k.ownX ho' ?_
  by_cases h0 : n' = 0
  · exact .inl h0
  · have h2 := h1'.resolve_left h0
    refine .inr ⟨Nat.le_trans h.below.size h2, fun hm => ?_⟩
    have hO : ∀ c ∈ blocks L O, c < w.heap.size := fun c hc => (h.lt c hc).2
    by_cases hn : n = 0
    · have e : blocks L ((a, b, n, f) :: O) = blocks L O := by unfold blocks; rw [List.filter_cons_of_neg (by simp [hn])]
      rw [e] at hm
      have := hO _ hm
      omega
    · have pm : (blocks L ((a, b, n, f) :: O)).Perm (b :: blocks L O) := by
        unfold blocks
        rw [List.filter_cons_of_pos (by simp [hn])]
        exact List.perm_middle
      rcases List.mem_cons.1 (pm.mem_iff.1 hm) with e | hm
      · rcases hne with e1 | e1 | e1
        · exact hn e1
        · exact h0 e1
        · exact e1 e.symm
      · have := hO _ hm
        omega

end Go.Proofs.Ytjdbiaoheoialaa
