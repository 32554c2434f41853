/- Lists of the call's own, by their lists. -/
import Derived.Test.YtcdpnofjahdieaaIls
namespace Go.Proofs.Ytcdpnofjahdieaa
open Go.RowKit

/-- a list of numbers of the call's own, by its list -/
theorem own_partsL {w : World} {B n : Nat} {v : Value} {L : List Int} (h : w.ownsRow B 2 1 v n (ints L)) (hn : 0 < n) :
    ∃ b cap, v = .slice (some ⟨b, 0, none⟩) n cap ∧ B ≤ b ∧ ∀ k, k < n → w.cell? ⟨b, k, none⟩ = some (.int .i64 (L.getD k 0)) ∧ w.frozen? ⟨b, k, none⟩ = false := by
  obtain ⟨a, cap, b, hv, ho, hB, _⟩ := ow_of_some h hn
  rcases ho with h0 | ⟨ha, hr⟩
  · omega
  · exact ⟨b, cap, by rw [hv, ha], hB, fun k hk => hr k (by omega)⟩
theorem own_setL {w : World} {B n b cap : Nat} {L : List Int} (h : w.ownsRow B 2 1 (.slice (some ⟨b, 0, none⟩) n cap) n (ints L)) (k : Nat) (z : Int) :
    (w.setCell ⟨b, k, none⟩ (.int .i64 z)).ownsRow B 2 1 (.slice (some ⟨b, 0, none⟩) n cap) n (ints (L.set k z)) := by
  obtain ⟨h1, h2⟩ := h
  refine ⟨by rw [ints_length] at h1 ⊢; rw [List.length_set]; exact h1, ?_⟩
  rcases h2 with ⟨hv, _⟩ | ⟨b', cap', cur, hv, hB, hh, hn, hc, hs, ht⟩
  · cases hv
  · cases hv
    refine .inr ⟨b, cap, cur.setIfInBounds k (.int .i64 z), rfl, hB, ?_, hn, hc, by rw [Array.size_setIfInBounds]; exact hs, ?_⟩
    · rw [heap_setCell_same w b k cur 2 _ hh]
    · rw [Array.toList_setIfInBounds, List.take_set, ht]
      unfold ints
      rw [List.map_set]
theorem growL (w : World) {ops : Array Oper} {rest : List Oper} {o : Oper} {a : Act} {Q : Exit → Act → World → Prop} (hgd : o.guard = none) (s x : Operand)
    (ho : o.op = .call { callee := .builtin .append, args := #[s, x], argTypes := #[95, 95] }) (B : Nat) (v : Value) (n : Nat) (L : List Int) (hs : a.eval s = v) (w0 : World) (hown : w.ownsRow B 2 1 v n (ints L))
    (hb : Below B w0 w) (hB : B ≤ w.heap.size) (z : Int) (hx : a.eval x = .slice (some ⟨w.heap.size, 0, none⟩) 1 1) (hn : n ≤ 1048576)
    (h : ∀ v' w', w'.ownsRow B 2 1 v' (n + 1) (ints (L ++ [z])) → Below B w0 w' → w.heap.size < w'.heap.size → wpList Try.prog ops Q rest (a.put o.dst v') w') :
    wpList Try.prog ops Q (o :: rest) a (w.alloc (.cells #[.int .i64 z] 2)) := by
  obtain ⟨ti, hi1, hi2, hi3, hi4⟩ := info2
  exact grow w hgd s x 95 ho B 2 ti (.int .i64 0) 1 8 Try.underlying95 hi1 hi2 hi3 hi4 rfl (by omega) v n L hs w0 hown hb hB [z] 1 1 hx rfl (by unfold maxLen; omega) (by omega) h

end Go.Proofs.Ytcdpnofjahdieaa
