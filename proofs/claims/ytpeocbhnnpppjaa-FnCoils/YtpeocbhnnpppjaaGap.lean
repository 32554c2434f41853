/- An append onto a box's list inside a drawn region of a loop: in general form (kb lays the number, ka appends, S stores). -/
import Derived.Test.YtpeocbhnnpppjaaRgu
import Derived.Test.YtpeocbhnnpppjaaHom
import Derived.Deep.AppendLies
namespace Go.Proofs.Ytpeocbhnnpppjaa
open Go.RowKit

/-- is the list grown (told by its length) -/
def Grw (L : List Int) (v : Value) : Prop := ∃ a c, v = .slice a (L.length + 1) c
theorem own_nextG {w w' : World} {B n m : Nat} {e : TypeId} {v : Value} {xs : List Value} (h : w.ownsRow B e m v n xs) (hb : Below w.heap.size w w') : w'.ownsRow B e m v n xs := by
  have hl := h.lt
  obtain ⟨h1, h2⟩ := h
  refine ⟨h1, ?_⟩
  rcases h2 with h2 | ⟨g, cap, cur, hv, hB, hg, hr⟩
  · exact .inl h2
  · exact .inr ⟨g, cap, cur, hv, hB, (hb.block g (hl g (by rw [hv]; rfl)).2).trans hg, hr⟩
theorem own_farG {w : World} {B n m : Nat} {e : TypeId} {v : Value} {xs : List Value} (h : w.ownsRow B e m v n xs) {c k : Nat} (hc : c < B) (x : Value) : (w.setCell ⟨c, k, none⟩ x).ownsRow B e m v n xs := by
  obtain ⟨h1, h2⟩ := h
  refine ⟨h1, ?_⟩
  rcases h2 with h2 | ⟨g, cap, cur, hv, hB, hg, hr⟩
  · exact .inl h2
  · refine .inr ⟨g, cap, cur, hv, hB, ?_, hr⟩
    have k' : Kept c w (w.setCell ⟨c, k, none⟩ x) := (Kept.refl c w).setCell (a := ⟨c, k, none⟩) rfl x
    have hl : g < w.heap.size := by
      by_cases hl : g < w.heap.size
      · exact hl
      · rw [Array.getElem?_eq_none (by omega)] at hg; cases hg
    exact (k'.block g hl (by omega)).trans hg
def gR (ka S : Nat) (B : Nat) (wr : World) (L : List Int) (af : Option Addr) (cf : Nat) (u : Nat → Value) (w : World) : Prop :=
  u S = undef → Below B wr w ∧ (w.ownsRow B 2 1 (.slice af L.length cf) L.length (ints L) ∨ Grw L (u ka))
def gF (kb ka S : Nat) (B : Nat) (wr : World) (L : List Int) (q fo : Nat) (y : Int) (G : Nat → Value → Prop) (j : Nat) (u : Nat → Value) (w : World) : Prop :=
  G j (u j) ∧ (j = kb → u S ≠ undef ∨ Grw L (u ka) ∨ ∃ b, u kb = .slice (some ⟨b, 0, none⟩) 1 1 ∧ B ≤ b ∧ w.heap[b]? = some (.cells #[.int .i64 y] 2)) ∧
  (j = ka → u S ≠ undef ∨ ∃ a c, u ka = .slice a (L.length + 1) c ∧ w.ownsRow B 2 1 (.slice a (L.length + 1) c) (L.length + 1) (ints (L ++ [y]))) ∧
  (j = S → ∃ w1 a c, w = w1.setCell ⟨q, fo, none⟩ (.slice a (L.length + 1) c) ∧ Below B wr w1 ∧ w1.ownsRow B 2 1 (.slice a (L.length + 1) c) (L.length + 1) (ints (L ++ [y])) ∧ u ka = .slice a (L.length + 1) c)
theorem gR_up {ka S B : Nat} {wr : World} {L : List Int} {af : Option Addr} {cf : Nat} {u : Nat → Value} {w w' : World} (hB : B ≤ w.heap.size) (h : gR ka S B wr L af cf u w) (hb : Below w.heap.size w w') (i : Nat) (hka : ka ≠ i) (hS : S ≠ i) (v : Value) : gR ka S B wr L af cf (upU u i v) w' := by
  intro h0
  rw [upU_other u v hS] at h0
  rw [upU_other u v hka]
  obtain ⟨h1, h2⟩ := h h0
  exact ⟨h1.trans (hb.mono hB), h2.imp (fun h => own_nextG h hb) id⟩
theorem gF_up {kb ka S B : Nat} {wr : World} {L : List Int} {q fo : Nat} {y : Int} {G : Nat → Value → Prop} {u : Nat → Value} {w w' : World} (hb : Below w.heap.size w w') (i : Nat) (hka : ka ≠ i) (hS : S ≠ i) (v : Value) (j : Nat) (hj : j ≠ i) (hjS : j ≠ S) (h : gF kb ka S B wr L q fo y G j u w) : gF kb ka S B wr L q fo y G j (upU u i v) w' := by
  obtain ⟨h1, h2, h3, h4⟩ := h
  refine ⟨by rw [upU_other u v hj]; exact h1, fun e => ?_, fun e => ?_, fun e => absurd e hjS⟩
  · rw [upU_other u v hS, upU_other u v hka, upU_other u v (show kb ≠ i from fun e' => hj (e.trans e'))]
    rcases h2 e with g | g | ⟨b, g1, g2, g3⟩
    · exact .inl g
    · exact .inr (.inl g)
    · exact .inr (.inr ⟨b, g1, g2, (hb.block b (by
        by_cases hl : b < w.heap.size
        · exact hl
        · rw [Array.getElem?_eq_none (by omega)] at g3; cases g3)).trans g3⟩)
  · rw [upU_other u v hS, upU_other u v hka]
    rcases h3 e with g | ⟨a, c, g1, g2⟩
    · exact .inl g
    · exact .inr ⟨a, c, g1, own_nextG g2 hb⟩
theorem gF_gr {kb ka S B : Nat} {wr : World} {L : List Int} {q fo : Nat} {y : Int} {G : Nat → Value → Prop} {u : Nat → Value} {w w' : World} {v : Value} (hv : Grw L v) (j : Nat) (hj : j ≠ ka) (hjS : j ≠ S) (h : gF kb ka S B wr L q fo y G j u w) : gF kb ka S B wr L q fo y G j (upU u ka v) w' :=
  ⟨by rw [upU_other u v hj]; exact h.1, fun _ => .inr (.inl (by rw [upU_same]; exact hv)), fun e => absurd e hj, fun e => absurd e hjS⟩
theorem gF_st {kb ka S B : Nat} {wr : World} {L : List Int} {q fo : Nat} {y : Int} {G : Nat → Value → Prop} {u : Nat → Value} {w w' : World} {v : Value} (hv : v ≠ undef) (j : Nat) (hj : j ≠ S) (h : gF kb ka S B wr L q fo y G j u w) : gF kb ka S B wr L q fo y G j (upU u S v) w' :=
  ⟨by rw [upU_other u v hj]; exact h.1, fun _ => .inl (by rw [upU_same]; exact hv), fun _ => .inl (by rw [upU_same]; exact hv), fun e => absurd e hj⟩

end Go.Proofs.Ytpeocbhnnpppjaa
