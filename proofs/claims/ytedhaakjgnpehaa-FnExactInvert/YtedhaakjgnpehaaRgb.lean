/- Boxes by their sizes, for regions that draw. -/
import Derived.Test.YtedhaakjgnpehaaRgi
import Derived.Test.YtedhaakjgnpehaaHom
import Derived.Deep.MidRow
namespace Go.Proofs.Ytedhaakjgnpehaa
open Go.RowKit

/-- a box that has just these cells -/
def BxZ (b : Nat) (vs : List Value) (w : World) : Prop := Bx b vs w ∧ ∃ arr t, w.heap[b]? = some (.cells arr t) ∧ arr.size = vs.length
theorem BxZ.new (vs : List Value) (t : TypeId) (w : World) : BxZ w.heap.size vs (w.alloc (.cells vs.toArray t)) := ⟨Bx.new vs t w, vs.toArray, t, heap_alloc_new w _, by simp⟩
theorem BxZ.lt {b : Nat} {vs : List Value} {w : World} (h : BxZ b vs w) : b < w.heap.size := by
  obtain ⟨-, arr, t, hh, -⟩ := h
  exact (Array.getElem?_eq_some_iff.1 hh).1
theorem BxZ.same {b : Nat} {vs : List Value} {w w' : World} (h : BxZ b vs w) (e : w'.heap[b]? = w.heap[b]?) : BxZ b vs w' := by
  obtain ⟨h1, arr, t, hh, hs⟩ := h
  exact ⟨fun j v hv => ⟨(World.cell?_of_block (a := ⟨b, j, none⟩) e).trans (h1 j v hv).1, (World.frozen?_of_block (a := ⟨b, j, none⟩) e).trans (h1 j v hv).2⟩, arr, t, e.trans hh, hs⟩
theorem BxZ.up {b : Nat} {vs : List Value} {w w' : World} (h : BxZ b vs w) (hb : Below w.heap.size w w') : BxZ b vs w' := h.same (hb.block b h.lt)
theorem BxZ.other {b : Nat} {vs : List Value} {w : World} (h : BxZ b vs w) (q : Addr) (hq : b ≠ q.block) (u : Value) : BxZ b vs (w.setCell q u) := h.same (Below.heap_setCell w q u b hq)
theorem BxZ.set {b : Nat} {vs : List Value} {w : World} (h : BxZ b vs w) (j : Nat) (v : Value) : BxZ b (vs.set j v) (w.setCell ⟨b, j, none⟩ v) := by
  obtain ⟨h1, arr, t, hh, hs⟩ := h
  exact ⟨h1.set j v, arr.setIfInBounds j v, t, heap_setCell_same w b j arr t v hh, by rw [Array.size_setIfInBounds, List.length_set]; exact hs⟩
theorem BxZ.ne {b b' : Nat} {vs vs' : List Value} {w : World} (h : BxZ b vs w) (h' : BxZ b' vs' w) (hl : vs.length ≠ vs'.length) : b ≠ b' := fun e => by
  subst e
  obtain ⟨-, arr, t, hh, hs⟩ := h
  obtain ⟨-, arr', t', hh', hs'⟩ := h'
  rw [hh] at hh'
  cases hh'
  omega
theorem BxZ.len {b : Nat} {vs vs' : List Value} {w : World} (h : BxZ b vs w) (h' : BxZ b vs' w) : vs.length = vs'.length := by
  obtain ⟨-, arr, t, hh, hs⟩ := h
  obtain ⟨-, arr', t', hh', hs'⟩ := h'
  rw [hh] at hh'
  cases hh'
  omega
theorem BxZ.there {b : Nat} {vs : List Value} {w : World} (h : BxZ b vs w) : w.there b 0 vs.length := fun j hj => by
  obtain ⟨h1, h2⟩ := h.1 j _ (List.getElem?_eq_getElem hj)
  rw [Nat.zero_add]
  exact ⟨by rw [h1]; rfl, h2⟩
/-- a box that lies there is taken in hand -/
theorem St.take {w0 : World} {L : List BoxT} {O : List OwnT} {w : World} (h : St w0 L O w) {b : Nat} {vs : List Value} (hx : BxZ b vs w) (hn : b ∉ blocks L O) (hg : w0.heap.size ≤ b) : St w0 ((b, vs) :: L) O w :=
  ⟨h.below, fun x hm => by
    rcases List.mem_cons.1 hm with rfl | hm
    · exact hx.1
    · exact h.bx x hm, h.ow, fun c hc => by
    rcases List.mem_cons.1 hc with rfl | hc
    · exact ⟨hg, hx.lt⟩
    · exact h.lt c hc, List.nodup_cons.2 ⟨hn, h.nd⟩⟩
theorem cellU {w w' : World} {x : Addr} {v : Value} (hb : Below w.heap.size w w') (h : w.cell? x = some v) : w'.cell? x = some v := (hb.cell (World.block_lt_of_cell? _ _ h)).trans h
theorem belowSets {B b : Nat} (hB : B ≤ b) : ∀ (vs : List Value) (o : Nat) {w0 w : World}, Below B w0 w → Below B w0 (w.setCells b o vs)
  | [], _, _, _, h => h
  | v :: vs, o, _, _, h => belowSets hB vs (o + 1) (h.setCell (p := ⟨b, o, none⟩) hB v)
theorem heapSets {b b' : Nat} (hb : b' ≠ b) : ∀ (vs : List Value) (o : Nat) (w : World), (w.setCells b o vs).heap[b']? = w.heap[b']?
  | [], _, _ => rfl
  | v :: vs, o, w => (heapSets hb vs (o + 1) (w.setCell ⟨b, o, none⟩ v)).trans (Below.heap_setCell w ⟨b, o, none⟩ v b' hb)
theorem BxZ.setsAt {b : Nat} : ∀ (l pre rest : List Value) (w : World), rest.length = l.length → BxZ b (pre ++ rest) w → BxZ b (pre ++ l) (w.setCells b pre.length l)
  | [], pre, rest, w, hl, h => by
    have : rest = [] := List.length_eq_zero_iff.1 hl
    subst this; exact h
  | v :: l, pre, rest, w, hl, h => by
    cases rest with
    | nil => simp at hl
    | cons r rest =>
      have h1 := h.set pre.length v
      have e : (pre ++ r :: rest).set pre.length v = (pre ++ [v]) ++ rest := by simp
      rw [e] at h1
      have h2 := BxZ.setsAt l (pre ++ [v]) rest _ (by simpa using hl) h1
      have e2 : pre ++ v :: l = (pre ++ [v]) ++ l := by simp
      rw [e2]
      have e3 : (pre ++ [v]).length = pre.length + 1 := by simp
      rw [e3] at h2
      exact h2
theorem BxZ.sets {b : Nat} {vs : List Value} {w : World} (h : BxZ b vs w) (l : List Value) (hl : vs.length = l.length) : BxZ b l (w.setCells b 0 l) := BxZ.setsAt l [] vs w hl h

end Go.Proofs.Ytedhaakjgnpehaa
