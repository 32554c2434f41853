/- A region that draws, in which two boxes of different sizes are made and filled: in general form. -/
import Derived.Test.YtjdbiaoheoialaaRgi
import Derived.Test.YtjdbiaoheoialaaHom
import Derived.Deep.MidRow
import Derived.Test.YtjdbiaoheoialaaRgv
namespace Go.Proofs.Ytjdbiaoheoialaa
open Go.RowKit

/-- a box that has just these cells -/
def BxZ (b : Nat) (vs : List Value) (w : World) : Prop := Bx b vs w ∧ ∃ arr t, w.heap[b]? = some (.cells arr t) ∧ arr.size = vs.length
theorem BxZ.new (vs : List Value) (t : TypeId) (w : World) : BxZ w.heap.size vs (w.alloc (.cells vs.toArray t)) := ⟨Bx.new vs t w, vs.toArray, t, heap_alloc_new w _, by simp⟩
theorem BxZ.lt {b : Nat} {vs : List Value} {w : World} (h : BxZ b vs w) : b < w.heap.size := by
  obtain ⟨-, arr, t, hh, -⟩ := h
  exact (Array.getElem?_eq_some_iff.1 hh).1
theorem BxZ.same {b : Nat} {vs : List Value} {w w' : World} (h : BxZ b vs w) (e : w'.heap[b]? = w.heap[b]?) : BxZ b vs w' := by
  obtain ⟨h1, arr, t, hh, hs⟩ := h
  exact ⟨fun j v hv => ⟨(World.cell?_of_block (a := ⟨b, j, none⟩) e).trans (h1 j v hv).1, (World.frozen?_of_block (a := ⟨b, j, none⟩) e).trans (h1 j v hv).2⟩, arr, t, e.trans hh, hs⟩
theorem BxZ.up {b : Nat} {vs : List Value} {w w' : World} (h : BxZ b vs w) (hb : Below w.heap.size w w') : BxZ b vs w' := h.same (hb.block b h.lt)
theorem BxZ.other {b : Nat} {vs : List Value} {w : World} (h : BxZ b vs w) (q : Addr) (hq : b ≠ q.block) (u : Value) : BxZ b vs (w.setCell q u) := h.same (Below.heap_setCell w q u b hq)
theorem BxZ.set {b : Nat} {vs : List Value} {w : World} (h : BxZ b vs w) (j : Nat) (v : Value) : BxZ b (vs.set j v) (w.setCell ⟨b, j, none⟩ v) := by
  obtain ⟨h1, arr, t, hh, hs⟩ := h
  exact ⟨h1.set j v, arr.setIfInBounds j v, t, heap_setCell_same w b j arr t v hh, by rw [Array.size_setIfInBounds, List.length_set]; exact hs⟩
theorem BxZ.ne {b b' : Nat} {vs vs' : List Value} {w : World} (h : BxZ b vs w) (h' : BxZ b' vs' w) (hl : vs.length ≠ vs'.length) : b ≠ b' := fun e => by
  subst e
  obtain ⟨-, arr, t, hh, hs⟩ := h
  obtain ⟨-, arr', t', hh', hs'⟩ := h'
  rw [hh] at hh'
  cases hh'
  omega
theorem BxZ.len {b : Nat} {vs vs' : List Value} {w : World} (h : BxZ b vs w) (h' : BxZ b vs' w) : vs.length = vs'.length := by
  obtain ⟨-, arr, t, hh, hs⟩ := h
  obtain ⟨-, arr', t', hh', hs'⟩ := h'
  rw [hh] at hh'
  cases hh'
  omega
theorem BxZ.there {b : Nat} {vs : List Value} {w : World} (h : BxZ b vs w) : w.there b 0 vs.length := fun j hj => by
  obtain ⟨h1, h2⟩ := h.1 j _ (List.getElem?_eq_getElem hj)
  rw [Nat.zero_add]
  exact ⟨by rw [h1]; rfl, h2⟩
/-- a box that lies there is taken in hand -/
theorem St.take {w0 : World} {L : List BoxT} {O : List OwnT} {w : World} (h : St w0 L O w) {b : Nat} {vs : List Value} (hx : BxZ b vs w) (hn : b ∉ blocks L O) (hg : w0.heap.size ≤ b) : St w0 ((b, vs) :: L) O w :=
  ⟨h.below, fun x hm => by
    rcases List.mem_cons.1 hm with rfl | hm
    · exact hx.1
    · exact h.bx x hm, h.ow, fun c hc => by
    rcases List.mem_cons.1 hc with rfl | hc
    · exact ⟨hg, hx.lt⟩
    · exact h.lt c hc, List.nodup_cons.2 ⟨hn, h.nd⟩⟩
theorem cellU {w w' : World} {x : Addr} {v : Value} (hb : Below w.heap.size w w') (h : w.cell? x = some v) : w'.cell? x = some v := (hb.cell (World.block_lt_of_cell? _ _ h)).trans h
theorem belowSets {B b : Nat} (hB : B ≤ b) : ∀ (vs : List Value) (o : Nat) {w0 w : World}, Below B w0 w → Below B w0 (w.setCells b o vs)
  | [], _, _, _, h => h
  | v :: vs, o, _, _, h => belowSets hB vs (o + 1) (h.setCell (p := ⟨b, o, none⟩) hB v)
theorem heapSets {b b' : Nat} (hb : b' ≠ b) : ∀ (vs : List Value) (o : Nat) (w : World), (w.setCells b o vs).heap[b']? = w.heap[b']?
  | [], _, _ => rfl
  | v :: vs, o, w => (heapSets hb vs (o + 1) (w.setCell ⟨b, o, none⟩ v)).trans (Below.heap_setCell w ⟨b, o, none⟩ v b' hb)
theorem BxZ.setsAt {b : Nat} : ∀ (l pre rest : List Value) (w : World), rest.length = l.length → BxZ b (pre ++ rest) w → BxZ b (pre ++ l) (w.setCells b pre.length l)
  | [], pre, rest, w, hl, h => by
    have : rest = [] := List.length_eq_zero_iff.1 hl
    subst this; exact h
  | v :: l, pre, rest, w, hl, h => by
    cases rest with
    | nil => simp at hl
    | cons r rest =>
      have h1 := h.set pre.length v
      have e : (pre ++ r :: rest).set pre.length v = (pre ++ [v]) ++ rest := by simp
      rw [e] at h1
      have h2 := BxZ.setsAt l (pre ++ [v]) rest _ (by simpa using hl) h1
      have e2 : pre ++ v :: l = (pre ++ [v]) ++ l := by simp
      rw [e2]
      have e3 : (pre ++ [v]).length = pre.length + 1 := by simp
      rw [e3] at h2
      exact h2
theorem BxZ.sets {b : Nat} {vs : List Value} {w : World} (h : BxZ b vs w) (l : List Value) (hl : vs.length = l.length) : BxZ b l (w.setCells b 0 l) := BxZ.setsAt l [] vs w hl h

end Go.Proofs.Ytjdbiaoheoialaa

namespace Go.Proofs.Ytjdbiaoheoialaa
open Go.RowKit

/-- the two boxes: where they are made, where they are filled, with what -/
structure TwoB where
  A1 : Nat
  A2 : Nat
  S1 : Nat
  S2 : Nat
  n1 : Nat
  n2 : Nat
  L1 : List Value
  L2 : List Value
/-- what each operation leaves -/
def bxF (b : TwoB) (wB : World) (G : Nat → Value → Prop) (j : Nat) (u : Nat → Value) (w : World) : Prop :=
  G j (u j) ∧
  (j = b.A1 → ∃ M vs, u b.A1 = .pointer (some ⟨M, 0, none⟩) ∧ wB.heap.size ≤ M ∧ vs.length = b.n1 ∧ BxZ M vs w) ∧
  (j = b.A2 → ∃ P vs, u b.A2 = .pointer (some ⟨P, 0, none⟩) ∧ wB.heap.size ≤ P ∧ vs.length = b.n2 ∧ BxZ P vs w) ∧
  (j = b.S1 → ∃ M, u b.A1 = .pointer (some ⟨M, 0, none⟩) ∧ BxZ M b.L1 w) ∧
  (j = b.S2 → ∃ P, u b.A2 = .pointer (some ⟨P, 0, none⟩) ∧ BxZ P b.L2 w)
theorem bxF_val {b : TwoB} {wB : World} {G : Nat → Value → Prop} {j : Nat} {u : Nat → Value} {w : World} {v : Value} (h : G j v) (h1 : j ≠ b.A1) (h2 : j ≠ b.A2) (h3 : j ≠ b.S1) (h4 : j ≠ b.S2) : bxF b wB G j (upU u j v) w :=
  ⟨by rw [upU_same]; exact h, fun e => absurd e h1, fun e => absurd e h2, fun e => absurd e h3, fun e => absurd e h4⟩
theorem bxF_up {b : TwoB} {wB : World} {G : Nat → Value → Prop} {u : Nat → Value} {w w' : World} (hb : Below w.heap.size w w') (i : Nat) (v : Value) (j : Nat) (hj : j ≠ i) (h1 : j = b.S1 → i ≠ b.A1) (h2 : j = b.S2 → i ≠ b.A2) (h : bxF b wB G j u w) : bxF b wB G j (upU u i v) w' := by
  obtain ⟨k0, k1, k2, k3, k4⟩ := h
  have up : ∀ k, k ≠ i → upU u i v k = u k := fun k hk => upU_other u v hk
  refine ⟨by rw [up j hj]; exact k0, fun e => ?_, fun e => ?_, fun e => ?_, fun e => ?_⟩
  · obtain ⟨M, vs, a1, a2, a3, a4⟩ := k1 e
    exact ⟨M, vs, (up _ (fun e' => hj (e.trans e'))).trans a1, a2, a3, a4.up hb⟩
  · obtain ⟨M, vs, a1, a2, a3, a4⟩ := k2 e
    exact ⟨M, vs, (up _ (fun e' => hj (e.trans e'))).trans a1, a2, a3, a4.up hb⟩
  · obtain ⟨M, a1, a4⟩ := k3 e
    exact ⟨M, (up _ (Ne.symm (h1 e))).trans a1, a4.up hb⟩
  · obtain ⟨M, a1, a4⟩ := k4 e
    exact ⟨M, (up _ (Ne.symm (h2 e))).trans a1, a4.up hb⟩
/-- a box of another size is written -/
theorem bxF_put {b : TwoB} {wB : World} {G : Nat → Value → Prop} {u : Nat → Value} {w w' : World} {M P : Nat} (hM : u b.A1 = .pointer (some ⟨M, 0, none⟩)) (hP : u b.A2 = .pointer (some ⟨P, 0, none⟩)) (i : Nat) (hi : i = b.S1 ∨ i = b.S2) (n1 : b.A1 ≠ i) (n2 : b.A2 ≠ i) (v : Value)
    (kM : ∀ vs, BxZ M vs w → ∃ vs', vs'.length = vs.length ∧ BxZ M vs' w' ∧ (i = b.S2 → vs' = vs)) (kP : ∀ vs, BxZ P vs w → ∃ vs', vs'.length = vs.length ∧ BxZ P vs' w' ∧ (i = b.S1 → vs' = vs)) (j : Nat) (hj : j ≠ i) (h : bxF b wB G j u w) : bxF b wB G j (upU u i v) w' := by
  obtain ⟨h0, h1, h2, h3, h4⟩ := h
  have up : ∀ k, k ≠ i → upU u i v k = u k := fun k hk => upU_other u v hk
  refine ⟨by rw [up j hj]; exact h0, fun e => ?_, fun e => ?_, fun e => ?_, fun e => ?_⟩
  · obtain ⟨M', vs, a1, a2, a3, a4⟩ := h1 e
    rw [hM] at a1
    cases a1
    obtain ⟨vs', b1, b2, -⟩ := kM vs a4
    exact ⟨M, vs', (up _ n1).trans hM, a2, b1.trans a3, b2⟩
  · obtain ⟨P', vs, a1, a2, a3, a4⟩ := h2 e
    rw [hP] at a1
    cases a1
    obtain ⟨vs', b1, b2, -⟩ := kP vs a4
    exact ⟨P, vs', (up _ n2).trans hP, a2, b1.trans a3, b2⟩
  · obtain ⟨M', a1, a4⟩ := h3 e
    rw [hM] at a1
    cases a1
    obtain ⟨vs', -, b2, b3⟩ := kM _ a4
    rw [b3 (hi.resolve_left (fun h => hj (e.trans h.symm)))] at b2
    exact ⟨M, (up _ n1).trans hM, b2⟩
  · obtain ⟨P', a1, a4⟩ := h4 e
    rw [hP] at a1
    cases a1
    obtain ⟨vs', -, b2, b3⟩ := kP _ a4
    rw [b3 (hi.resolve_right (fun h => hj (e.trans h.symm)))] at b2
    exact ⟨P, (up _ n2).trans hP, b2⟩
/-- the end: both boxes are taken in hand -/
theorem bxF_end {b : TwoB} {w0 wB : World} {L : List BoxT} {O : List OwnT} {G : Nat → Value → Prop} {u : Nat → Value} {w : World} (hs : St w0 L O wB) (hb : Below wB.heap.size wB w) (h1 : bxF b wB G b.A1 u w) (h2 : bxF b wB G b.A2 u w) (h3 : bxF b wB G b.S1 u w) (h4 : bxF b wB G b.S2 u w) (hl : b.L1.length ≠ b.L2.length) :
    ∃ M P, u b.A1 = .pointer (some ⟨M, 0, none⟩) ∧ u b.A2 = .pointer (some ⟨P, 0, none⟩) ∧ St w0 ((P, b.L2) :: (M, b.L1) :: L) O w := by
  obtain ⟨M, hM1, hM2⟩ := h3.2.2.2.1 rfl
  obtain ⟨P, hP1, hP2⟩ := h4.2.2.2.2 rfl
  obtain ⟨M', vs, hm1, hm2, -, -⟩ := h1.2.1 rfl
  obtain ⟨P', ps, hp1, hp2, -, -⟩ := h2.2.2.1 rfl
  rw [hM1] at hm1
  rw [hP1] at hp1
  cases hm1
  cases hp1
  have hMP : P ≠ M := hP2.ne hM2 (Ne.symm hl)
  have hMn : M ∉ blocks L O := fun h => by have := (hs.lt M h).2; omega
  have hPn : P ∉ blocks L O := fun h => by have := (hs.lt P h).2; omega
  have hw3 := hs.below.size
  refine ⟨M, P, hM1, hP1, ((hs.next hb).take hM2 hMn (by omega)).take hP2 (fun h => ?_) (by omega)⟩
  rcases List.mem_cons.1 h with h | h
  · exact hMP h
  · exact hPn h

end Go.Proofs.Ytjdbiaoheoialaa
