/- A function whose loop holds a range over a function: the marks that its rounds leave; what a law keeps in hand while blocks that are no cells turn. -/
import Derived.Test.YtcdklkebedpmnaaHol
import Derived.Test.YtcdklkebedpmnaaRfl
import Derived.Test.YtcdklkebedpmnaaHom
namespace Go.Proofs.Ytcdklkebedpmnaa
open Go.RowKit

/-- all blocks that there were, but those of S, are as they were -/
structure KpS (S : Nat → Prop) (w w' : World) : Prop where
  os : w'.os = w.os
  tape : w'.tape = w.tape
  output : w'.output = w.output
  size : w.heap.size ≤ w'.heap.size
  block : ∀ b, b < w.heap.size → ¬ S b → w'.heap[b]? = w.heap[b]?
theorem KpS.of_below {S : Nat → Prop} {w w' : World} (h : Below w.heap.size w w') : KpS S w w' := ⟨h.os, h.tape, h.output, h.size, fun k hk _ => h.block k hk⟩
theorem KpS.refl (S : Nat → Prop) (w : World) : KpS S w w := KpS.of_below (Below.refl _ _)
theorem KpS.next {S : Nat → Prop} {a b c : World} (h : KpS S a b) (k : Below b.heap.size b c) : KpS S a c :=
  ⟨k.os.trans h.os, k.tape.trans h.tape, k.output.trans h.output, Nat.le_trans h.size k.size, fun j hj hp => (k.block j (Nat.lt_of_lt_of_le hj h.size)).trans (h.block j hj hp)⟩
theorem KpS.trans {S : Nat → Prop} {a b c : World} (h : KpS S a b) (k : KpS S b c) : KpS S a c :=
  ⟨k.os.trans h.os, k.tape.trans h.tape, k.output.trans h.output, Nat.le_trans h.size k.size, fun j hj hp => (k.block j (Nat.lt_of_lt_of_le hj h.size) hp).trans (h.block j hj hp)⟩
theorem KpS.after {S : Nat → Prop} {a b c : World} (h : Below a.heap.size a b) (k : KpS S b c) : KpS S a c := (KpS.of_below h).trans k
theorem KpS.setCell {S : Nat → Prop} {w w' : World} (h : KpS S w w') {a : Addr} (hp : S a.block) (v : Value) : KpS S w (w'.setCell a v) := by
  have k : Kept a.block w' (w'.setCell a v) := (Kept.refl _ _).setCell rfl v
  exact ⟨k.os.trans h.os, k.tape.trans h.tape, k.output.trans h.output, Nat.le_trans h.size k.size, fun j hj hs => (k.block j (Nat.lt_of_lt_of_le hj h.size) (fun e => hs (e ▸ hp))).trans (h.block j hj hs)⟩
theorem KpS.drew {S : Nat → Prop} {w w' : World} (h : KpS S w w') : KpS S w w'.drew := ⟨h.os, h.tape, h.output, h.size, h.block⟩
theorem KpS.below {S : Nat → Prop} {B : Nat} {w w' : World} (h : KpS S w w') (h1 : ∀ b, S b → B ≤ b) (h2 : B ≤ w.heap.size) : Below B w w' :=
  ⟨h.os, h.tape, h.output, h.size, fun k hk => h.block k (Nat.lt_of_lt_of_le hk h2) (fun hs => Nat.lt_irrefl _ (Nat.lt_of_lt_of_le hk (h1 k hs)))⟩
/-- as a block of its own -/
theorem KpS.kp {S : Nat → Prop} {b : Nat} {w w' : World} (h : KpS S w w') (hs : ¬ S b) (hb : b < w.heap.size) : w'.heap[b]? = w.heap[b]? := h.block b hb hs
theorem KpS.bx {S : Nat → Prop} {b : Nat} {vs : List Value} {w w' : World} (h : KpS S w w') (hs : ¬ S b) (hb : b < w.heap.size) (hx : Bx b vs w) : Bx b vs w' := fun j v hv => by
  have e := h.block b hb hs
  have q := hx j v hv
  refine ⟨?_, ?_⟩
  · rw [World.cell?_of_block (w := w) (a := ⟨b, j, none⟩) e]; exact q.1
  · rw [World.frozen?_of_block (w := w) (a := ⟨b, j, none⟩) e]; exact q.2
theorem KpS.px {S : Nat → Prop} {a : Option Addr} {n : Nat} {f : Nat → Int} {w w' : World} (h : KpS S w w') (hs : ∀ b off, a = some ⟨b, off, none⟩ → ¬ S b) (hx : Px a n f w) : Px a n f w' := by
  rcases hx with hx | ⟨b, off, ha, hx⟩
  · exact .inl hx
  · refine .inr ⟨b, off, ha, fun k hk => ?_⟩
    have q := hx k hk
    rw [World.cell?_of_block (w := w) (a := ⟨b, off + k, none⟩) (h.block b (World.block_lt_of_cell? w _ q) (hs b off ha))]
    exact q
theorem owns_same {w w' : World} {B n m : Nat} {e : TypeId} {v : Value} {xs : List Value} (h : w.ownsRow B e m v n xs) (hk : ∀ b, v.ownBlock = some b → w'.heap[b]? = w.heap[b]?) : w'.ownsRow B e m v n xs := by
  obtain ⟨h1, h2⟩ := h
  refine ⟨h1, ?_⟩
  rcases h2 with h2 | ⟨b', cap', cur, hv, hB, hh, hn, hc, hs, ht⟩
  · exact .inl h2
  · exact .inr ⟨b', cap', cur, hv, hB, by rw [hk b' (by rw [hv]; rfl)]; exact hh, hn, hc, hs, ht⟩

end Go.Proofs.Ytcdklkebedpmnaa

namespace Go.Proofs.Ytcdklkebedpmnaa
open Go.RowKit Go.Shelf

/-- the marks among the deferred calls -/
def marks (Ds : List Nat) : List Deferred := Ds.map fun D => { target := .collected D, args := #[] }
theorem marks_cons (D : Nat) (Ds : List Nat) : ({ target := .collected D, args := #[] } : Deferred) :: marks Ds = marks (D :: Ds) := rfl
/-- their blocks lie open -/
def KM (Ds : List Nat) (W : World) : Prop := ∀ D ∈ Ds, W.heap[D]? = some (.deferred (some []))
theorem KM.nil (W : World) : KM [] W := fun _ h => (by cases h)
theorem KM.lt {Ds : List Nat} {W : World} (h : KM Ds W) {D : Nat} (hD : D ∈ Ds) : D < W.heap.size := (Array.getElem?_eq_some_iff.1 (h D hD)).1
theorem KM.next {Ds : List Nat} {W W' : World} (h : KM Ds W) (hb : Below W.heap.size W W') : KM Ds W' := fun D hD => (hb.block D (h.lt hD)).trans (h D hD)
theorem KM.drew {Ds : List Nat} {W : World} (h : KM Ds W) : KM Ds W.drew := h
theorem KM.set {Ds : List Nat} {W : World} (h : KM Ds W) {a : Addr} {v : Value} (hc : W.cell? a = some v) (x : Value) : KM Ds (W.setCell a x) := fun D hD => by
  refine (Below.heap_setCell W a x D (fun e => ?_)).trans (h D hD)
  subst e
  obtain ⟨o, ho, hc'⟩ := cells_of_cell hc
  rw [h _ hD] at ho
  cases ho
  cases hc'
theorem KM.cons {Ds : List Nat} {W : World} (h : KM Ds W) {D : Nat} (hD : W.heap[D]? = some (.deferred (some []))) : KM (D :: Ds) W := fun x hx => by
  rcases List.mem_cons.1 hx with rfl | hx
  · exact hD
  · exact h x hx
theorem ownFrom_KM {β : Type} {B : Nat} {Ds : List Nat} (hB : ∀ D ∈ Ds, D < B) : OwnFrom B (fun (_ : β) W => KM Ds W) := fun _ _ _ _ hs hg hr D hD =>
  (hg.block D (hs.lt hD) (fun e => by have := (hr D e.symm).1; have := hB D hD; omega)).trans (hs D hD)
/-- the function's return, its marks behind it -/
theorem leaves_marks {F : Fence} {n : Nat} {P : Program} {fn : Func} {tmps : Array Value} {R : Ending → World → Prop} (I : World → Prop) {B : Nat}
    (hI : ∀ W D, I W → B ≤ D → W.heap[D]? = some (.deferred (some [])) → I (W.putObj D (.deferred none)))
    (hend : ∀ W, I W → LeavesInM F n P fn tmps R [] .returning W) : ∀ (Ds : List Nat) (W : World), KM Ds W → (∀ D ∈ Ds, B ≤ D) → Ds.Nodup → I W → LeavesInM F n P fn tmps R (marks Ds) .returning W
  | [], W, _, _, _, h => hend W h
  | D :: Ds, W, hk, hB, hn, h => by
    have hD := hk D (List.mem_cons_self ..)
    refine ⟨by simp, .inl ⟨D, _, rfl, run_takeDeferred hD, ?_⟩⟩
    refine leaves_marks I hI hend Ds _ (fun x hx => ?_) (fun x hx => hB x (List.mem_cons_of_mem _ hx)) (List.nodup_cons.1 hn).2 (hI _ _ h (hB D (List.mem_cons_self ..)) hD)
    exact (World.putObj_heap_other (fun e => (List.nodup_cons.1 hn).1 (by rw [← e]; exact hx))).trans (hk x (List.mem_cons_of_mem _ hx))

/-- a block that is no cells turns: what is in hand stays -/
theorem St.grown {w0 : World} {L : List BoxT} {O : List OwnT} {W W' : World} {row : Option Nat} (h : St w0 L O W) (hg : W.grownBy W' row) (hr : ∀ r, row = some r → w0.heap.size ≤ r ∧ ∃ o : Obj, W.heap[r]? = some o ∧ o.isCells = false) : St w0 L O W' := by
  have hr2 : ∀ r, row = some r → ∃ o : Obj, W.heap[r]? = some o ∧ o.isCells = false := fun r e => (hr r e).2
  refine ⟨h.below.grown hg h.below.size (fun k e => (hr k e).1), fun x hx j v hv => ?_, fun x hx => ?_, fun b hb => ⟨(h.lt b hb).1, Nat.lt_of_lt_of_le (h.lt b hb).2 hg.size⟩, h.nd⟩
  · have q := h.bx x hx j v hv
    exact ⟨cell_kept q.1 hg hr2, (frozen_kept q.1 hg hr2).trans q.2⟩
  · rcases h.ow x hx with q | ⟨q1, q2⟩
    · exact .inl q
    · exact .inr ⟨q1, fun k hk => ⟨cell_kept (q2 k hk).1 hg hr2, (frozen_kept (q2 k hk).1 hg hr2).trans (q2 k hk).2⟩⟩
theorem ownFrom_st {β : Type} {w0 : World} {B : Nat} (L : β → List BoxT) (O : β → List OwnT) (hB : w0.heap.size ≤ B) : OwnFrom B (fun (s : β) W => St w0 (L s) (O s) W) := fun _ _ _ _ hs hg hr =>
  hs.grown hg (fun r e => ⟨Nat.le_trans hB (hr r e).1, (hr r e).2⟩)
theorem St.put {w0 : World} {L : List BoxT} {O : List OwnT} {W : World} {D : Nat} {o : Obj} (h : St w0 L O W) (hD : w0.heap.size ≤ D) (ho : W.heap[D]? = some o) (hc : o.isCells = false) (o' : Obj) : St w0 L O (W.putObj D o') :=
  h.grown (grownBy_putObj' W D o') (fun r e => by cases e; exact ⟨hD, o, ho, hc⟩)
theorem KpS.grown {S : Nat → Prop} {w W W' : World} {row : Option Nat} (h : KpS S w W) (hg : W.grownBy W' row) (hr : ∀ r, row = some r → w.heap.size ≤ r) : KpS S w W' :=
  ⟨hg.os.trans h.os, hg.tape.trans h.tape, hg.output.trans h.output, Nat.le_trans h.size hg.size, fun b hb hs => (hg.block b (Nat.lt_of_lt_of_le hb h.size) (fun e => by have := hr b e.symm; omega)).trans (h.block b hb hs)⟩
theorem ownFrom_kps {β : Type} {S : Nat → Prop} {w : World} {B : Nat} (hB : w.heap.size ≤ B) : OwnFrom B (fun (_ : β) W => KpS S w W) := fun _ _ _ _ hs hg hr => hs.grown hg (fun r e => Nat.le_trans hB (hr r e).1)
theorem KpS.put {S : Nat → Prop} {w W : World} {D : Nat} (h : KpS S w W) (hD : w.heap.size ≤ D) (o : Obj) : KpS S w (W.putObj D o) := h.grown (grownBy_putObj' W D o) (fun r e => by cases e; exact hD)

end Go.Proofs.Ytcdklkebedpmnaa
