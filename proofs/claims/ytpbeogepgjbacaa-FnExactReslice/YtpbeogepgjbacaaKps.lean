/- What a call leaves as it was: all blocks but those of a set. -/
import Derived.Test.YtpbeogepgjbacaaHol
namespace Go.Proofs.Ytpbeogepgjbacaa
open Go.RowKit

/-- all blocks that there were, but those of S, are as they were -/
structure KpS (S : Nat → Prop) (w w' : World) : Prop where
  os : w'.os = w.os
  tape : w'.tape = w.tape
  output : w'.output = w.output
  size : w.heap.size ≤ w'.heap.size
  block : ∀ b, b < w.heap.size → ¬ S b → w'.heap[b]? = w.heap[b]?
theorem KpS.of_below {S : Nat → Prop} {w w' : World} (h : Below w.heap.size w w') : KpS S w w' := ⟨h.os, h.tape, h.output, h.size, fun k hk _ => h.block k hk⟩
theorem KpS.refl (S : Nat → Prop) (w : World) : KpS S w w := KpS.of_below (Below.refl _ _)
theorem KpS.next {S : Nat → Prop} {a b c : World} (h : KpS S a b) (k : Below b.heap.size b c) : KpS S a c :=
  ⟨k.os.trans h.os, k.tape.trans h.tape, k.output.trans h.output, Nat.le_trans h.size k.size, fun j hj hp => (k.block j (Nat.lt_of_lt_of_le hj h.size)).trans (h.block j hj hp)⟩
theorem KpS.trans {S : Nat → Prop} {a b c : World} (h : KpS S a b) (k : KpS S b c) : KpS S a c :=
  ⟨k.os.trans h.os, k.tape.trans h.tape, k.output.trans h.output, Nat.le_trans h.size k.size, fun j hj hp => (k.block j (Nat.lt_of_lt_of_le hj h.size) hp).trans (h.block j hj hp)⟩
theorem KpS.after {S : Nat → Prop} {a b c : World} (h : Below a.heap.size a b) (k : KpS S b c) : KpS S a c := (KpS.of_below h).trans k
theorem KpS.setCell {S : Nat → Prop} {w w' : World} (h : KpS S w w') {a : Addr} (hp : S a.block) (v : Value) : KpS S w (w'.setCell a v) := by
  have k : Kept a.block w' (w'.setCell a v) := (Kept.refl _ _).setCell rfl v
  exact ⟨k.os.trans h.os, k.tape.trans h.tape, k.output.trans h.output, Nat.le_trans h.size k.size, fun j hj hs => (k.block j (Nat.lt_of_lt_of_le hj h.size) (fun e => hs (e ▸ hp))).trans (h.block j hj hs)⟩
theorem KpS.drew {S : Nat → Prop} {w w' : World} (h : KpS S w w') : KpS S w w'.drew := ⟨h.os, h.tape, h.output, h.size, h.block⟩
theorem KpS.below {S : Nat → Prop} {B : Nat} {w w' : World} (h : KpS S w w') (h1 : ∀ b, S b → B ≤ b) (h2 : B ≤ w.heap.size) : Below B w w' :=
  ⟨h.os, h.tape, h.output, h.size, fun k hk => h.block k (Nat.lt_of_lt_of_le hk h2) (fun hs => Nat.lt_irrefl _ (Nat.lt_of_lt_of_le hk (h1 k hs)))⟩
/-- as a block of its own -/
theorem KpS.kp {S : Nat → Prop} {b : Nat} {w w' : World} (h : KpS S w w') (hs : ¬ S b) (hb : b < w.heap.size) : w'.heap[b]? = w.heap[b]? := h.block b hb hs
theorem KpS.bx {S : Nat → Prop} {b : Nat} {vs : List Value} {w w' : World} (h : KpS S w w') (hs : ¬ S b) (hb : b < w.heap.size) (hx : Bx b vs w) : Bx b vs w' := fun j v hv => by
  have e := h.block b hb hs
  have q := hx j v hv
  refine ⟨?_, ?_⟩
  · rw [World.cell?_of_block (w := w) (a := ⟨b, j, none⟩) e]; exact q.1
  · rw [World.frozen?_of_block (w := w) (a := ⟨b, j, none⟩) e]; exact q.2
theorem KpS.px {S : Nat → Prop} {a : Option Addr} {n : Nat} {f : Nat → Int} {w w' : World} (h : KpS S w w') (hs : ∀ b off, a = some ⟨b, off, none⟩ → ¬ S b) (hx : Px a n f w) : Px a n f w' := by
  rcases hx with hx | ⟨b, off, ha, hx⟩
  · exact .inl hx
  · refine .inr ⟨b, off, ha, fun k hk => ?_⟩
    have q := hx k hk
    rw [World.cell?_of_block (w := w) (a := ⟨b, off + k, none⟩) (h.block b (World.block_lt_of_cell? w _ q) (hs b off ha))]
    exact q
theorem owns_same {w w' : World} {B n m : Nat} {e : TypeId} {v : Value} {xs : List Value} (h : w.ownsRow B e m v n xs) (hk : ∀ b, v.ownBlock = some b → w'.heap[b]? = w.heap[b]?) : w'.ownsRow B e m v n xs := by
  obtain ⟨h1, h2⟩ := h
  refine ⟨h1, ?_⟩
  rcases h2 with h2 | ⟨b', cap', cur, hv, hB, hh, hn, hc, hs, ht⟩
  · exact .inl h2
  · exact .inr ⟨b', cap', cur, hv, hB, by rw [hk b' (by rw [hv]; rfl)]; exact hh, hn, hc, hs, ht⟩

end Go.Proofs.Ytpbeogepgjbacaa
