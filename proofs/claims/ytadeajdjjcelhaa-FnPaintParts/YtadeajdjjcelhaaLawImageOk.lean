/- The law FnExactImageOk, walked. -/
import Derived.Test.YtadeajdjjcelhaaOk
import Derived.Deep.RegionHeld
import Derived.Deep.DeepCutAuto
namespace Go.Proofs.Ytadeajdjjcelhaa
open Go.RowKit

/-- an image lies in the three cells of a block -/
def Im (b : Nat) (W H : Int) (s : Value) (w : World) : Prop :=
  w.cell? ⟨b, 0, none⟩ = some (.int .i64 W) ∧ w.cell? ⟨b, 1, none⟩ = some (.int .i64 H) ∧ w.cell? ⟨b, 2, none⟩ = some s

theorem Im.below {b : Nat} {W H : Int} {s : Value} {w w' : World} (h : Im b W H s w) (hb : Below w.heap.size w w') : Im b W H s w' := by
  have hl : b < w.heap.size := World.block_lt_of_cell? w _ h.1
  exact ⟨(hb.cell (p := ⟨b, 0, none⟩) hl).trans h.1, (hb.cell (p := ⟨b, 1, none⟩) hl).trans h.2.1, (hb.cell (p := ⟨b, 2, none⟩) hl).trans h.2.2⟩

theorem Im.drew {b : Nat} {W H : Int} {s : Value} {w : World} (h : Im b W H s w) : Im b W H s w.drew := h
theorem Px.drew {a : Option Addr} {len : Nat} {f : Nat → Int} {w : World} (h : Px a len f w) : Px a len f w.drew := h

theorem Im.new (W H : Int) (s : Value) (t : TypeId) (w : World) : Im w.heap.size W H s (w.alloc (.cells #[.int .i64 W, .int .i64 H, s] t)) := by
  refine ⟨?_, ?_, ?_⟩ <;> simp [go_sem]

theorem Below.next {B : Nat} {W w1 w2 : World} (h : Below B W w1) (hB : B ≤ W.heap.size) (h2 : Below w1.heap.size w1 w2) : Below B W w2 :=
  h.trans (h2.mono (Nat.le_trans hB h.size))

end Go.Proofs.Ytadeajdjjcelhaa
