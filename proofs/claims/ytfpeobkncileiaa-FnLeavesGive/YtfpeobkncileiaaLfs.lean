/- Lists of Leafs: the copy that the law makes, when two are alike, marks. -/
import Derived.Test.YtfpeobkncileiaaIls
namespace Go.Proofs.Ytfpeobkncileiaa
open Go.RowKit

/-- a Leaf as a value, and in a block -/
abbrev vLeaf (x0 x1 x2 : Int) : Value := .agg #[.int .i64 x0, .int .i64 x1, .int .i64 x2]
abbrev cLeaf (x0 x1 x2 : Int) (t : TypeId) : Obj := .cells #[.int .i64 x0, .int .i64 x1, .int .i64 x2] t
def BLeaf (b : Nat) (x0 x1 x2 : Int) (w : World) : Prop :=
  w.cell? ⟨b, 0, none⟩ = some (.int .i64 x0) ∧ w.cell? ⟨b, 1, none⟩ = some (.int .i64 x1) ∧ w.cell? ⟨b, 2, none⟩ = some (.int .i64 x2)
theorem BLeaf.below {b B : Nat} {x0 x1 x2 : Int} {w w' : World} (h : BLeaf b x0 x1 x2 w) (hb : Below B w w') (hl : b < B) : BLeaf b x0 x1 x2 w' := by
  obtain ⟨h0, h1, h2⟩ := h
  exact ⟨(hb.cell (p := ⟨b, 0, none⟩) hl).trans h0, (hb.cell (p := ⟨b, 1, none⟩) hl).trans h1, (hb.cell (p := ⟨b, 2, none⟩) hl).trans h2⟩
theorem BLeaf.new (x0 x1 x2 : Int) (t : TypeId) (w : World) : BLeaf w.heap.size x0 x1 x2 (w.alloc (cLeaf x0 x1 x2 t)) := by
  refine ⟨?_, ?_, ?_⟩ <;> simp [go_sem]

theorem Px.atLeaf {a : Option Addr} {len : Nat} {g : Nat → Int} {w : World} {k : Nat} (h : Px a (len * 3) g w) (hk : k < len) :
    ∃ b off, a = some ⟨b, off, none⟩ ∧ b < w.heap.size ∧ w.cell? ⟨b, off + k * 3, none⟩ = some (.int .i64 (g (k * 3))) ∧ w.cell? ⟨b, off + k * 3 + 1, none⟩ = some (.int .i64 (g (k * 3 + 1))) ∧ w.cell? ⟨b, off + k * 3 + 2, none⟩ = some (.int .i64 (g (k * 3 + 2))) := by
  rcases h with h | ⟨b, off, ha, hc⟩
  · omega
  · refine ⟨b, off, ha, World.block_lt_of_cell? w _ (hc (k * 3) (by omega)), hc (k * 3) (by omega), ?_, ?_⟩ <;> rw [Nat.add_assoc] <;> exact hc _ (by omega)

theorem Part.stLeaf {b n k : Nat} {g : Nat → Int} {w : World} (h : Part b n k g w) (hk : k + 3 ≤ n) :
    Part b n (k + 3) g (((w.setCell ⟨b, k, none⟩ (.int .i64 (g (k)))).setCell ⟨b, k + 1, none⟩ (.int .i64 (g (k + 1)))).setCell ⟨b, k + 2, none⟩ (.int .i64 (g (k + 2)))) := by
  have h0 := h.step (by omega) (g k) rfl
  have h1 := h0.step (by omega) (g (k + 1)) rfl
  exact h1.step (by omega) (g (k + 2)) rfl

end Go.Proofs.Ytfpeobkncileiaa
