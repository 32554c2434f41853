/- Lists of Spot2s: the copy that the law makes, when two are alike, marks. -/
import Derived.Test.YtekoioggamhlaaaIls
namespace Go.Proofs.Ytekoioggamhlaaa
open Go.RowKit

/-- a Spot2 as a value, and in a block -/
abbrev vSpot2 (x0 x1 : Int) : Value := .agg #[.int .i64 x0, .int .i64 x1]
abbrev cSpot2 (x0 x1 : Int) (t : TypeId) : Obj := .cells #[.int .i64 x0, .int .i64 x1] t
def BSpot2 (b : Nat) (x0 x1 : Int) (w : World) : Prop :=
  w.cell? ⟨b, 0, none⟩ = some (.int .i64 x0) ∧ w.cell? ⟨b, 1, none⟩ = some (.int .i64 x1)
theorem BSpot2.below {b B : Nat} {x0 x1 : Int} {w w' : World} (h : BSpot2 b x0 x1 w) (hb : Below B w w') (hl : b < B) : BSpot2 b x0 x1 w' := by
  obtain ⟨h0, h1⟩ := h
  exact ⟨(hb.cell (p := ⟨b, 0, none⟩) hl).trans h0, (hb.cell (p := ⟨b, 1, none⟩) hl).trans h1⟩
theorem BSpot2.new (x0 x1 : Int) (t : TypeId) (w : World) : BSpot2 w.heap.size x0 x1 (w.alloc (cSpot2 x0 x1 t)) := by
  refine ⟨?_, ?_⟩ <;> simp [go_sem]

theorem Px.atSpot2 {a : Option Addr} {len : Nat} {g : Nat → Int} {w : World} {k : Nat} (h : Px a (len * 2) g w) (hk : k < len) :
    ∃ b off, a = some ⟨b, off, none⟩ ∧ b < w.heap.size ∧ w.cell? ⟨b, off + k * 2, none⟩ = some (.int .i64 (g (k * 2))) ∧ w.cell? ⟨b, off + k * 2 + 1, none⟩ = some (.int .i64 (g (k * 2 + 1))) := by
  rcases h with h | ⟨b, off, ha, hc⟩
  · omega
  · refine ⟨b, off, ha, World.block_lt_of_cell? w _ (hc (k * 2) (by omega)), hc (k * 2) (by omega), ?_⟩ <;> rw [Nat.add_assoc] <;> exact hc _ (by omega)

theorem Part.stSpot2 {b n k : Nat} {g : Nat → Int} {w : World} (h : Part b n k g w) (hk : k + 2 ≤ n) :
    Part b n (k + 2) g ((w.setCell ⟨b, k, none⟩ (.int .i64 (g (k)))).setCell ⟨b, k + 1, none⟩ (.int .i64 (g (k + 1)))) := by
  have h0 := h.step (by omega) (g k) rfl
  exact h0.step (by omega) (g (k + 1)) rfl

end Go.Proofs.Ytekoioggamhlaaa
