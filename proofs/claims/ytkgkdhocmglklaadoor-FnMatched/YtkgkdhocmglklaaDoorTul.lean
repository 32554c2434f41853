/- Lists of Turns: the copy that the law makes, when two are alike, marks. -/
import Derived.Test.YtkgkdhocmglklaaDoorIls
namespace Go.Proofs.YtkgkdhocmglklaaDoor
open Go.RowKit

/-- a Turn as a value, and in a block -/
abbrev vTurn (x0 x1 x2 x3 : Int) : Value := .agg #[.int .i64 x0, .int .i64 x1, .int .i64 x2, .int .i64 x3]
abbrev cTurn (x0 x1 x2 x3 : Int) (t : TypeId) : Obj := .cells #[.int .i64 x0, .int .i64 x1, .int .i64 x2, .int .i64 x3] t
def BTurn (b : Nat) (x0 x1 x2 x3 : Int) (w : World) : Prop :=
  w.cell? ⟨b, 0, none⟩ = some (.int .i64 x0) ∧ w.cell? ⟨b, 1, none⟩ = some (.int .i64 x1) ∧ w.cell? ⟨b, 2, none⟩ = some (.int .i64 x2) ∧ w.cell? ⟨b, 3, none⟩ = some (.int .i64 x3)
theorem BTurn.below {b B : Nat} {x0 x1 x2 x3 : Int} {w w' : World} (h : BTurn b x0 x1 x2 x3 w) (hb : Below B w w') (hl : b < B) : BTurn b x0 x1 x2 x3 w' := by
  obtain ⟨h0, h1, h2, h3⟩ := h
  exact ⟨(hb.cell (p := ⟨b, 0, none⟩) hl).trans h0, (hb.cell (p := ⟨b, 1, none⟩) hl).trans h1, (hb.cell (p := ⟨b, 2, none⟩) hl).trans h2, (hb.cell (p := ⟨b, 3, none⟩) hl).trans h3⟩
theorem BTurn.new (x0 x1 x2 x3 : Int) (t : TypeId) (w : World) : BTurn w.heap.size x0 x1 x2 x3 (w.alloc (cTurn x0 x1 x2 x3 t)) := by
  refine ⟨?_, ?_, ?_, ?_⟩ <;> simp [go_sem]

theorem Px.atTurn {a : Option Addr} {len : Nat} {g : Nat → Int} {w : World} {k : Nat} (h : Px a (len * 4) g w) (hk : k < len) :
    ∃ b off, a = some ⟨b, off, none⟩ ∧ b < w.heap.size ∧ w.cell? ⟨b, off + k * 4, none⟩ = some (.int .i64 (g (k * 4))) ∧ w.cell? ⟨b, off + k * 4 + 1, none⟩ = some (.int .i64 (g (k * 4 + 1))) ∧ w.cell? ⟨b, off + k * 4 + 2, none⟩ = some (.int .i64 (g (k * 4 + 2))) ∧ w.cell? ⟨b, off + k * 4 + 3, none⟩ = some (.int .i64 (g (k * 4 + 3))) := by
  rcases h with h | ⟨b, off, ha, hc⟩
  · omega
  · refine ⟨b, off, ha, World.block_lt_of_cell? w _ (hc (k * 4) (by omega)), hc (k * 4) (by omega), ?_, ?_, ?_⟩ <;> rw [Nat.add_assoc] <;> exact hc _ (by omega)

theorem Part.stTurn {b n k : Nat} {g : Nat → Int} {w : World} (h : Part b n k g w) (hk : k + 4 ≤ n) :
    Part b n (k + 4) g ((((w.setCell ⟨b, k, none⟩ (.int .i64 (g (k)))).setCell ⟨b, k + 1, none⟩ (.int .i64 (g (k + 1)))).setCell ⟨b, k + 2, none⟩ (.int .i64 (g (k + 2)))).setCell ⟨b, k + 3, none⟩ (.int .i64 (g (k + 3)))) := by
  have h0 := h.step (by omega) (g k) rfl
  have h1 := h0.step (by omega) (g (k + 1)) rfl
  have h2 := h1.step (by omega) (g (k + 2)) rfl
  exact h2.step (by omega) (g (k + 3)) rfl

end Go.Proofs.YtkgkdhocmglklaaDoor
