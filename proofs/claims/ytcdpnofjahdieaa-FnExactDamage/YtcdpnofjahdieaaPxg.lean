/- Lists of values, whatever they are. -/
import Derived.Test.YtcdpnofjahdieaaBym
import Derived.BigRegion
namespace Go.Proofs.Ytcdpnofjahdieaa
open Go.RowKit

/-- values are there -/
def PxG (a : Option Addr) (len : Nat) (F : Nat → Value) (w : World) : Prop := len = 0 ∨ ∃ b off, a = some ⟨b, off, none⟩ ∧ ∀ k, k < len → w.cell? ⟨b, off + k, none⟩ = some (F k)
theorem PxG.below {a : Option Addr} {len : Nat} {F : Nat → Value} {w w' : World} (h : PxG a len F w) (hb : Below w.heap.size w w') : PxG a len F w' := by
  rcases h with h | ⟨b, off, ha, hc⟩
  · exact .inl h
  · exact .inr ⟨b, off, ha, fun k hk => (hb.cell (p := ⟨b, off + k, none⟩) (World.block_lt_of_cell? w _ (hc k hk))).trans (hc k hk)⟩
theorem OwV.pxG {a : Option Addr} {b len : Nat} {F : Nat → Value} {w : World} (h : OwV a b len F w) : PxG a len F w := by
  rcases h with h | ⟨ha, h⟩
  · exact .inl h
  · exact .inr ⟨b, 0, ha, fun k hk => by rw [Nat.zero_add]; exact (h k hk).1⟩
theorem RowV.pxG {b len : Nat} {F : Nat → Value} {w : World} (h : RowV b len F w) : PxG (some ⟨b, 0, none⟩) len F w := .inr ⟨b, 0, rfl, fun k hk => by rw [Nat.zero_add]; exact (h k hk).1⟩
theorem PtV.below {b len k : Nat} {F : Nat → Value} {w w' : World} (h : PtV b len k F w) (hb : Below w.heap.size w w') (hl : b < w.heap.size) : PtV b len k F w' := fun j hj => by
  obtain ⟨⟨y, hy, e⟩, fr⟩ := h j hj
  exact ⟨⟨y, (hb.cell (p := ⟨b, j, none⟩) hl).trans hy, e⟩, (hb.frozen (p := ⟨b, j, none⟩) hl).trans fr⟩

end Go.Proofs.Ytcdpnofjahdieaa
