/- The draws of masks out of bytes. -/
import Derived.Test.YtfaponkmmiiehaaDmk
import Derived.Test.YtfaponkmmiiehaaDsp
namespace Go.Proofs.Ytfaponkmmiiehaa
open Go.RowKit

/-- some image is drawn, in memory of its own -/
def ImD (N : Nat) (w : World) (e : Ending) (w' : World) : Prop :=
  ∃ W H x b m c f, e = .returned (im W H x m c) ∧ m ≤ N ∧ Ow x b m f w' ∧ (m = 0 ∨ w.heap.size ≤ b) ∧ Below w.heap.size w w'

theorem bytes_lt {a : Option Addr} {len : Nat} {w : World} (h : Bytes a len w) {B : Nat} (hB : w.heap.size ≤ B) : len = 0 ∨ ∀ b off, a = some ⟨b, off, none⟩ → b < B := by
  by_cases h0 : len = 0
  · exact .inl h0
  · refine .inr fun b off e => ?_
    rcases h.2 with h1 | ⟨b', off', ha, hb⟩
    · exact absurd h1 h0
    · obtain ⟨z, _, _, hz⟩ := hb 0 (by omega)
      rw [e] at ha
      cases ha
      exact Nat.lt_of_lt_of_le (World.block_lt_of_cell? w _ hz) hB

end Go.Proofs.Ytfaponkmmiiehaa
