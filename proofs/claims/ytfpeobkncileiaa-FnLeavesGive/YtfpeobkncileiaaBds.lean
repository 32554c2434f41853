/- Lists of bounds: the law's own sizes, copies, comparisons. -/
import Derived.Test.YtfpeobkncileiaaHom
import Derived.Deep.RegionHeld
import Derived.BigRegion
namespace Go.Proofs.Ytfpeobkncileiaa
open Go.RowKit

/-- a bound as a value -/
abbrev vBd (x : Option Addr) (l c : Nat) (b : Int) : Value := .agg #[.slice x l c, .int .i64 b]
/-- the sum of the lengths -/
def sumN (ln : Nat → Nat) : Nat → Nat
  | 0 => 0
  | m + 1 => sumN ln m + ln m
theorem sumN_le {ln : Nat → Nat} : ∀ {k m : Nat}, k < m → ln k ≤ sumN ln m
  | k, m + 1, h => by
    unfold sumN
    by_cases e : k = m
    · subst e; omega
    · have := sumN_le (ln := ln) (k := k) (m := m) (by omega); omega
theorem cell_kept {w w' : World} {b j : Nat} {v : Value} (hb : Below w.heap.size w w') (h : w.cell? ⟨b, j, none⟩ = some v) : w'.cell? ⟨b, j, none⟩ = some v :=
  (hb.cell (p := ⟨b, j, none⟩) (World.block_lt_of_cell? w _ h)).trans h
/-- a list of bounds is there -/
def PxB (a : Option Addr) (m : Nat) (ad : Nat → Option Addr) (ln cp : Nat → Nat) (F : Nat → Nat → Int) (Bv : Nat → Int) (w : World) : Prop :=
  (m = 0 ∨ ∃ b off, a = some ⟨b, off, none⟩ ∧ ∀ i, i < m → w.cell? ⟨b, off + i * 2, none⟩ = some (.slice (ad i) (ln i) (cp i)) ∧ w.cell? ⟨b, off + i * 2 + 1, none⟩ = some (.int .i64 (Bv i))) ∧ ∀ i, i < m → Px (ad i) (ln i) (F i) w
theorem PxB.below {a : Option Addr} {m : Nat} {ad : Nat → Option Addr} {ln cp : Nat → Nat} {F : Nat → Nat → Int} {Bv : Nat → Int} {w w' : World} (h : PxB a m ad ln cp F Bv w) (hb : Below w.heap.size w w') : PxB a m ad ln cp F Bv w' := by
  obtain ⟨h1, h2⟩ := h
  refine ⟨?_, fun i hi => (h2 i hi).below hb⟩
  rcases h1 with h1 | ⟨b, off, ha, hc⟩
  · exact .inl h1
  · exact .inr ⟨b, off, ha, fun i hi => ⟨cell_kept hb (hc i hi).1, cell_kept hb (hc i hi).2⟩⟩
theorem PxB.at {a : Option Addr} {m i : Nat} {ad : Nat → Option Addr} {ln cp : Nat → Nat} {F : Nat → Nat → Int} {Bv : Nat → Int} {w : World} (h : PxB a m ad ln cp F Bv w) (hi : i < m) :
    ∃ b off, a = some ⟨b, off, none⟩ ∧ w.cell? ⟨b, off + i * 2, none⟩ = some (.slice (ad i) (ln i) (cp i)) ∧ w.cell? ⟨b, off + i * 2 + 1, none⟩ = some (.int .i64 (Bv i)) := by
  rcases h.1 with h1 | ⟨b, off, ha, hc⟩
  · omega
  · exact ⟨b, off, ha, (hc i hi).1, (hc i hi).2⟩

end Go.Proofs.Ytfpeobkncileiaa
