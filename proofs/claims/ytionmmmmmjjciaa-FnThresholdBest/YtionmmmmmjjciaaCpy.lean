/- The law's own copy of an image of the program. -/
import Derived.Test.YtionmmmmmjjciaaHom
import Derived.Deep.RegionHeld3
import Derived.Deep.AppendLies
namespace Go.Proofs.Ytionmmmmmjjciaa
open Go.RowKit

theorem src_ints {p : Addr} {n : Nat} {f : Nat → Int} {w : World} (h : Px (some p) n f w) : ∀ (j : Nat) (u : Value), (ints ((List.range n).map f))[j]? = some u → w.cell? (p.add j) = some u := by
  intro j u hu
  have hj : j < n := by
    have := (List.getElem?_eq_some_iff.1 hu).1
    rw [ints_length] at this
    simpa using this
  obtain ⟨b, off, e, hc⟩ := h.at hj
  cases e
  have e2 : (⟨b, off, none⟩ : Addr).add j = ⟨b, off + j, none⟩ := by by_cases h0 : j = 0 <;> simp [Addr.add, h0]
  rw [e2, hc]
  unfold ints at hu
  rw [List.getElem?_map, List.getElem?_map, List.getElem?_range hj] at hu
  exact hu
theorem rng_at {n : Nat} {f : Nat → Int} {k : Nat} (hk : k < n) : ((List.range n).map f).getD k 0 = f k := by
  rw [List.getD_eq_getElem?_getD, List.getElem?_map, List.getElem?_range hk]
  rfl

theorem below_set3' {B : Nat} {w w1 : World} (h : Below B w w1) {b : Nat} {u v x : Value} (hb : B ≤ b) : Below B w (((w1.setCell ⟨b, 0, none⟩ u).setCell ⟨b, 1, none⟩ v).setCell ⟨b, 2, none⟩ x) :=
  Below.setCell (p := ⟨b, 2, none⟩) (Below.setCell (p := ⟨b, 1, none⟩) (Below.setCell (p := ⟨b, 0, none⟩) h hb u) hb v) hb x

end Go.Proofs.Ytionmmmmmjjciaa
