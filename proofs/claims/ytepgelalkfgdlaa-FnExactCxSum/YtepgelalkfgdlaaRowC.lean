/- How a slice of pairs that came in is read. -/
import Derived.Test.YtepgelalkfgdlaaRow
import Derived.Test.YtepgelalkfgdlaaSum1
namespace Go.Proofs.Ytepgelalkfgdlaa
open Go.ChangeShapes Go.WideShapes Go.ChangeAt Go.RowKit Go.Joins

theorem pair_cells {H : Type} {enc : TypeId × Value → H} {W : World} {base : Nat} {spare : Nat → Bool} {held : Bool} {n : Nat} {cs : List Value} {y : DataW H × List MemPlace}
    (h : DataW.trod enc Try.prog W base spare held n 54 cs = some y) (hl : cs.length = 2) : ∃ r s, cs = [.float .f64 r, .float .f64 s] := by
  obtain ⟨c0, c1, rfl⟩ : ∃ c0 c1, cs = [c0, c1] := by
    match cs, hl with
    | [c0, c1], _ => exact ⟨c0, c1, rfl⟩
  obtain ⟨y0, y1, m, _, _, h0, h1⟩ := trod_struct2 Try.underlying54 h
  have c24 : Try.prog.cellsOf 24 = 1 := by kernel_rfl
  have h0' : DataW.trod enc Try.prog W base spare held m 24 [c0] = some y0 := by simpa [c24] using h0
  have h1' : DataW.trod enc Try.prog W base spare held m 24 [c1] = some y1 := by simpa [c24] using h1
  obtain ⟨r, rfl, _⟩ := float_cell Try.underlying24 h0'
  obtain ⟨s, rfl, _⟩ := float_cell Try.underlying24 h1'
  exact ⟨r, s, rfl⟩

theorem cs_of {H : Type} {enc : TypeId × Value → H} {W : World} {base : Nat} {spare : Nat → Bool} {held : Bool} {a : Option Addr} {len cap : Nat} {d : DataW H} {p : List MemPlace}
    (h : DataW.Trod enc Try.prog W base spare held 60 (.slice a len cap) d p) : len ≤ maxLen ∧ ∃ re im, Cs a len re im W := by
  obtain ⟨fuel, hf⟩ := h
  rcases DataW.trod_slice Try.underlying60 hf with ⟨hcs, _⟩ | ⟨x, l, c, elems, rest, n, _, hcs, _, hb, hl, hm, hlen, hel, _, _⟩
  · simp [Value.cells] at hcs
    obtain ⟨rfl, rfl, rfl⟩ := hcs
    exact ⟨by unfold maxLen; omega, fun _ => 0, fun _ => 0, .inl rfl⟩
  · simp [Value.cells] at hcs
    obtain ⟨rfl, rfl, rfl⟩ := hcs
    refine ⟨Nat.le_trans hl hm, ?_⟩
    by_cases h0 : len = 0
    · exact ⟨fun _ => 0, fun _ => 0, .inl h0⟩
    have each : ∀ i, ∃ q : Nat × Nat, i < len → W.cell? (x.add (i * 2)) = some (.float .f64 q.1) ∧ W.cell? ((x.add (i * 2)).add 1) = some (.float .f64 q.2) := by
      intro i
      by_cases hi : i < len
      · have := hel i hi
        rw [List.getElem?_eq_getElem (by omega)] at this
        obtain ⟨cs, hc, ht⟩ := Option.bind_eq_some_iff.1 this
        have hc' : W.cells? base (x.add (i * 2)) 2 = some cs := by rw [Try.cells54] at hc; exact hc
        obtain ⟨_, hcl, hcc⟩ := World.cells?_some hc'
        obtain ⟨r, s, rfl⟩ := pair_cells ht hcl
        refine ⟨(r, s), fun _ => ⟨?_, ?_⟩⟩
        · have := hcc 0 (by omega)
          simpa [Addr.add] using this
        · have := hcc 1 (by omega)
          simpa using this
      · exact ⟨(0, 0), fun h => absurd h hi⟩
    obtain ⟨q, hq⟩ := Classical.skolem.1 each
    obtain ⟨b, off, spot⟩ := x
    have hspot : spot = none := by
      have := (hq 0 (by omega)).1
      simpa [Addr.add] using World.cell?_spot this
    subst hspot
    refine ⟨fun k => (q k).1, fun k => (q k).2, .inr ⟨b, off, rfl, fun k hk => ?_⟩⟩
    have := hq k hk
    rw [add_plain, add_plain] at this
    exact this

end Go.Proofs.Ytepgelalkfgdlaa
