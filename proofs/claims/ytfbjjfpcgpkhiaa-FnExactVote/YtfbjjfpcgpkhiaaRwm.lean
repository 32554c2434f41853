/- How a list of images that came in is read. -/
import Derived.Test.YtfbjjfpcgpkhiaaRwi
import Derived.Test.YtfbjjfpcgpkhiaaIms
namespace Go.Proofs.Ytfbjjfpcgpkhiaa
open Go.ChangeShapes Go.WideShapes Go.ChangeAt Go.RowKit Go.Joins

theorem cellsLImage : Try.prog.cellsOf 36 = 3 := by kernel_rfl
set_option maxRecDepth 100000 in
theorem image_cells {H : Type} {enc : TypeId × Value → H} {W : World} {base : Nat} {spare : Nat → Bool} {held : Bool} {n : Nat} {cs : List Value} {y : DataW H × List MemPlace}
    (h : DataW.trod enc Try.prog W base spare held n 36 cs = some y) (hlm : cs.length = 3) : ∃ (w0 h0 : Int) (a : Option Addr) (len cap : Nat) (f : Nat → Int), cs = [.int .i64 w0, .int .i64 h0, .slice a len cap] ∧ len ≤ maxLen ∧ Px a len f W := by
  obtain ⟨ys, m, _, hx, hl, hlen, hel⟩ := DataW.trod_struct Try.underlying36 h
  have q2 : Try.prog.cellsOf 2 = 1 := by kernel_rfl
  have q24 : Try.prog.cellsOf 24 = 1 := by kernel_rfl
  match ys, hlen, cs, hlm, hel with
  | [y0, y1, y2], _, [c0, c1, c2], _, hel =>
    have g0 : DataW.trod enc Try.prog W base spare held m 2 (([c0, c1, c2].drop 0).take (Try.prog.cellsOf 2)) = some y0 := hel 0 _ rfl
    have g1 : DataW.trod enc Try.prog W base spare held m 2 (([c0, c1, c2].drop 1).take (Try.prog.cellsOf 2)) = some y1 := hel 1 _ rfl
    have g2 : DataW.trod enc Try.prog W base spare held m 24 (([c0, c1, c2].drop 2).take (Try.prog.cellsOf 24)) = some y2 := hel 2 _ rfl
    rw [q2] at g0 g1
    rw [q24] at g2
    obtain ⟨a0, rfl, _⟩ := int_cell (v := c0) Try.underlying2 g0
    obtain ⟨a1, rfl, _⟩ := int_cell (v := c1) Try.underlying2 g1
    obtain ⟨a, len, cap, f, hc, hl', hp⟩ := px_cell (v := c2) g2
    subst hc
    exact ⟨a0, a1, a, len, cap, f, rfl, hl', hp⟩
theorem ims_of {H : Type} {enc : TypeId × Value → H} {W : World} {base : Nat} {spare : Nat → Bool} {held : Bool} {a : Option Addr} {len cap : Nat} {d : DataW H} {p : List MemPlace}
    (h : DataW.Trod enc Try.prog W base spare held 22 (.slice a len cap) d p) : len ≤ maxLen ∧ ∃ ad ln cp F Wv Hv, (∀ i, ln i ≤ maxLen) ∧ PxM a len ad ln cp F Wv Hv W := by
  obtain ⟨fuel, hf⟩ := h
  rcases DataW.trod_slice Try.underlying22 hf with ⟨hcs, _⟩ | ⟨x, l, c, elems, rest, n, _, hcs, _, hb, hl, hm, hlen, hel, _, _⟩
  · simp [Value.cells] at hcs
    obtain ⟨rfl, rfl, rfl⟩ := hcs
    exact ⟨by unfold maxLen; omega, fun _ => none, fun _ => 0, fun _ => 0, fun _ _ => 0, fun _ => 0, fun _ => 0, fun _ => Nat.zero_le _, .inl rfl, fun i hi => absurd hi (Nat.not_lt_zero _)⟩
  · simp [Value.cells] at hcs
    obtain ⟨rfl, rfl, rfl⟩ := hcs
    refine ⟨Nat.le_trans hl hm, ?_⟩
    by_cases h0 : len = 0
    · exact ⟨fun _ => none, fun _ => 0, fun _ => 0, fun _ _ => 0, fun _ => 0, fun _ => 0, fun _ => Nat.zero_le _, .inl h0, fun i hi => absurd hi (by omega)⟩
    have each : ∀ i, ∃ q : Option Addr × Nat × Nat × (Nat → Int) × Int × Int, q.2.1 ≤ maxLen ∧ (i < len → W.cell? (x.add (i * 3)) = some (.int .i64 q.2.2.2.2.1) ∧ W.cell? ((x.add (i * 3)).add 1) = some (.int .i64 q.2.2.2.2.2) ∧ W.cell? ((x.add (i * 3)).add 2) = some (.slice q.1 q.2.1 q.2.2.1) ∧ Px q.1 q.2.1 q.2.2.2.1 W) := by
      intro i
      by_cases hi : i < len
      · have := hel i hi
        rw [List.getElem?_eq_getElem (by omega)] at this
        obtain ⟨cs, hc, ht⟩ := Option.bind_eq_some_iff.1 this
        have hc' : W.cells? base (x.add (i * 3)) 3 = some cs := by rw [cellsLImage] at hc; exact hc
        obtain ⟨_, hcl, hcc⟩ := World.cells?_some hc'
        obtain ⟨w0, h0', a', len', cap', f', rfl, hl', hF⟩ := image_cells ht hcl
        refine ⟨(a', len', cap', f', w0, h0'), hl', fun _ => ⟨?_, ?_, ?_, hF⟩⟩
        · have := hcc 0 (by omega)
          simpa [Addr.add] using this
        · have := hcc 1 (by omega)
          simpa using this
        · have := hcc 2 (by omega)
          simpa using this
      · exact ⟨(none, 0, 0, fun _ => 0, 0, 0), Nat.zero_le _, fun h => absurd h hi⟩
    obtain ⟨q, hq⟩ := Classical.skolem.1 each
    obtain ⟨b, off, spot⟩ := x
    have hspot : spot = none := by
      have := ((hq 0).2 (by omega)).1
      simpa [Addr.add] using World.cell?_spot this
    subst hspot
    refine ⟨fun i => (q i).1, fun i => (q i).2.1, fun i => (q i).2.2.1, fun i => (q i).2.2.2.1, fun i => (q i).2.2.2.2.1, fun i => (q i).2.2.2.2.2, fun i => (hq i).1, .inr ⟨b, off, rfl, fun k hk => ?_⟩, fun i hi => ((hq i).2 hi).2.2.2⟩
    have := (hq k).2 hk
    rw [add_plain, add_plain, add_plain] at this
    exact ⟨this.1, this.2.1, this.2.2.1⟩

end Go.Proofs.Ytfbjjfpcgpkhiaa
