/- How a list of Note that came in is read. -/
import Derived.Test.YtcdpnofjahdieaaRcp
namespace Go.Proofs.Ytcdpnofjahdieaa
open Go.ChangeShapes Go.WideShapes Go.ChangeAt Go.RowKit Go.Joins

theorem cellsLNote : Try.prog.cellsOf 62 = 5 := by kernel_rfl
set_option maxRecDepth 100000 in
theorem note_cells {H : Type} {enc : TypeId × Value → H} {W : World} {base : Nat} {spare : Nat → Bool} {held : Bool} {n : Nat} {cs : List Value} {y : DataW H × List MemPlace}
    (h : DataW.trod enc Try.prog W base spare held n 62 cs = some y) (hlm : cs.length = 5) : ∃ e : SNote, cs = [.int .i64 e.f0, .int .i64 e.f1, .string e.f2, .int .i64 e.f3, .int .i64 e.f4] ∧ (e.f2.size ≤ maxLen) := by
  obtain ⟨ys, m, _, hx, hl, hlen, hel⟩ := DataW.trod_struct Try.underlying62 h
  have q2 : Try.prog.cellsOf 2 = 1 := by kernel_rfl
  have q9 : Try.prog.cellsOf 9 = 1 := by kernel_rfl
  match ys, hlen, cs, hlm, hel with
  | [y0, y1, y2, y3, y4], _, [c0, c1, c2, c3, c4], _, hel =>
    have g0 : DataW.trod enc Try.prog W base spare held m 2 (([c0, c1, c2, c3, c4].drop 0).take (Try.prog.cellsOf 2)) = some y0 := hel 0 _ rfl
    have g1 : DataW.trod enc Try.prog W base spare held m 2 (([c0, c1, c2, c3, c4].drop 1).take (Try.prog.cellsOf 2)) = some y1 := hel 1 _ rfl
    have g2 : DataW.trod enc Try.prog W base spare held m 9 (([c0, c1, c2, c3, c4].drop 2).take (Try.prog.cellsOf 9)) = some y2 := hel 2 _ rfl
    have g3 : DataW.trod enc Try.prog W base spare held m 2 (([c0, c1, c2, c3, c4].drop 3).take (Try.prog.cellsOf 2)) = some y3 := hel 3 _ rfl
    have g4 : DataW.trod enc Try.prog W base spare held m 2 (([c0, c1, c2, c3, c4].drop 4).take (Try.prog.cellsOf 2)) = some y4 := hel 4 _ rfl
    rw [q2] at g0 g1 g3 g4
    rw [q9] at g2
    obtain ⟨a0, rfl, _⟩ := int_cell (v := c0) Try.underlying2 g0
    obtain ⟨a1, rfl, _⟩ := int_cell (v := c1) Try.underlying2 g1
    obtain ⟨a2, h2, hy2, ht2⟩ := DataW.trod_string Try.underlying9 g2
    have h2' : c2 = .string a2 := by simpa using h2
    subst h2'
    obtain ⟨a3, rfl, _⟩ := int_cell (v := c3) Try.underlying2 g3
    obtain ⟨a4, rfl, _⟩ := int_cell (v := c4) Try.underlying2 g4
    exact ⟨⟨a0, a1, a2, a3, a4⟩, rfl, ht2⟩

theorem notes_cell {H : Type} {enc : TypeId × Value → H} {W : World} {base : Nat} {spare : Nat → Bool} {held : Bool} {n : Nat} {v : Value} {y : DataW H × List MemPlace}
    (h : DataW.trod enc Try.prog W base spare held n 24 [v] = some y) : ∃ a len cap E, v = .slice a len cap ∧ len ≤ maxLen ∧ (∀ i, (E i).f2.size ≤ maxLen) ∧ PxG a (len * 5) (FNote E) W := by
  rcases DataW.trod_slice Try.underlying24 h with ⟨hcs, _⟩ | ⟨x, len, cap, elems, rest, n, _, hcs, _, hb, hl, hm, hlen, hel, _, _⟩
  · simp at hcs
    exact ⟨none, 0, 0, fun _ => ⟨0, 0, ⟨#[]⟩, 0, 0⟩, hcs, by unfold maxLen; omega, fun _ => Nat.zero_le _, .inl (by omega)⟩
  · simp at hcs
    by_cases h0 : len = 0
    · exact ⟨some x, len, cap, fun _ => ⟨0, 0, ⟨#[]⟩, 0, 0⟩, hcs, Nat.le_trans hl hm, fun _ => Nat.zero_le _, .inl (by omega)⟩
    have each : ∀ i, ∃ e : SNote, (e.f2.size ≤ maxLen) ∧ (i < len → (W.cell? (x.add (i * 5)) = some (.int .i64 e.f0) ∧ W.cell? ((x.add (i * 5)).add 1) = some (.int .i64 e.f1) ∧ W.cell? ((x.add (i * 5)).add 2) = some (.string e.f2) ∧ W.cell? ((x.add (i * 5)).add 3) = some (.int .i64 e.f3) ∧ W.cell? ((x.add (i * 5)).add 4) = some (.int .i64 e.f4))) := by
      intro i
      by_cases hi : i < len
      · have := hel i hi
        rw [List.getElem?_eq_getElem (by omega)] at this
        obtain ⟨cs, hc, ht⟩ := Option.bind_eq_some_iff.1 this
        have hc' : W.cells? base (x.add (i * 5)) 5 = some cs := by rw [cellsLNote] at hc; exact hc
        obtain ⟨_, hcl, hcc⟩ := World.cells?_some hc'
        obtain ⟨e, rfl, hl'⟩ := note_cells ht hcl
        refine ⟨e, hl', fun _ => ⟨?_, ?_, ?_, ?_, ?_⟩⟩
        · have := hcc 0 (by omega)
          simpa [Addr.add] using this
        · have := hcc 1 (by omega)
          simpa using this
        · have := hcc 2 (by omega)
          simpa using this
        · have := hcc 3 (by omega)
          simpa using this
        · have := hcc 4 (by omega)
          simpa using this
      · exact ⟨⟨0, 0, ⟨#[]⟩, 0, 0⟩, Nat.zero_le _, fun h => absurd h hi⟩
    obtain ⟨E, hq⟩ := Classical.skolem.1 each
    obtain ⟨b, off, spot⟩ := x
    have hspot : spot = none := by
      have := ((hq 0).2 (by omega)).1
      simpa [Addr.add] using World.cell?_spot this
    subst hspot
    refine ⟨some ⟨b, off, none⟩, len, cap, E, hcs, Nat.le_trans hl hm, fun i => (hq i).1, .inr ⟨b, off, rfl, fun k hk => ?_⟩⟩
    have hk5 := (hq (k / 5)).2 (by omega)
    simp only [add_plain] at hk5
    obtain ⟨d0, d1, d2, d3, d4⟩ := hk5
    have hr : k = k / 5 * 5 + 0 ∨ k = k / 5 * 5 + 1 ∨ k = k / 5 * 5 + 2 ∨ k = k / 5 * 5 + 3 ∨ k = k / 5 * 5 + 4 := by omega
    rcases hr with e | e | e | e | e
    · rw [e, Nat.add_zero, FNote_0]; exact d0
    · rw [e, FNote_1, ← Nat.add_assoc]; exact d1
    · rw [e, FNote_2, ← Nat.add_assoc]; exact d2
    · rw [e, FNote_3, ← Nat.add_assoc]; exact d3
    · rw [e, FNote_4, ← Nat.add_assoc]; exact d4

end Go.Proofs.Ytcdpnofjahdieaa
