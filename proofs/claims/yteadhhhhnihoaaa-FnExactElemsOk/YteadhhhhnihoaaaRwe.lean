/- How a list of elements that came in is read. -/
import Derived.Test.YteadhhhhnihoaaaRwi
import Derived.Test.YteadhhhhnihoaaaEls
namespace Go.Proofs.Yteadhhhhnihoaaa
open Go.ChangeShapes Go.WideShapes Go.ChangeAt Go.RowKit Go.Joins

theorem cellsLEl : Try.prog.cellsOf 51 = 6 := by kernel_rfl
set_option maxRecDepth 100000 in
theorem elem_cells {H : Type} {enc : TypeId × Value → H} {W : World} {base : Nat} {spare : Nat → Bool} {held : Bool} {n : Nat} {cs : List Value} {y : DataW H × List MemPlace}
    (h : DataW.trod enc Try.prog W base spare held n 51 cs = some y) (hl6 : cs.length = 6) : ∃ (e : El) (a : Option Addr) (cap : Nat), cs = [.int .i64 e.g, .int .i64 e.n, .int .i64 e.k, .string e.t, .slice a e.ln cap, .int .i64 e.s] ∧ (e.ln ≤ maxLen ∧ e.t.size ≤ maxLen) ∧ Px a e.ln e.f W := by
  obtain ⟨ys, m, _, hx, hl, hlen, hel⟩ := DataW.trod_struct Try.underlying51 h
  have q2 : Try.prog.cellsOf 2 = 1 := by kernel_rfl
  have q9 : Try.prog.cellsOf 9 = 1 := by kernel_rfl
  have q24 : Try.prog.cellsOf 24 = 1 := by kernel_rfl
  match ys, hlen, cs, hl6, hel with
  | [y0, y1, y2, y3, y4, y5], _, [c0, c1, c2, c3, c4, c5], _, hel =>
    have g0 : DataW.trod enc Try.prog W base spare held m 2 (([c0, c1, c2, c3, c4, c5].drop 0).take (Try.prog.cellsOf 2)) = some y0 := hel 0 _ rfl
    have g1 : DataW.trod enc Try.prog W base spare held m 2 (([c0, c1, c2, c3, c4, c5].drop 1).take (Try.prog.cellsOf 2)) = some y1 := hel 1 _ rfl
    have g2 : DataW.trod enc Try.prog W base spare held m 2 (([c0, c1, c2, c3, c4, c5].drop 2).take (Try.prog.cellsOf 2)) = some y2 := hel 2 _ rfl
    have g3 : DataW.trod enc Try.prog W base spare held m 9 (([c0, c1, c2, c3, c4, c5].drop 3).take (Try.prog.cellsOf 9)) = some y3 := hel 3 _ rfl
    have g4 : DataW.trod enc Try.prog W base spare held m 24 (([c0, c1, c2, c3, c4, c5].drop 4).take (Try.prog.cellsOf 24)) = some y4 := hel 4 _ rfl
    have g5 : DataW.trod enc Try.prog W base spare held m 2 (([c0, c1, c2, c3, c4, c5].drop 5).take (Try.prog.cellsOf 2)) = some y5 := hel 5 _ rfl
    rw [q2] at g0 g1 g2 g5
    rw [q9] at g3
    rw [q24] at g4
    obtain ⟨a0, rfl, _⟩ := int_cell (v := c0) Try.underlying2 g0
    obtain ⟨a1, rfl, _⟩ := int_cell (v := c1) Try.underlying2 g1
    obtain ⟨a2, rfl, _⟩ := int_cell (v := c2) Try.underlying2 g2
    obtain ⟨t, h3, hy3, ht⟩ := DataW.trod_string Try.underlying9 g3
    have h3' : c3 = .string t := by simpa using h3
    subst h3'
    obtain ⟨a, len, cap, f, rfl, hl', hp⟩ := px_cell (v := c4) g4
    obtain ⟨a5, rfl, _⟩ := int_cell (v := c5) Try.underlying2 g5
    exact ⟨⟨a0, a1, a2, t, len, f, a5⟩, a, cap, rfl, ⟨hl', ht⟩, hp⟩

theorem els_of {H : Type} {enc : TypeId × Value → H} {W : World} {base : Nat} {spare : Nat → Bool} {held : Bool} {a : Option Addr} {len cap : Nat} {d : DataW H} {p : List MemPlace}
    (h : DataW.Trod enc Try.prog W base spare held 29 (.slice a len cap) d p) : len ≤ maxLen ∧ ∃ ad cp E, (∀ i, (E i).ln ≤ maxLen ∧ (E i).t.size ≤ maxLen) ∧ PxE a len ad cp E W := by
  obtain ⟨fuel, hf⟩ := h
  rcases DataW.trod_slice Try.underlying29 hf with ⟨hcs, _⟩ | ⟨x, l, c, elems, rest, n, _, hcs, _, hb, hl, hm, hlen, hel, _, _⟩
  · simp [Value.cells] at hcs
    obtain ⟨rfl, rfl, rfl⟩ := hcs
    exact ⟨by unfold maxLen; omega, fun _ => none, fun _ => 0, fun _ => ⟨0, 0, 0, ⟨#[]⟩, 0, fun _ => 0, 0⟩, fun _ => ⟨Nat.zero_le _, Nat.zero_le _⟩, .inl rfl, fun i hi => absurd hi (Nat.not_lt_zero _)⟩
  · simp [Value.cells] at hcs
    obtain ⟨rfl, rfl, rfl⟩ := hcs
    refine ⟨Nat.le_trans hl hm, ?_⟩
    by_cases h0 : len = 0
    · exact ⟨fun _ => none, fun _ => 0, fun _ => ⟨0, 0, 0, ⟨#[]⟩, 0, fun _ => 0, 0⟩, fun _ => ⟨Nat.zero_le _, Nat.zero_le _⟩, .inl h0, fun i hi => absurd hi (by omega)⟩
    have each : ∀ i, ∃ q : El × Option Addr × Nat, (q.1.ln ≤ maxLen ∧ q.1.t.size ≤ maxLen) ∧ (i < len → (W.cell? (x.add (i * 6)) = some (.int .i64 q.1.g) ∧ W.cell? ((x.add (i * 6)).add 1) = some (.int .i64 q.1.n) ∧ W.cell? ((x.add (i * 6)).add 2) = some (.int .i64 q.1.k) ∧ W.cell? ((x.add (i * 6)).add 3) = some (.string q.1.t) ∧ W.cell? ((x.add (i * 6)).add 4) = some (.slice q.2.1 q.1.ln q.2.2) ∧ W.cell? ((x.add (i * 6)).add 5) = some (.int .i64 q.1.s)) ∧ Px q.2.1 q.1.ln q.1.f W) := by
      intro i
      by_cases hi : i < len
      · have := hel i hi
        rw [List.getElem?_eq_getElem (by omega)] at this
        obtain ⟨cs, hc, ht⟩ := Option.bind_eq_some_iff.1 this
        have hc' : W.cells? base (x.add (i * 6)) 6 = some cs := by rw [cellsLEl] at hc; exact hc
        obtain ⟨_, hcl, hcc⟩ := World.cells?_some hc'
        obtain ⟨e, a', cap', rfl, hl', hF⟩ := elem_cells ht hcl
        refine ⟨(e, a', cap'), hl', fun _ => ⟨⟨?_, ?_, ?_, ?_, ?_, ?_⟩, hF⟩⟩
        · have := hcc 0 (by omega)
          simpa [Addr.add] using this
        · have := hcc 1 (by omega)
          simpa using this
        · have := hcc 2 (by omega)
          simpa using this
        · have := hcc 3 (by omega)
          simpa using this
        · have := hcc 4 (by omega)
          simpa using this
        · have := hcc 5 (by omega)
          simpa using this
      · exact ⟨(⟨0, 0, 0, ⟨#[]⟩, 0, fun _ => 0, 0⟩, none, 0), ⟨Nat.zero_le _, Nat.zero_le _⟩, fun h => absurd h hi⟩
    obtain ⟨q, hq⟩ := Classical.skolem.1 each
    obtain ⟨b, off, spot⟩ := x
    have hspot : spot = none := by
      have := ((hq 0).2 (by omega)).1.1
      simpa [Addr.add] using World.cell?_spot this
    subst hspot
    refine ⟨fun i => (q i).2.1, fun i => (q i).2.2, fun i => (q i).1, fun i => (hq i).1, .inr ⟨b, off, rfl, fun k hk => ?_⟩, fun i hi => ((hq i).2 hi).2⟩
    have := ((hq k).2 hk).1
    simp only [add_plain] at this
    exact this

end Go.Proofs.Yteadhhhhnihoaaa
