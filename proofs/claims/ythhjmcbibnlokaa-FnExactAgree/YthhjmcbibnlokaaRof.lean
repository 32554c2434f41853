/- How a list of offers that came in is read. -/
import Derived.Test.YthhjmcbibnlokaaRwi
import Derived.Test.YthhjmcbibnlokaaOfs
namespace Go.Proofs.Ythhjmcbibnlokaa
open Go.ChangeShapes Go.WideShapes Go.ChangeAt Go.RowKit Go.Joins

theorem cellsLOf : Try.prog.cellsOf 59 = 2 := by kernel_rfl
theorem offer_cells {H : Type} {enc : TypeId × Value → H} {W : World} {base : Nat} {spare : Nat → Bool} {held : Bool} {n : Nat} {cs : List Value} {y : DataW H × List MemPlace}
    (h : DataW.trod enc Try.prog W base spare held n 59 cs = some y) (hl : cs.length = 2) : ∃ (a : Option Addr) (len cap : Nat) (f : Nat → Int) (B : Int), cs = [.int .i64 B, .slice a len cap] ∧ len ≤ maxLen ∧ Px a len f W := by
  obtain ⟨c0, c1, rfl⟩ : ∃ c0 c1, cs = [c0, c1] := by
    match cs, hl with
    | [c0, c1], _ => exact ⟨c0, c1, rfl⟩
  obtain ⟨y0, y1, m, _, _, h0, h1⟩ := trod_struct2 Try.underlying59 h
  have c24 : Try.prog.cellsOf 23 = 1 := by kernel_rfl
  have c25 : Try.prog.cellsOf 2 = 1 := by kernel_rfl
  have h0' : DataW.trod enc Try.prog W base spare held m 2 [c0] = some y0 := by simpa [c25] using h0
  have h1' : DataW.trod enc Try.prog W base spare held m 23 [c1] = some y1 := by simpa [c25, c24] using h1
  obtain ⟨B, rfl, _⟩ := int_cell Try.underlying2 h0'
  obtain ⟨a, len, cap, f, rfl, hl', hp⟩ := px_cell h1'
  exact ⟨a, len, cap, f, B, rfl, hl', hp⟩
theorem ofs_of {H : Type} {enc : TypeId × Value → H} {W : World} {base : Nat} {spare : Nat → Bool} {held : Bool} {a : Option Addr} {len cap : Nat} {d : DataW H} {p : List MemPlace}
    (h : DataW.Trod enc Try.prog W base spare held 22 (.slice a len cap) d p) : len ≤ maxLen ∧ ∃ ad ln cp F Bv, (∀ i, ln i ≤ maxLen) ∧ PxB a len ad ln cp F Bv W := by
  obtain ⟨fuel, hf⟩ := h
  rcases DataW.trod_slice Try.underlying22 hf with ⟨hcs, _⟩ | ⟨x, l, c, elems, rest, n, _, hcs, _, hb, hl, hm, hlen, hel, _, _⟩
  · simp [Value.cells] at hcs
    obtain ⟨rfl, rfl, rfl⟩ := hcs
    exact ⟨by unfold maxLen; omega, fun _ => none, fun _ => 0, fun _ => 0, fun _ _ => 0, fun _ => 0, fun _ => Nat.zero_le _, .inl rfl, fun i hi => absurd hi (Nat.not_lt_zero _)⟩
  · simp [Value.cells] at hcs
    obtain ⟨rfl, rfl, rfl⟩ := hcs
    refine ⟨Nat.le_trans hl hm, ?_⟩
    by_cases h0 : len = 0
    · exact ⟨fun _ => none, fun _ => 0, fun _ => 0, fun _ _ => 0, fun _ => 0, fun _ => Nat.zero_le _, .inl h0, fun i hi => absurd hi (by omega)⟩
    have each : ∀ i, ∃ q : Option Addr × Nat × Nat × (Nat → Int) × Int, q.2.1 ≤ maxLen ∧ (i < len → W.cell? (x.add (i * 2)) = some (.int .i64 q.2.2.2.2) ∧ W.cell? ((x.add (i * 2)).add 1) = some (.slice q.1 q.2.1 q.2.2.1) ∧ Px q.1 q.2.1 q.2.2.2.1 W) := by
      intro i
      by_cases hi : i < len
      · have := hel i hi
        rw [List.getElem?_eq_getElem (by omega)] at this
        obtain ⟨cs, hc, ht⟩ := Option.bind_eq_some_iff.1 this
        have hc' : W.cells? base (x.add (i * 2)) 2 = some cs := by rw [cellsLOf] at hc; exact hc
        obtain ⟨_, hcl, hcc⟩ := World.cells?_some hc'
        obtain ⟨a', len', cap', f', B', rfl, hl', hF⟩ := offer_cells ht hcl
        refine ⟨(a', len', cap', f', B'), hl', fun _ => ⟨?_, ?_, hF⟩⟩
        · have := hcc 0 (by omega)
          simpa [Addr.add] using this
        · have := hcc 1 (by omega)
          simpa using this
      · exact ⟨(none, 0, 0, fun _ => 0, 0), Nat.zero_le _, fun h => absurd h hi⟩
    obtain ⟨q, hq⟩ := Classical.skolem.1 each
    obtain ⟨b, off, spot⟩ := x
    have hspot : spot = none := by
      have := ((hq 0).2 (by omega)).1
      simpa [Addr.add] using World.cell?_spot this
    subst hspot
    refine ⟨fun i => (q i).1, fun i => (q i).2.1, fun i => (q i).2.2.1, fun i => (q i).2.2.2.1, fun i => (q i).2.2.2.2, fun i => (hq i).1, .inr ⟨b, off, rfl, fun k hk => ?_⟩, fun i hi => ((hq i).2 hi).2.2⟩
    have := (hq k).2 hk
    rw [add_plain, add_plain] at this
    exact ⟨this.1, this.2.1⟩

end Go.Proofs.Ythhjmcbibnlokaa
