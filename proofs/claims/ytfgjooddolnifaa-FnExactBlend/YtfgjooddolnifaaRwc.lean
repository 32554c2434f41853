/- How a list of lists of pairs of floats that came in is read. -/
import Derived.Test.YtfgjooddolnifaaRwf
import Derived.Test.YtfgjooddolnifaaBln
namespace Go.Proofs.Ytfgjooddolnifaa
open Go.ChangeShapes Go.WideShapes Go.ChangeAt Go.RowKit Go.Joins

theorem cxs_cell {H : Type} {enc : TypeId × Value → H} {W : World} {base : Nat} {spare : Nat → Bool} {held : Bool} {fuel : Nat} {v : Value} {y : DataW H × List MemPlace}
    (hf : DataW.trod enc Try.prog W base spare held fuel 35 [v] = some y) : ∃ a len cap F, v = .slice a len cap ∧ len ≤ maxLen ∧ PxV a (len * 2) (flt F) W := by
  rcases DataW.trod_slice Try.underlying35 hf with ⟨hcs, _⟩ | ⟨x, l, c, elems, rest, n, _, hcs, _, hb, hl, hm, hlen, hel, _, _⟩
  · simp at hcs
    exact ⟨none, 0, 0, fun _ => 0, hcs, by unfold maxLen; omega, .inl (by simp)⟩
  · simp at hcs
    suffices hs : ∃ F, PxV (some x) (l * 2) (flt F) W by
      obtain ⟨F, hF⟩ := hs
      exact ⟨some x, l, c, F, hcs, Nat.le_trans hl hm, hF⟩
    clear hcs
    by_cases h0 : l = 0
    · exact ⟨fun _ => 0, .inl (by simp [h0])⟩
    have each : ∀ i, ∃ q : Nat × Nat, i < l → W.cell? (x.add (i * 2)) = some (.float .f64 q.1) ∧ W.cell? ((x.add (i * 2)).add 1) = some (.float .f64 q.2) := by
      intro i
      by_cases hi : i < l
      · have := hel i hi
        rw [List.getElem?_eq_getElem (by omega)] at this
        obtain ⟨cs, hc, ht⟩ := Option.bind_eq_some_iff.1 this
        have hc' : W.cells? base (x.add (i * 2)) 2 = some cs := by rw [cellsLCx] at hc; exact hc
        obtain ⟨_, hcl, hcc⟩ := World.cells?_some hc'
        obtain ⟨r, s, rfl⟩ := pair_cells ht hcl
        refine ⟨(r, s), fun _ => ⟨?_, ?_⟩⟩
        · have := hcc 0 (by omega)
          simpa [Addr.add] using this
        · have := hcc 1 (by omega)
          simpa using this
      · exact ⟨(0, 0), fun h => absurd h hi⟩
    obtain ⟨q, hq⟩ := Classical.skolem.1 each
    obtain ⟨b, off, spot⟩ := x
    have hspot : spot = none := by
      have := (hq 0 (by omega)).1
      simpa [Addr.add] using World.cell?_spot this
    subst hspot
    refine ⟨fun k => if k % 2 = 0 then (q (k / 2)).1 else (q (k / 2)).2, .inr ⟨b, off, rfl, fun k hk => ?_⟩⟩
    have := hq (k / 2) (by omega)
    rw [add_plain, add_plain] at this
    show W.cell? ⟨b, off + k, none⟩ = some (Value.float .f64 (if k % 2 = 0 then (q (k / 2)).1 else (q (k / 2)).2))
    by_cases e : k % 2 = 0
    · rw [if_pos e, ← this.1]
      congr 2; omega
    · rw [if_neg e, ← this.2]
      congr 2; omega

theorem cellsCxS : Try.prog.cellsOf 35 = 1 := by kernel_rfl
theorem css_of {H : Type} {enc : TypeId × Value → H} {W : World} {base : Nat} {spare : Nat → Bool} {held : Bool} {a : Option Addr} {len cap : Nat} {d : DataW H} {p : List MemPlace}
    (h : DataW.Trod enc Try.prog W base spare held 43 (.slice a len cap) d p) : len ≤ maxLen ∧ ∃ ad ln cp F, (∀ i, ln i ≤ maxLen) ∧ PxS a len ad ln cp F W := by
  obtain ⟨fuel, hf⟩ := h
  rcases DataW.trod_slice Try.underlying43 hf with ⟨hcs, _⟩ | ⟨x, l, c, elems, rest, n, _, hcs, _, hb, hl, hm, hlen, hel, _, _⟩
  · simp [Value.cells] at hcs
    obtain ⟨rfl, rfl, rfl⟩ := hcs
    exact ⟨by unfold maxLen; omega, fun _ => none, fun _ => 0, fun _ => 0, fun _ _ => 0, fun _ => Nat.zero_le _, .inl rfl, fun i hi => absurd hi (Nat.not_lt_zero _)⟩
  · simp [Value.cells] at hcs
    obtain ⟨rfl, rfl, rfl⟩ := hcs
    refine ⟨Nat.le_trans hl hm, ?_⟩
    by_cases h0 : len = 0
    · exact ⟨fun _ => none, fun _ => 0, fun _ => 0, fun _ _ => 0, fun _ => Nat.zero_le _, .inl h0, fun i hi => absurd hi (by omega)⟩
    have each : ∀ i, ∃ q : Option Addr × Nat × Nat × (Nat → Nat), q.2.1 ≤ maxLen ∧ (i < len → W.cell? (x.add i) = some (.slice q.1 q.2.1 q.2.2.1) ∧ PxV q.1 (q.2.1 * 2) (flt q.2.2.2) W) := by
      intro i
      by_cases hi : i < len
      · have := hel i hi
        rw [List.getElem?_eq_getElem (by omega)] at this
        obtain ⟨cs, hc, ht⟩ := Option.bind_eq_some_iff.1 this
        have hc' : W.cells? base (x.add i) 1 = some cs := by rw [cellsCxS, Nat.mul_one] at hc; exact hc
        obtain ⟨_, hcl, hcc⟩ := World.cells?_some hc'
        obtain ⟨v, rfl⟩ : ∃ v, cs = [v] := by
          match cs, hcl with
          | [v], _ => exact ⟨v, rfl⟩
        obtain ⟨a', len', cap', F', rfl, hl', hF⟩ := cxs_cell ht
        refine ⟨(a', len', cap', F'), hl', fun _ => ⟨?_, hF⟩⟩
        have := hcc 0 (by omega)
        simpa [Addr.add] using this
      · exact ⟨(none, 0, 0, fun _ => 0), Nat.zero_le _, fun h => absurd h hi⟩
    obtain ⟨q, hq⟩ := Classical.skolem.1 each
    obtain ⟨b, off, spot⟩ := x
    have hspot : spot = none := by
      have := ((hq 0).2 (by omega)).1
      simpa [Addr.add] using World.cell?_spot this
    subst hspot
    refine ⟨fun i => (q i).1, fun i => (q i).2.1, fun i => (q i).2.2.1, fun i => (q i).2.2.2, fun i => (hq i).1, .inr ⟨b, off, rfl, fun k hk => ?_⟩, fun i hi => ((hq i).2 hi).2⟩
    have := ((hq k).2 hk).1
    rw [add_plain] at this
    exact this

end Go.Proofs.Ytfgjooddolnifaa
