/- How a list of spots that came in is read. -/
import Derived.Test.YtfgjooddolnifaaRwf
import Derived.Test.YtfgjooddolnifaaSpo
namespace Go.Proofs.Ytfgjooddolnifaa
open Go.ChangeShapes Go.WideShapes Go.ChangeAt Go.RowKit Go.Joins

theorem cellsLSp : Try.prog.cellsOf 75 = 3 := by kernel_rfl
theorem spot_cells {H : Type} {enc : TypeId × Value → H} {W : World} {base : Nat} {spare : Nat → Bool} {held : Bool} {n : Nat} {cs : List Value} {y : DataW H × List MemPlace}
    (h : DataW.trod enc Try.prog W base spare held n 75 cs = some y) (hl : cs.length = 3) : ∃ (A : Int) (r s : Nat), (-9223372036854775808 ≤ A ∧ A ≤ 9223372036854775807) ∧ cs = [.int .i64 A, .float .f64 r, .float .f64 s] := by
  obtain ⟨c0, c1, c2, rfl⟩ : ∃ c0 c1 c2, cs = [c0, c1, c2] := by
    match cs, hl with
    | [c0, c1, c2], _ => exact ⟨c0, c1, c2, rfl⟩
  obtain ⟨y0, y1, m, _, _, h0, h1⟩ := trod_struct2 Try.underlying75 h
  have c24 : Try.prog.cellsOf 2 = 1 := by kernel_rfl
  have c25 : Try.prog.cellsOf 49 = 2 := by kernel_rfl
  have h0' : DataW.trod enc Try.prog W base spare held m 2 [c0] = some y0 := by simpa [c24] using h0
  have h1' : DataW.trod enc Try.prog W base spare held m 49 [c1, c2] = some y1 := by simpa [c25] using h1
  obtain ⟨A, hA, _, hw⟩ := DataW.trod_int Try.underlying2 h0'
  obtain ⟨r, s, hrs⟩ := pair_cells h1' rfl
  simp at hA
  subst hA
  exact ⟨A, r, s, bounds_i64 hw, by rw [hrs]⟩

theorem zero_in : -9223372036854775808 ≤ (0 : Int) ∧ (0 : Int) ≤ 9223372036854775807 := by decide

theorem sps_of {H : Type} {enc : TypeId × Value → H} {W : World} {base : Nat} {spare : Nat → Bool} {held : Bool} {a : Option Addr} {len cap : Nat} {d : DataW H} {p : List MemPlace}
    (h : DataW.Trod enc Try.prog W base spare held 55 (.slice a len cap) d p) : len ≤ maxLen ∧ ∃ A F, (∀ k, -9223372036854775808 ≤ A k ∧ A k ≤ 9223372036854775807) ∧ PxV a (len * 3) (spv A F) W := by
  obtain ⟨fuel, hf⟩ := h
  rcases DataW.trod_slice Try.underlying55 hf with ⟨hcs, _⟩ | ⟨x, l, c, elems, rest, n, _, hcs, _, hb, hl, hm, hlen, hel, _, _⟩
  · simp [Value.cells] at hcs
    obtain ⟨rfl, rfl, rfl⟩ := hcs
    exact ⟨by unfold maxLen; omega, fun _ => 0, fun _ => 0, fun _ => zero_in, .inl (by simp)⟩
  · simp [Value.cells] at hcs
    obtain ⟨rfl, rfl, rfl⟩ := hcs
    refine ⟨Nat.le_trans hl hm, ?_⟩
    by_cases h0 : len = 0
    · exact ⟨fun _ => 0, fun _ => 0, fun _ => zero_in, .inl (by simp [h0])⟩
    have each : ∀ i, ∃ q : Int × Nat × Nat, (-9223372036854775808 ≤ q.1 ∧ q.1 ≤ 9223372036854775807) ∧ (i < len → W.cell? (x.add (i * 3)) = some (.int .i64 q.1) ∧ W.cell? ((x.add (i * 3)).add 1) = some (.float .f64 q.2.1) ∧ W.cell? ((x.add (i * 3)).add 2) = some (.float .f64 q.2.2)) := by
      intro i
      by_cases hi : i < len
      · have := hel i hi
        rw [List.getElem?_eq_getElem (by omega)] at this
        obtain ⟨cs, hc, ht⟩ := Option.bind_eq_some_iff.1 this
        have hc' : W.cells? base (x.add (i * 3)) 3 = some cs := by rw [cellsLSp] at hc; exact hc
        obtain ⟨_, hcl, hcc⟩ := World.cells?_some hc'
        obtain ⟨A, r, s, hA, rfl⟩ := spot_cells ht hcl
        refine ⟨(A, r, s), hA, fun _ => ⟨?_, ?_, ?_⟩⟩
        · have := hcc 0 (by omega)
          simpa [Addr.add] using this
        · have := hcc 1 (by omega)
          simpa using this
        · have := hcc 2 (by omega)
          simpa using this
      · exact ⟨(0, 0, 0), ⟨by decide, by decide⟩, fun h => absurd h hi⟩
    obtain ⟨q, hq⟩ := Classical.skolem.1 each
    obtain ⟨b, off, spot⟩ := x
    have hspot : spot = none := by
      have := ((hq 0).2 (by omega)).1
      simpa [Addr.add] using World.cell?_spot this
    subst hspot
    refine ⟨fun k => (q k).1, fun k => if k % 2 = 0 then (q (k / 2)).2.1 else (q (k / 2)).2.2, fun k => (hq k).1, .inr ⟨b, off, rfl, fun k hk => ?_⟩⟩
    have := (hq (k / 3)).2 (by omega)
    rw [add_plain, add_plain, add_plain] at this
    unfold spv
    by_cases e : k % 3 = 0
    · rw [if_pos e, ← this.1]
      congr 2; omega
    · by_cases e1 : k % 3 = 1
      · rw [if_neg e, if_pos e1]
        show _ = some (Value.float .f64 (if k / 3 * 2 % 2 = 0 then (q (k / 3 * 2 / 2)).2.1 else (q (k / 3 * 2 / 2)).2.2))
        rw [if_pos (by omega), show k / 3 * 2 / 2 = k / 3 from by omega, ← this.2.1]
        congr 2; omega
      · rw [if_neg e, if_neg e1]
        show _ = some (Value.float .f64 (if (k / 3 * 2 + 1) % 2 = 0 then (q ((k / 3 * 2 + 1) / 2)).2.1 else (q ((k / 3 * 2 + 1) / 2)).2.2))
        rw [if_neg (by omega), show (k / 3 * 2 + 1) / 2 = k / 3 from by omega, ← this.2.2]
        congr 2; omega

end Go.Proofs.Ytfgjooddolnifaa
