/- How floats, pairs of floats and lists of them that came in are read. -/
import Derived.Test.YtfgjooddolnifaaRows
import Derived.Test.YtfgjooddolnifaaVls
import Derived.WalkKit
import Derived.ProofKit
import Derived.OpenShut
import Derived.ShutString
import Derived.ChangeOld
import Derived.Below
import Derived.Lib.SmallJoins
import Derived.Laws.Cover2
namespace Go.Proofs.Ytfgjooddolnifaa
open Go.ChangeShapes Go.WideShapes Go.ChangeAt Go.RowKit Go.Joins

theorem own : ownKnob Try.prog.godebug = none := by kernel_rfl
theorem laidOut : laidOutB Try.prog = true := by kernel_rfl
theorem cellsLCx : Try.prog.cellsOf 49 = 2 := by kernel_rfl

theorem float_cell {H : Type} {enc : TypeId × Value → H} {P : Program} {w : World} {base : Nat} {spare : Nat → Bool} {held : Bool} {t : TypeId} {k : FloatKind} {n : Nat} {v : Value} {y : DataW H × List MemPlace}
    (ht : P.underlying t = some (.float k)) (h : DataW.trod enc P w base spare held n t [v] = some y) : ∃ b, v = .float k b ∧ (Lit.float k b).wf = true := by
  cases n with
  | zero => simp [DataW.trod] at h
  | succ n =>
    simp only [DataW.trod, ht] at h
    cases v <;> simp at h
    rename_i k' b
    obtain ⟨⟨rfl, hw⟩, _⟩ := h
    exact ⟨b, rfl, hw⟩

theorem pair_cells {H : Type} {enc : TypeId × Value → H} {W : World} {base : Nat} {spare : Nat → Bool} {held : Bool} {n : Nat} {cs : List Value} {y : DataW H × List MemPlace}
    (h : DataW.trod enc Try.prog W base spare held n 49 cs = some y) (hl : cs.length = 2) : ∃ r s, cs = [.float .f64 r, .float .f64 s] := by
  obtain ⟨c0, c1, rfl⟩ : ∃ c0 c1, cs = [c0, c1] := by
    match cs, hl with
    | [c0, c1], _ => exact ⟨c0, c1, rfl⟩
  obtain ⟨y0, y1, m, _, _, h0, h1⟩ := trod_struct2 Try.underlying49 h
  have c24 : Try.prog.cellsOf 31 = 1 := by kernel_rfl
  have h0' : DataW.trod enc Try.prog W base spare held m 31 [c0] = some y0 := by simpa [c24] using h0
  have h1' : DataW.trod enc Try.prog W base spare held m 31 [c1] = some y1 := by simpa [c24] using h1
  obtain ⟨r, rfl, _⟩ := float_cell Try.underlying31 h0'
  obtain ⟨s, rfl, _⟩ := float_cell Try.underlying31 h1'
  exact ⟨r, s, rfl⟩

theorem cxs_of {H : Type} {enc : TypeId × Value → H} {W : World} {base : Nat} {spare : Nat → Bool} {held : Bool} {a : Option Addr} {len cap : Nat} {d : DataW H} {p : List MemPlace}
    (h : DataW.Trod enc Try.prog W base spare held 35 (.slice a len cap) d p) : len ≤ maxLen ∧ ∃ F, PxV a (len * 2) (flt F) W := by
  obtain ⟨fuel, hf⟩ := h
  rcases DataW.trod_slice Try.underlying35 hf with ⟨hcs, _⟩ | ⟨x, l, c, elems, rest, n, _, hcs, _, hb, hl, hm, hlen, hel, _, _⟩
  · simp [Value.cells] at hcs
    obtain ⟨rfl, rfl, rfl⟩ := hcs
    exact ⟨by unfold maxLen; omega, fun _ => 0, .inl (by simp)⟩
  · simp [Value.cells] at hcs
    obtain ⟨rfl, rfl, rfl⟩ := hcs
    refine ⟨Nat.le_trans hl hm, ?_⟩
    by_cases h0 : len = 0
    · exact ⟨fun _ => 0, .inl (by simp [h0])⟩
    have each : ∀ i, ∃ q : Nat × Nat, i < len → W.cell? (x.add (i * 2)) = some (.float .f64 q.1) ∧ W.cell? ((x.add (i * 2)).add 1) = some (.float .f64 q.2) := by
      intro i
      by_cases hi : i < len
      · have := hel i hi
        rw [List.getElem?_eq_getElem (by omega)] at this
        obtain ⟨cs, hc, ht⟩ := Option.bind_eq_some_iff.1 this
        have hc' : W.cells? base (x.add (i * 2)) 2 = some cs := by rw [cellsLCx] at hc; exact hc
        obtain ⟨_, hcl, hcc⟩ := World.cells?_some hc'
        obtain ⟨r, s, rfl⟩ := pair_cells ht hcl
        refine ⟨(r, s), fun _ => ⟨?_, ?_⟩⟩
        · have := hcc 0 (by omega)
          simpa [Addr.add] using this
        · have := hcc 1 (by omega)
          simpa using this
      · exact ⟨(0, 0), fun h => absurd h hi⟩
    obtain ⟨q, hq⟩ := Classical.skolem.1 each
    obtain ⟨b, off, spot⟩ := x
    have hspot : spot = none := by
      have := (hq 0 (by omega)).1
      simpa [Addr.add] using World.cell?_spot this
    subst hspot
    refine ⟨fun k => if k % 2 = 0 then (q (k / 2)).1 else (q (k / 2)).2, .inr ⟨b, off, rfl, fun k hk => ?_⟩⟩
    have := hq (k / 2) (by omega)
    rw [add_plain, add_plain] at this
    show W.cell? ⟨b, off + k, none⟩ = some (Value.float .f64 (if k % 2 = 0 then (q (k / 2)).1 else (q (k / 2)).2))
    by_cases e : k % 2 = 0
    · rw [if_pos e, ← this.1]
      congr 2; omega
    · rw [if_neg e, ← this.2]
      congr 2; omega

end Go.Proofs.Ytfgjooddolnifaa
