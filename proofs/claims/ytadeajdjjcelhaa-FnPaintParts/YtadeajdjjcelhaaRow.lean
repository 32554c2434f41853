/- How an image that came in is read. -/
import Derived.Test.YtadeajdjjcelhaaRows
import Derived.Test.YtadeajdjjcelhaaCopy
import Derived.WalkKit
import Derived.ProofKit
import Derived.OpenShut
import Derived.ShutString
import Derived.ChangeOld
import Derived.Below
import Derived.Lib.SmallJoins
import Derived.Laws.Cover2
namespace Go.Proofs.Ytadeajdjjcelhaa
open Go.ChangeShapes Go.WideShapes Go.ChangeAt Go.RowKit

theorem own : ownKnob Try.prog.godebug = none := by kernel_rfl
theorem laidOut : laidOutB Try.prog = true := by kernel_rfl
theorem Try.cells48 : Try.prog.cellsOf 48 = 3 := by kernel_rfl

theorem int_cell {H : Type} {enc : TypeId × Value → H} {P : Program} {w : World} {base : Nat} {spare : Nat → Bool} {held : Bool} {t : TypeId} {k : IntKind} {n : Nat} {v : Value} {y : DataW H × List MemPlace}
    (ht : P.underlying t = some (.int k)) (h : DataW.trod enc P w base spare held n t [v] = some y) : ∃ b, v = .int k b ∧ (Lit.int k b).wf = true := by
  obtain ⟨b, hb, _, hw⟩ := DataW.trod_int ht h
  simp at hb
  exact ⟨b, hb, hw⟩

theorem px_cell {H : Type} {enc : TypeId × Value → H} {W : World} {base : Nat} {spare : Nat → Bool} {held : Bool} {n : Nat} {v : Value} {y : DataW H × List MemPlace}
    (h : DataW.trod enc Try.prog W base spare held n 27 [v] = some y) : ∃ a len cap f, v = .slice a len cap ∧ len ≤ maxLen ∧ Px a len f W := by
  rcases open_ints Try.underlying27 Try.underlying2 (by kernel_rfl) h with ⟨hcs, _⟩ | ⟨x, l, c, zs, hcs, _, hl, hm, hz, _, hcell, hwz⟩
  · simp at hcs
    exact ⟨none, 0, 0, fun _ => 0, hcs, by unfold maxLen; omega, .inl rfl⟩
  · simp at hcs
    refine ⟨some x, l, c, fun k => zs.getD k 0, hcs, Nat.le_trans hl hm, ?_⟩
    by_cases h0 : l = 0
    · exact .inl h0
    · have hzl : l ≤ zs.length := by rw [hz]; split <;> omega
      clear hz
      obtain ⟨b, off, rfl, hc⟩ := ints_at hcell (by omega)
      exact .inr ⟨b, off, rfl, fun k hk => hc k (by omega)⟩

end Go.Proofs.Ytadeajdjjcelhaa
