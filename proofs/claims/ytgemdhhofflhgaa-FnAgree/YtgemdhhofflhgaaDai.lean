/- Drawn offers and forms that are known. -/
import Derived.Test.YtgemdhhofflhgaaDag
import Derived.Test.YtgemdhhofflhgaaGrl
import Derived.BigRegion
import Derived.Deep.RegionHeld3
import Derived.Deep.AppendLies
import Derived.Deep.RegionLaw
namespace Go.Proofs.Ytgemdhhofflhgaa
open Go.RowKit

/-- the offer at hand: its box at q, its list in a block of its own behind it -/
structure OB (q : Nat) (id : Int) (L : List Int) (af : Option Addr) (cf : Nat) (w : World) : Prop where
  z0 : w.cell? ⟨q, 0, none⟩ = some (.int .i64 id)
  z1 : w.cell? ⟨q, 1, none⟩ = some (.slice af L.length cf)
  f0 : w.frozen? ⟨q, 0, none⟩ = false
  f1 : w.frozen? ⟨q, 1, none⟩ = false
  own : w.ownsRow (q + 1) 2 1 (.slice af L.length cf) L.length (ints L)
theorem OB.kept {q p : Nat} {id : Int} {L : List Int} {af : Option Addr} {cf : Nat} {w w' : World} (h : OB q id L af cf w) (hk : Kept p w w') (hp : p < q) : OB q id L af cf w' :=
  ⟨hk.cell (a := ⟨q, 0, none⟩) (by show q ≠ p; omega) h.z0, hk.cell (a := ⟨q, 1, none⟩) (by show q ≠ p; omega) h.z1, (hk.frozen (a := ⟨q, 0, none⟩) (by show q ≠ p; omega) h.z0).trans h.f0, (hk.frozen (a := ⟨q, 1, none⟩) (by show q ≠ p; omega) h.z1).trans h.f1,
    owns_keep h.own (fun b hb => hk.block b (owns_lt h.own b hb) (by have := owns_ge h.own b hb; omega))⟩
theorem Kept.setNew {p : Nat} {w w' : World} (h : Kept p w w') {a : Addr} (ha : w.heap.size ≤ a.block) (v : Value) : Kept p w (w'.setCell a v) := by
  have k : Kept a.block w' (w'.setCell a v) := (Kept.refl _ _).setCell rfl v
  exact ⟨k.os.trans h.os, k.tape.trans h.tape, k.output.trans h.output, Nat.le_trans h.size k.size, fun j hj hp => (k.block j (Nat.lt_of_lt_of_le hj h.size) (by omega)).trans (h.block j hj hp)⟩
theorem Kept.belowNew {p : Nat} {w w' w'' : World} (h : Kept p w w') (hb : Below w.heap.size w' w'') : Kept p w w'' := ⟨hb.os.trans h.os, hb.tape.trans h.tape, hb.output.trans h.output, Nat.le_trans h.size hb.size, fun j hj hp => (hb.block j hj).trans (h.block j hj hp)⟩
theorem OB.set1 {q : Nat} {id : Int} {L L' : List Int} {af af' : Option Addr} {cf cf' : Nat} {w w' : World} (h : OB q id L af cf w) (hb : Below (q + 1) w w') (ho : w'.ownsRow (q + 1) 2 1 (.slice af' L'.length cf') L'.length (ints L')) : OB q id L' af' cf' (w'.setCell ⟨q, 1, none⟩ (.slice af' L'.length cf')) := by
  have e0 : w'.cell? ⟨q, 0, none⟩ = some (.int .i64 id) := (hb.cell (p := ⟨q, 0, none⟩) (by show q < q + 1; omega)).trans h.z0
  have e1 : w'.cell? ⟨q, 1, none⟩ = some (.slice af L.length cf) := (hb.cell (p := ⟨q, 1, none⟩) (by show q < q + 1; omega)).trans h.z1
  have g0 : w'.frozen? ⟨q, 0, none⟩ = false := (hb.frozen (p := ⟨q, 0, none⟩) (by show q < q + 1; omega)).trans h.f0
  have g1 : w'.frozen? ⟨q, 1, none⟩ = false := (hb.frozen (p := ⟨q, 1, none⟩) (by show q < q + 1; omega)).trans h.f1
  have k : Kept q w' (w'.setCell ⟨q, 1, none⟩ (.slice af' L'.length cf')) := Kept.setCell (Kept.refl q w') (a := ⟨q, 1, none⟩) rfl _
  refine ⟨by rw [World.cell?_setCell_other _ _ _ _ (by simp)]; exact e0, World.cell?_setCell_same _ _ _ e1, by simpa using g0, by simpa using g1, owns_keep ho (fun b hb' => k.block b (owns_lt ho b hb') (by have := owns_ge ho b hb'; omega))⟩
theorem OB.set0 {q : Nat} {id : Int} {L : List Int} {af : Option Addr} {cf : Nat} {w : World} (h : OB q id L af cf w) (id' : Int) : OB q id' L af cf (w.setCell ⟨q, 0, none⟩ (.int .i64 id')) := by
  have k : Kept q w (w.setCell ⟨q, 0, none⟩ (.int .i64 id')) := Kept.setCell (Kept.refl q w) (a := ⟨q, 0, none⟩) rfl _
  exact ⟨World.cell?_setCell_same _ _ _ h.z0, by rw [World.cell?_setCell_other _ _ _ _ (by simp)]; exact h.z1, by simpa using h.f0, by simpa using h.f1, owns_keep h.own (fun b hb' => k.block b (owns_lt h.own b hb') (by have := owns_ge h.own b hb'; omega))⟩
/-- the offer's list, as the list of offers asks it -/
theorem OB.fm {q : Nat} {id : Int} {L : List Int} {af : Option Addr} {cf : Nat} {w : World} (h : OB q id L af cf w) {B p : Nat} {v : Value} (hL : L.length ≤ 8) (hB : B ≤ q) (hp : p < q) (hv : ∀ b, v.ownBlock = some b → b < q) : FmO B p v af L.length (fun k => L.getD k 0) w := by
  refine ⟨hL, ?_⟩
  by_cases h0 : L.length = 0
  · exact .inl h0
  · obtain ⟨b, cap, e, hb, hc⟩ := own_partsL h.own (by omega)
    cases e
    exact .inr ⟨b, rfl, by omega, World.block_lt_of_cell? w _ (hc 0 (by omega)).1, by omega, fun e => by have := hv b e; omega, fun k hk => (hc k hk).1⟩

end Go.Proofs.Ytgemdhhofflhgaa
