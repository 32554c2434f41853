/- A region that draws its order, whose operations only read and whose callees make memory alone: one walk serves every order. -/
import Derived.Test.YtekoioggamhlaaaIls
import Derived.Deep.Quiet
import Derived.BigQuiet
namespace Go.Proofs.Ytekoioggamhlaaa
open Go.RowKit

/-- a world that came out of another one by making memory -/
def Up (wb : World) : Type := { w' : World // Below wb.heap.size wb w' }
def Up.w {wb : World} (p : Up wb) : World := p.1
theorem Up.below {wb : World} (p : Up wb) : Below wb.heap.size wb p.w := p.2
theorem Up.cell {wb : World} (p : Up wb) {x : Addr} {v : Value} (h : wb.cell? x = some v) : p.w.cell? x = some v := (p.below.cell (World.block_lt_of_cell? _ _ h)).trans h
theorem up_ne (wb : World) : Nonempty (Up wb) := ⟨⟨wb, Below.refl _ _⟩⟩
theorem region_up {P : Program} {id : Nat} {Q : Exit → Act → World → Prop} {a : Act} {wb : World} {l : List Oper} (hm : P.follows .mixedOrders = true) (hB : Region.lexB .any l.toArray = true)
    (h : wpQuiet P l.toArray (fun w' => ∃ p : Up wb, w' = p.w) (fun a' => ∀ w', (∃ p : Up wb, w' = p.w) → Q .normal a' w') l a) : (Code.region id l.toArray true).wp P Q a wb :=
  wp_region_quiet (C := fun w' => ∃ p : Up wb, w' = p.w) hm hB ⟨⟨wb.drew, (Below.refl _ _).drew⟩, rfl⟩ (by simpa using h)
/-- a callee that makes memory alone -/
theorem calls_up {P : Program} {f : FuncId} {args : Array Value} {wb : World} {p : Up wb} {v : Value}
    (h : Calls P f args p.w fun e w' => e = .returned v ∧ Below p.w.heap.size p.w w') : Calls P f args p.w fun e w'' => e = .returned v ∧ ∃ q : Up wb, w'' = q.w :=
  h.mono fun _ w' ⟨he, hb⟩ => ⟨he, ⟨w', bnext p.below (Nat.le_refl _) hb⟩, rfl⟩

end Go.Proofs.Ytekoioggamhlaaa
