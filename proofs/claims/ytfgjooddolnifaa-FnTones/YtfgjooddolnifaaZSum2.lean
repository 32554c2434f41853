/- The sum in halves of the program, over slices that are cut. -/
import Derived.Test.YtfgjooddolnifaaZSum1
import Derived.Deep.DeepCutAuto
namespace Go.Proofs.Ytfgjooddolnifaa.Z
open Ieee Go.RowKit
attribute [local go_sem] run_store_float run_cadd alloc_drewN setCell_drewN shape?_drewN

/-- what the native sum in halves answers -/
def NSums (re im : Nat → Nat) (i n : Nat) (w : World) (e : Ending) (w' : World) : Prop :=
  ∃ r s, e = .returned (.complex .f64 r s) ∧ Halves re i n r ∧ Halves im i n s ∧ Below w.heap.size w w'

/-- what CxSum answers -/
def Total (re im : Nat → Nat) (n : Nat) (w : World) (e : Ending) (w' : World) : Prop :=
  ∃ r s, e = .returned (cx r s) ∧ (if 4096 < n then r = 0 ∧ s = 0 else Halves re 0 n r ∧ Halves im 0 n s) ∧ Below w.heap.size w w'

end Go.Proofs.Ytfgjooddolnifaa.Z
