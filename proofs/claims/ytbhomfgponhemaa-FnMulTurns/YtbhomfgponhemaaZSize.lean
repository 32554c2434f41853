/- The contract of sizeOfBits at 52 bits of fraction: the word itself. -/
import Derived.Test.YtbhomfgponhemaaZFl4
import Derived.BigQuiet
import Derived.Deep.QuietTactic
namespace Go.Proofs.Ytbhomfgponhemaa.Z
open Ieee Go.RowKit Fl
attribute [local go_sem] run_fneg

/-- a whole number that the format has, as a float -/
theorem floatOf (n x : Nat) (hx : x < inf) (h : V x = n * 2 ^ 1074) : floatOfInt .f64 (n : Int) = x := by
  show FloatKind.f64.encode (.number (decide ((n : Int) < 0)) (n : Int).natAbs 0) = x
  rw [decide_eq_false (by omega), Int.natAbs_natCast]
  exact ofNat_exact n x hx h

end Go.Proofs.Ytbhomfgponhemaa.Z
