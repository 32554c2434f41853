/- The law's own bound on the bytes. -/
import Derived.Test.YtbhomfgponhemaaFtu
namespace Go.Proofs.Ytbhomfgponhemaa.Z
open Ieee Go.RowKit

theorem big_any (a : Option Addr) (len cap : Nat) (w : World) :
    Calls Try.prog 5 #[.slice a len cap] w fun e w' => e = .returned (.bool (decide (1048576 < len))) ∧ w' = w := by
  by_cases h : 1048576 < len
  · have h' : (1048576 : Int) < (len : Int) := by omega
    rw [decide_eq_true h]
    go_enter Try.func5, Try.ntmps5
    go_wp2
    go_ret
    exact ⟨by simp, rfl⟩
  · have h' : ¬ (1048576 : Int) < (len : Int) := by omega
    rw [decide_eq_false h]
    go_enter Try.func5, Try.ntmps5
    go_wp2
    go_ret
    exact ⟨by simp, rfl⟩


end Go.Proofs.Ytbhomfgponhemaa.Z
