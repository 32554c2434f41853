/-
  No cell of these rows narrows 'for every input' (looked for: loops, veiled, ifaces, maps, wideKeys, modest, calm, conditions, laid).
  DERIVED. THE GIVEN ROWS OF THIS SEAT. 11 by the template 'for every input the law returns true; each argument reads behind the call as it read before'; 0 by the template 'total and deterministic' (their statements: YtocmbdckjdggiaaTotals.lean).
  GIVEN WITH THE SEED: the statements are not yours to turn. If you find one false, say at which input.
  Laid BY PROGRAM, IN A SANDBOX (cutbox-rows.mjs): the forced cells as the released guide's own fill.sh prints them over the translation 08b377f71caef668… (all of the seat's roots in one cut). By AI agents, Wed Nov 11 2026. No macro, syntax, notation, axiom, sorry.
-/
import Derived.Test.YtocmbdckjdggiaaChecked
import GoSem.Claim
import GoSem.ClaimJoined
import GoSem.ClaimMapViews
import Derived.JoinedTies
import Derived.KernelRfl
namespace Go.Proofs.Ytocmbdckjdggiaa
/- THE CELL 'sum', in the pinned program and in every row, IS THE sha256 OF THE DUMP (.gsa) THAT YtocmbdckjdggiaaProg.lean LOADS. Nothing in Lean hashes anything: it is a label: what it is worth is what the hold of that sum in a sandbox is worth. -/
noncomputable def Try.pinned : Pinned := { name := "ytocmbdckjdggiaa", sum := "08b377f71caef668491ada6346c2b1aa945aabac0732cc95dd41e86ab3bbc4d0", checked := Try.checked }
namespace Rows
def none {H : Type} : Left H := { results := [], args := [] }

/-- 'laws.FnLeavesGive': WHATEVER THE INPUT: true; the input reads as it did. -/
def fnLeavesGiveSpec : ChangeSpec := { name := "fnLeavesGive", fn := fun _ => fun
  | [d] => { results := [.lit (.bool true)], args := [d] }
  | _ => none }
def fnLeavesGiveRow : OpenClaim := { program := "ytocmbdckjdggiaa", sum := "08b377f71caef668491ada6346c2b1aa945aabac0732cc95dd41e86ab3bbc4d0", func := "loop.example/g00050/laws.FnLeavesGive", spec := "fnLeavesGive", apart := false }
def FnLeavesGiveSaid : Prop := fnLeavesGiveRow.holds Try.pinned (OpenSpec.ofChange fnLeavesGiveSpec)

/-- ITS FALSE NEIGHBOUR: 'it returns false'. Refute it at one input. -/
def fnLeavesGiveWrong : ChangeSpec := { name := "fnLeavesGive", fn := fun _ => fun
  | [d] => { results := [.lit (.bool false)], args := [d] }
  | _ => none }
def FnLeavesGiveWrongFalsely : Prop := fnLeavesGiveRow.holds Try.pinned (OpenSpec.ofChange fnLeavesGiveWrong)

/-- 'laws.FnNoPlan': WHATEVER THE INPUT: true; the input reads as it did. -/
def fnNoPlanSpec : ChangeSpec := { name := "fnNoPlan", fn := fun _ => fun
  | [d1, d2] => { results := [.lit (.bool true)], args := [d1, d2] }
  | _ => none }
def fnNoPlanRow : OpenClaim := { program := "ytocmbdckjdggiaa", sum := "08b377f71caef668491ada6346c2b1aa945aabac0732cc95dd41e86ab3bbc4d0", func := "loop.example/g00050/laws.FnNoPlan", spec := "fnNoPlan", apart := false }
def FnNoPlanSaid : Prop := fnNoPlanRow.holds Try.pinned (OpenSpec.ofChange fnNoPlanSpec)

/-- ITS FALSE NEIGHBOUR: 'it returns false'. Refute it at one input. -/
def fnNoPlanWrong : ChangeSpec := { name := "fnNoPlan", fn := fun _ => fun
  | [d1, d2] => { results := [.lit (.bool false)], args := [d1, d2] }
  | _ => none }
def FnNoPlanWrongFalsely : Prop := fnNoPlanRow.holds Try.pinned (OpenSpec.ofChange fnNoPlanWrong)

/-- 'laws.FnExactLeaves': WHATEVER THE INPUT: true; the input reads as it did. -/
def fnExactLeavesSpec : ChangeSpec := { name := "fnExactLeaves", fn := fun _ => fun
  | [d] => { results := [.lit (.bool true)], args := [d] }
  | _ => none }
def fnExactLeavesRow : OpenClaim := { program := "ytocmbdckjdggiaa", sum := "08b377f71caef668491ada6346c2b1aa945aabac0732cc95dd41e86ab3bbc4d0", func := "loop.example/g00050/laws.FnExactLeaves", spec := "fnExactLeaves", apart := false }
def FnExactLeavesSaid : Prop := fnExactLeavesRow.holds Try.pinned (OpenSpec.ofChange fnExactLeavesSpec)

/-- ITS FALSE NEIGHBOUR: 'it returns false'. Refute it at one input. -/
def fnExactLeavesWrong : ChangeSpec := { name := "fnExactLeaves", fn := fun _ => fun
  | [d] => { results := [.lit (.bool false)], args := [d] }
  | _ => none }
def FnExactLeavesWrongFalsely : Prop := fnExactLeavesRow.holds Try.pinned (OpenSpec.ofChange fnExactLeavesWrong)

/-- 'laws.FnExactGiven': WHATEVER THE INPUT: true; the input reads as it did. -/
def fnExactGivenSpec : ChangeSpec := { name := "fnExactGiven", fn := fun _ => fun
  | [d1, d2] => { results := [.lit (.bool true)], args := [d1, d2] }
  | _ => none }
def fnExactGivenRow : OpenClaim := { program := "ytocmbdckjdggiaa", sum := "08b377f71caef668491ada6346c2b1aa945aabac0732cc95dd41e86ab3bbc4d0", func := "loop.example/g00050/laws.FnExactGiven", spec := "fnExactGiven", apart := false }
def FnExactGivenSaid : Prop := fnExactGivenRow.holds Try.pinned (OpenSpec.ofChange fnExactGivenSpec)

/-- ITS FALSE NEIGHBOUR: 'it returns false'. Refute it at one input. -/
def fnExactGivenWrong : ChangeSpec := { name := "fnExactGiven", fn := fun _ => fun
  | [d1, d2] => { results := [.lit (.bool false)], args := [d1, d2] }
  | _ => none }
def FnExactGivenWrongFalsely : Prop := fnExactGivenRow.holds Try.pinned (OpenSpec.ofChange fnExactGivenWrong)

/-- 'laws.FnExactLeafUnits': WHATEVER THE INPUT: true; the input reads as it did. -/
def fnExactLeafUnitsSpec : ChangeSpec := { name := "fnExactLeafUnits", fn := fun _ => fun
  | [d] => { results := [.lit (.bool true)], args := [d] }
  | _ => none }
def fnExactLeafUnitsRow : OpenClaim := { program := "ytocmbdckjdggiaa", sum := "08b377f71caef668491ada6346c2b1aa945aabac0732cc95dd41e86ab3bbc4d0", func := "loop.example/g00050/laws.FnExactLeafUnits", spec := "fnExactLeafUnits", apart := false }
def FnExactLeafUnitsSaid : Prop := fnExactLeafUnitsRow.holds Try.pinned (OpenSpec.ofChange fnExactLeafUnitsSpec)

/-- ITS FALSE NEIGHBOUR: 'it returns false'. Refute it at one input. -/
def fnExactLeafUnitsWrong : ChangeSpec := { name := "fnExactLeafUnits", fn := fun _ => fun
  | [d] => { results := [.lit (.bool false)], args := [d] }
  | _ => none }
def FnExactLeafUnitsWrongFalsely : Prop := fnExactLeafUnitsRow.holds Try.pinned (OpenSpec.ofChange fnExactLeafUnitsWrong)

/-- 'laws.FnExactDeliver': WHATEVER THE INPUT: true; the input reads as it did. -/
def fnExactDeliverSpec : ChangeSpec := { name := "fnExactDeliver", fn := fun _ => fun
  | [d1, d2] => { results := [.lit (.bool true)], args := [d1, d2] }
  | _ => none }
def fnExactDeliverRow : OpenClaim := { program := "ytocmbdckjdggiaa", sum := "08b377f71caef668491ada6346c2b1aa945aabac0732cc95dd41e86ab3bbc4d0", func := "loop.example/g00050/laws.FnExactDeliver", spec := "fnExactDeliver", unfollowed := true, recurses := true, apart := false }
def FnExactDeliverSaid : Prop := fnExactDeliverRow.holds Try.pinned (OpenSpec.ofChange fnExactDeliverSpec)

/-- ITS FALSE NEIGHBOUR: 'it returns false'. Refute it at one input. -/
def fnExactDeliverWrong : ChangeSpec := { name := "fnExactDeliver", fn := fun _ => fun
  | [d1, d2] => { results := [.lit (.bool false)], args := [d1, d2] }
  | _ => none }
def FnExactDeliverWrongFalsely : Prop := fnExactDeliverRow.holds Try.pinned (OpenSpec.ofChange fnExactDeliverWrong)

/-- 'laws.FnExactGoalOk': WHATEVER THE INPUT: true; the input reads as it did. -/
def fnExactGoalOkSpec : ChangeSpec := { name := "fnExactGoalOk", fn := fun _ => fun
  | [d] => { results := [.lit (.bool true)], args := [d] }
  | _ => none }
def fnExactGoalOkRow : OpenClaim := { program := "ytocmbdckjdggiaa", sum := "08b377f71caef668491ada6346c2b1aa945aabac0732cc95dd41e86ab3bbc4d0", func := "loop.example/g00050/laws.FnExactGoalOk", spec := "fnExactGoalOk", apart := false }
def FnExactGoalOkSaid : Prop := fnExactGoalOkRow.holds Try.pinned (OpenSpec.ofChange fnExactGoalOkSpec)

/-- ITS FALSE NEIGHBOUR: 'it returns false'. Refute it at one input. -/
def fnExactGoalOkWrong : ChangeSpec := { name := "fnExactGoalOk", fn := fun _ => fun
  | [d] => { results := [.lit (.bool false)], args := [d] }
  | _ => none }
def FnExactGoalOkWrongFalsely : Prop := fnExactGoalOkRow.holds Try.pinned (OpenSpec.ofChange fnExactGoalOkWrong)

/-- 'laws.FnExactMissed': WHATEVER THE INPUT: true; the input reads as it did. -/
def fnExactMissedSpec : ChangeSpec := { name := "fnExactMissed", fn := fun _ => fun
  | [d1, d2, d3] => { results := [.lit (.bool true)], args := [d1, d2, d3] }
  | _ => none }
def fnExactMissedRow : OpenClaim := { program := "ytocmbdckjdggiaa", sum := "08b377f71caef668491ada6346c2b1aa945aabac0732cc95dd41e86ab3bbc4d0", func := "loop.example/g00050/laws.FnExactMissed", spec := "fnExactMissed", unfollowed := true, recurses := true, apart := false }
def FnExactMissedSaid : Prop := fnExactMissedRow.holds Try.pinned (OpenSpec.ofChange fnExactMissedSpec)

/-- ITS FALSE NEIGHBOUR: 'it returns false'. Refute it at one input. -/
def fnExactMissedWrong : ChangeSpec := { name := "fnExactMissed", fn := fun _ => fun
  | [d1, d2, d3] => { results := [.lit (.bool false)], args := [d1, d2, d3] }
  | _ => none }
def FnExactMissedWrongFalsely : Prop := fnExactMissedRow.holds Try.pinned (OpenSpec.ofChange fnExactMissedWrong)

/-- 'laws.FnExactAbove': WHATEVER THE INPUT: true; the input reads as it did. -/
def fnExactAboveSpec : ChangeSpec := { name := "fnExactAbove", fn := fun _ => fun
  | [d1, d2, d3] => { results := [.lit (.bool true)], args := [d1, d2, d3] }
  | _ => none }
def fnExactAboveRow : OpenClaim := { program := "ytocmbdckjdggiaa", sum := "08b377f71caef668491ada6346c2b1aa945aabac0732cc95dd41e86ab3bbc4d0", func := "loop.example/g00050/laws.FnExactAbove", spec := "fnExactAbove", recurses := true, apart := false }
def FnExactAboveSaid : Prop := fnExactAboveRow.holds Try.pinned (OpenSpec.ofChange fnExactAboveSpec)

/-- ITS FALSE NEIGHBOUR: 'it returns false'. Refute it at one input. -/
def fnExactAboveWrong : ChangeSpec := { name := "fnExactAbove", fn := fun _ => fun
  | [d1, d2, d3] => { results := [.lit (.bool false)], args := [d1, d2, d3] }
  | _ => none }
def FnExactAboveWrongFalsely : Prop := fnExactAboveRow.holds Try.pinned (OpenSpec.ofChange fnExactAboveWrong)

/-- 'laws.FnExactRefutes': WHATEVER THE INPUT: true; the input reads as it did. -/
def fnExactRefutesSpec : ChangeSpec := { name := "fnExactRefutes", fn := fun _ => fun
  | [d1, d2] => { results := [.lit (.bool true)], args := [d1, d2] }
  | _ => none }
def fnExactRefutesRow : OpenClaim := { program := "ytocmbdckjdggiaa", sum := "08b377f71caef668491ada6346c2b1aa945aabac0732cc95dd41e86ab3bbc4d0", func := "loop.example/g00050/laws.FnExactRefutes", spec := "fnExactRefutes", apart := false }
def FnExactRefutesSaid : Prop := fnExactRefutesRow.holds Try.pinned (OpenSpec.ofChange fnExactRefutesSpec)

/-- ITS FALSE NEIGHBOUR: 'it returns false'. Refute it at one input. -/
def fnExactRefutesWrong : ChangeSpec := { name := "fnExactRefutes", fn := fun _ => fun
  | [d1, d2] => { results := [.lit (.bool false)], args := [d1, d2] }
  | _ => none }
def FnExactRefutesWrongFalsely : Prop := fnExactRefutesRow.holds Try.pinned (OpenSpec.ofChange fnExactRefutesWrong)

/-- 'laws.FnExactKeeps': WHATEVER THE INPUT: true; the input reads as it did. -/
def fnExactKeepsSpec : ChangeSpec := { name := "fnExactKeeps", fn := fun _ => fun
  | [d1, d2] => { results := [.lit (.bool true)], args := [d1, d2] }
  | _ => none }
def fnExactKeepsRow : OpenClaim := { program := "ytocmbdckjdggiaa", sum := "08b377f71caef668491ada6346c2b1aa945aabac0732cc95dd41e86ab3bbc4d0", func := "loop.example/g00050/laws.FnExactKeeps", spec := "fnExactKeeps", apart := false }
def FnExactKeepsSaid : Prop := fnExactKeepsRow.holds Try.pinned (OpenSpec.ofChange fnExactKeepsSpec)

/-- ITS FALSE NEIGHBOUR: 'it returns false'. Refute it at one input. -/
def fnExactKeepsWrong : ChangeSpec := { name := "fnExactKeeps", fn := fun _ => fun
  | [d1, d2] => { results := [.lit (.bool false)], args := [d1, d2] }
  | _ => none }
def FnExactKeepsWrongFalsely : Prop := fnExactKeepsRow.holds Try.pinned (OpenSpec.ofChange fnExactKeepsWrong)

/- THE SECOND FORM. 'bulk': how many values and letters a reading holds, each counted each time it is reached (what is shared counts as often as it is met; a slice's spare places count too). A statement '..UptoSaid' is the law's where the arguments, and the package variables that the reading takes, are together of bulk at most 1048576: NARROWER than '..Said'. Prove '..Said' where nothing that the law and all that it calls make is longer than what came in: it says more and counts as full. Else prove '..UptoSaid'. A law counts once. -/
mutual
def uptoBulk {H : Type} : DataW H → Nat
  | .lit (.string bytes) => bytes.length + 1
  | .lit _ => 1
  | .nil => 1
  | .ptr d => uptoBulk d + 1
  | .slice elems spare => uptoBulkAll elems + uptoBulkAll spare + 1
  | .agg parts => uptoBulkAll parts + 1
  | .iface _ d => uptoBulk d + 1
  | .map entries => uptoBulkEntries entries + 1
  | .held _ => 1
def uptoBulkAll {H : Type} : List (DataW H) → Nat
  | [] => 0
  | d :: r => uptoBulk d + uptoBulkAll r
def uptoBulkEntries {H : Type} : List (Lit × DataW H) → Nat
  | [] => 0
  | x :: r => uptoBulkEntry x + uptoBulkEntries r
def uptoBulkEntry {H : Type} : Lit × DataW H → Nat
  | (.string bytes, d) => bytes.length + uptoBulk d + 1
  | (_, d) => uptoBulk d + 1
 end
def uptoSmall : (H : Type) → List (DataW H) → Bool := fun _ ds => decide (uptoBulkAll ds ≤ 1048576)
def OpenSpec.upto (s : _root_.Go.ChangeSpec) : _root_.Go.OpenSpec := { _root_.Go.OpenSpec.ofChange s with cond := some uptoSmall }

/-- 'laws.FnLeavesGive', WHERE WHAT IT READS IS OF BULK AT MOST 1048576: true; the input reads as it did. -/
def fnLeavesGiveUptoRow : OpenClaim := { program := "ytocmbdckjdggiaa", sum := "08b377f71caef668491ada6346c2b1aa945aabac0732cc95dd41e86ab3bbc4d0", func := "loop.example/g00050/laws.FnLeavesGive", spec := "fnLeavesGive", apart := false, narrowed := true }
def FnLeavesGiveUptoSaid : Prop := fnLeavesGiveUptoRow.holds Try.pinned (OpenSpec.upto fnLeavesGiveSpec)

/-- 'laws.FnNoPlan', WHERE WHAT IT READS IS OF BULK AT MOST 1048576: true; the input reads as it did. -/
def fnNoPlanUptoRow : OpenClaim := { program := "ytocmbdckjdggiaa", sum := "08b377f71caef668491ada6346c2b1aa945aabac0732cc95dd41e86ab3bbc4d0", func := "loop.example/g00050/laws.FnNoPlan", spec := "fnNoPlan", apart := false, narrowed := true }
def FnNoPlanUptoSaid : Prop := fnNoPlanUptoRow.holds Try.pinned (OpenSpec.upto fnNoPlanSpec)

/-- 'laws.FnExactLeaves', WHERE WHAT IT READS IS OF BULK AT MOST 1048576: true; the input reads as it did. -/
def fnExactLeavesUptoRow : OpenClaim := { program := "ytocmbdckjdggiaa", sum := "08b377f71caef668491ada6346c2b1aa945aabac0732cc95dd41e86ab3bbc4d0", func := "loop.example/g00050/laws.FnExactLeaves", spec := "fnExactLeaves", apart := false, narrowed := true }
def FnExactLeavesUptoSaid : Prop := fnExactLeavesUptoRow.holds Try.pinned (OpenSpec.upto fnExactLeavesSpec)

/-- 'laws.FnExactGiven', WHERE WHAT IT READS IS OF BULK AT MOST 1048576: true; the input reads as it did. -/
def fnExactGivenUptoRow : OpenClaim := { program := "ytocmbdckjdggiaa", sum := "08b377f71caef668491ada6346c2b1aa945aabac0732cc95dd41e86ab3bbc4d0", func := "loop.example/g00050/laws.FnExactGiven", spec := "fnExactGiven", apart := false, narrowed := true }
def FnExactGivenUptoSaid : Prop := fnExactGivenUptoRow.holds Try.pinned (OpenSpec.upto fnExactGivenSpec)

/-- 'laws.FnExactLeafUnits', WHERE WHAT IT READS IS OF BULK AT MOST 1048576: true; the input reads as it did. -/
def fnExactLeafUnitsUptoRow : OpenClaim := { program := "ytocmbdckjdggiaa", sum := "08b377f71caef668491ada6346c2b1aa945aabac0732cc95dd41e86ab3bbc4d0", func := "loop.example/g00050/laws.FnExactLeafUnits", spec := "fnExactLeafUnits", apart := false, narrowed := true }
def FnExactLeafUnitsUptoSaid : Prop := fnExactLeafUnitsUptoRow.holds Try.pinned (OpenSpec.upto fnExactLeafUnitsSpec)

/-- 'laws.FnExactDeliver', WHERE WHAT IT READS IS OF BULK AT MOST 1048576: true; the input reads as it did. -/
def fnExactDeliverUptoRow : OpenClaim := { program := "ytocmbdckjdggiaa", sum := "08b377f71caef668491ada6346c2b1aa945aabac0732cc95dd41e86ab3bbc4d0", func := "loop.example/g00050/laws.FnExactDeliver", spec := "fnExactDeliver", unfollowed := true, recurses := true, apart := false, narrowed := true }
def FnExactDeliverUptoSaid : Prop := fnExactDeliverUptoRow.holds Try.pinned (OpenSpec.upto fnExactDeliverSpec)

/-- 'laws.FnExactGoalOk', WHERE WHAT IT READS IS OF BULK AT MOST 1048576: true; the input reads as it did. -/
def fnExactGoalOkUptoRow : OpenClaim := { program := "ytocmbdckjdggiaa", sum := "08b377f71caef668491ada6346c2b1aa945aabac0732cc95dd41e86ab3bbc4d0", func := "loop.example/g00050/laws.FnExactGoalOk", spec := "fnExactGoalOk", apart := false, narrowed := true }
def FnExactGoalOkUptoSaid : Prop := fnExactGoalOkUptoRow.holds Try.pinned (OpenSpec.upto fnExactGoalOkSpec)

/-- 'laws.FnExactMissed', WHERE WHAT IT READS IS OF BULK AT MOST 1048576: true; the input reads as it did. -/
def fnExactMissedUptoRow : OpenClaim := { program := "ytocmbdckjdggiaa", sum := "08b377f71caef668491ada6346c2b1aa945aabac0732cc95dd41e86ab3bbc4d0", func := "loop.example/g00050/laws.FnExactMissed", spec := "fnExactMissed", unfollowed := true, recurses := true, apart := false, narrowed := true }
def FnExactMissedUptoSaid : Prop := fnExactMissedUptoRow.holds Try.pinned (OpenSpec.upto fnExactMissedSpec)

/-- 'laws.FnExactAbove', WHERE WHAT IT READS IS OF BULK AT MOST 1048576: true; the input reads as it did. -/
def fnExactAboveUptoRow : OpenClaim := { program := "ytocmbdckjdggiaa", sum := "08b377f71caef668491ada6346c2b1aa945aabac0732cc95dd41e86ab3bbc4d0", func := "loop.example/g00050/laws.FnExactAbove", spec := "fnExactAbove", recurses := true, apart := false, narrowed := true }
def FnExactAboveUptoSaid : Prop := fnExactAboveUptoRow.holds Try.pinned (OpenSpec.upto fnExactAboveSpec)

/-- 'laws.FnExactRefutes', WHERE WHAT IT READS IS OF BULK AT MOST 1048576: true; the input reads as it did. -/
def fnExactRefutesUptoRow : OpenClaim := { program := "ytocmbdckjdggiaa", sum := "08b377f71caef668491ada6346c2b1aa945aabac0732cc95dd41e86ab3bbc4d0", func := "loop.example/g00050/laws.FnExactRefutes", spec := "fnExactRefutes", apart := false, narrowed := true }
def FnExactRefutesUptoSaid : Prop := fnExactRefutesUptoRow.holds Try.pinned (OpenSpec.upto fnExactRefutesSpec)

/-- 'laws.FnExactKeeps', WHERE WHAT IT READS IS OF BULK AT MOST 1048576: true; the input reads as it did. -/
def fnExactKeepsUptoRow : OpenClaim := { program := "ytocmbdckjdggiaa", sum := "08b377f71caef668491ada6346c2b1aa945aabac0732cc95dd41e86ab3bbc4d0", func := "loop.example/g00050/laws.FnExactKeeps", spec := "fnExactKeeps", apart := false, narrowed := true }
def FnExactKeepsUptoSaid : Prop := fnExactKeepsUptoRow.holds Try.pinned (OpenSpec.upto fnExactKeepsSpec)

end Rows
end Go.Proofs.Ytocmbdckjdggiaa
