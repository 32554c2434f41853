/-
  NARROWER THAN 'FOR EVERY INPUT', by the rows' own cells (each row's printed sentence says how): FnExactTurns: laid · FnTurnGroup: laid.
  DERIVED. THE GIVEN ROWS OF THIS SEAT. 2 by the template 'for every input the law returns true; each argument reads behind the call as it read before'; 0 by the template 'total and deterministic' (their statements: YtggiegfkmkaaeaaDoorTotals.lean).
  GIVEN WITH THE SEED: the statements are not yours to turn. If you find one false, say at which input.
  Laid BY PROGRAM, IN A SANDBOX (cutbox-rows.mjs): the forced cells as the released guide's own fill.sh prints them over the translation 94e812168970fc06… (all of the seat's roots in one cut). By AI agents, Wed Nov 11 2026. No macro, syntax, notation, axiom, sorry.
-/
import Derived.Test.YtggiegfkmkaaeaaDoorChecked
import GoSem.Claim
import GoSem.ClaimJoined
import GoSem.ClaimMapViews
import Derived.JoinedTies
import Derived.KernelRfl
namespace Go.Proofs.YtggiegfkmkaaeaaDoor
/- THE CELL 'sum', in the pinned program and in every row, IS THE sha256 OF THE DUMP (.gsa) THAT YtggiegfkmkaaeaaDoorProg.lean LOADS. Nothing in Lean hashes anything: it is a label: what it is worth is what the hold of that sum in a sandbox is worth. -/
noncomputable def Tryd.pinned : Pinned := { name := "ytggiegfkmkaaeaadoor", sum := "94e812168970fc0662ee4e1fb0f88686b88fa7562220f242e8fcb367d7b0abc0", checked := Tryd.checked }
namespace Rows
def none {H : Type} : Left H := { results := [], args := [] }

/- WHAT THE LISTED PACKAGE-LEVEL VARIABLES READ AS WHEN THE CALL BEGINS. Each datum BY PROGRAM (the guide's laid-datum.mjs) off the statement by which the dump's own 'gosem.cut.vars' lays the variable. In a bare row this is a premise. The card (YtggiegfkmkaaeaaDoorCards.lean) ties it to the program's text. -/
def laid_loop_example_g00050_impl_turnTable {H : Type} : DataW H := .agg [.agg [.lit (.int .i64 2), .lit (.int .i64 0), .lit (.int .i64 0), .lit (.int .i64 0)], .agg [.lit (.int .i64 1), .lit (.int .i64 1), .lit (.int .i64 1), .lit (.int .i64 1)], .agg [.lit (.int .i64 1), .lit (.int .i64 1), .lit (.int .i64 1), .lit (.int .i64 (-1))], .agg [.lit (.int .i64 1), .lit (.int .i64 1), .lit (.int .i64 (-1)), .lit (.int .i64 1)], .agg [.lit (.int .i64 1), .lit (.int .i64 1), .lit (.int .i64 (-1)), .lit (.int .i64 (-1))], .agg [.lit (.int .i64 1), .lit (.int .i64 (-1)), .lit (.int .i64 1), .lit (.int .i64 1)], .agg [.lit (.int .i64 1), .lit (.int .i64 (-1)), .lit (.int .i64 1), .lit (.int .i64 (-1))], .agg [.lit (.int .i64 1), .lit (.int .i64 (-1)), .lit (.int .i64 (-1)), .lit (.int .i64 1)], .agg [.lit (.int .i64 1), .lit (.int .i64 (-1)), .lit (.int .i64 (-1)), .lit (.int .i64 (-1))], .agg [.lit (.int .i64 0), .lit (.int .i64 2), .lit (.int .i64 0), .lit (.int .i64 0)], .agg [.lit (.int .i64 0), .lit (.int .i64 0), .lit (.int .i64 2), .lit (.int .i64 0)], .agg [.lit (.int .i64 0), .lit (.int .i64 0), .lit (.int .i64 0), .lit (.int .i64 2)]]

/-- 'laws.FnExactTurns': WHATEVER THE INPUT: true; the input reads as it did. -/
def fnExactTurnsSpec : ChangeSpec := { name := "fnExactTurns", vars := ["loop.example/g00050/impl.turnTable"], fn := fun _ => fun
  | [g1] => { results := [.lit (.bool true)], args := [], vars := [g1] }
  | _ => none }
def fnExactTurnsRow : OpenClaim := { program := "ytggiegfkmkaaeaadoor", sum := "94e812168970fc0662ee4e1fb0f88686b88fa7562220f242e8fcb367d7b0abc0", func := "loop.example/g00050/laws.FnExactTurns", spec := "fnExactTurns", named := ["loop.example/g00050/impl.turnTable"], apart := false, laid := [("loop.example/g00050/impl.turnTable", laid_loop_example_g00050_impl_turnTable)] }
def FnExactTurnsSaid : Prop := fnExactTurnsRow.holds Tryd.pinned (OpenSpec.ofChange fnExactTurnsSpec)

/-- ITS FALSE NEIGHBOUR: 'it returns false'. Refute it at one input. -/
def fnExactTurnsWrong : ChangeSpec := { name := "fnExactTurns", vars := ["loop.example/g00050/impl.turnTable"], fn := fun _ => fun
  | [g1] => { results := [.lit (.bool false)], args := [], vars := [g1] }
  | _ => none }
def FnExactTurnsWrongFalsely : Prop := fnExactTurnsRow.holds Tryd.pinned (OpenSpec.ofChange fnExactTurnsWrong)

/-- 'laws.FnTurnGroup': WHATEVER THE INPUT: true; the input reads as it did. -/
def fnTurnGroupSpec : ChangeSpec := { name := "fnTurnGroup", vars := ["loop.example/g00050/impl.turnTable"], fn := fun _ => fun
  | [d1, d2, g1] => { results := [.lit (.bool true)], args := [d1, d2], vars := [g1] }
  | _ => none }
def fnTurnGroupRow : OpenClaim := { program := "ytggiegfkmkaaeaadoor", sum := "94e812168970fc0662ee4e1fb0f88686b88fa7562220f242e8fcb367d7b0abc0", func := "loop.example/g00050/laws.FnTurnGroup", spec := "fnTurnGroup", unfollowed := true, recurses := true, named := ["loop.example/g00050/impl.turnTable"], apart := false, laid := [("loop.example/g00050/impl.turnTable", laid_loop_example_g00050_impl_turnTable)] }
def FnTurnGroupSaid : Prop := fnTurnGroupRow.holds Tryd.pinned (OpenSpec.ofChange fnTurnGroupSpec)

/-- ITS FALSE NEIGHBOUR: 'it returns false'. Refute it at one input. -/
def fnTurnGroupWrong : ChangeSpec := { name := "fnTurnGroup", vars := ["loop.example/g00050/impl.turnTable"], fn := fun _ => fun
  | [d1, d2, g1] => { results := [.lit (.bool false)], args := [d1, d2], vars := [g1] }
  | _ => none }
def FnTurnGroupWrongFalsely : Prop := fnTurnGroupRow.holds Tryd.pinned (OpenSpec.ofChange fnTurnGroupWrong)

/- THE SECOND FORM. 'bulk': how many values and letters a reading holds, each counted each time it is reached (what is shared counts as often as it is met; a slice's spare places count too). A statement '..UptoSaid' is the law's where the arguments, and the package variables that the reading takes, are together of bulk at most 1048576: NARROWER than '..Said'. Prove '..Said' where nothing that the law and all that it calls make is longer than what came in: it says more and counts as full. Else prove '..UptoSaid'. A law counts once. -/
mutual
def uptoBulk {H : Type} : DataW H → Nat
  | .lit (.string bytes) => bytes.length + 1
  | .lit _ => 1
  | .nil => 1
  | .ptr d => uptoBulk d + 1
  | .slice elems spare => uptoBulkAll elems + uptoBulkAll spare + 1
  | .agg parts => uptoBulkAll parts + 1
  | .iface _ d => uptoBulk d + 1
  | .map entries => uptoBulkEntries entries + 1
  | .held _ => 1
def uptoBulkAll {H : Type} : List (DataW H) → Nat
  | [] => 0
  | d :: r => uptoBulk d + uptoBulkAll r
def uptoBulkEntries {H : Type} : List (Lit × DataW H) → Nat
  | [] => 0
  | x :: r => uptoBulkEntry x + uptoBulkEntries r
def uptoBulkEntry {H : Type} : Lit × DataW H → Nat
  | (.string bytes, d) => bytes.length + uptoBulk d + 1
  | (_, d) => uptoBulk d + 1
 end
def uptoSmall : (H : Type) → List (DataW H) → Bool := fun _ ds => decide (uptoBulkAll ds ≤ 1048576)
def OpenSpec.upto (s : _root_.Go.ChangeSpec) : _root_.Go.OpenSpec := { _root_.Go.OpenSpec.ofChange s with cond := some uptoSmall }

/-- 'laws.FnExactTurns', WHERE WHAT IT READS IS OF BULK AT MOST 1048576: true; the input reads as it did. -/
def fnExactTurnsUptoRow : OpenClaim := { program := "ytggiegfkmkaaeaadoor", sum := "94e812168970fc0662ee4e1fb0f88686b88fa7562220f242e8fcb367d7b0abc0", func := "loop.example/g00050/laws.FnExactTurns", spec := "fnExactTurns", named := ["loop.example/g00050/impl.turnTable"], apart := false, laid := [("loop.example/g00050/impl.turnTable", laid_loop_example_g00050_impl_turnTable)], narrowed := true }
def FnExactTurnsUptoSaid : Prop := fnExactTurnsUptoRow.holds Tryd.pinned (OpenSpec.upto fnExactTurnsSpec)

/-- 'laws.FnTurnGroup', WHERE WHAT IT READS IS OF BULK AT MOST 1048576: true; the input reads as it did. -/
def fnTurnGroupUptoRow : OpenClaim := { program := "ytggiegfkmkaaeaadoor", sum := "94e812168970fc0662ee4e1fb0f88686b88fa7562220f242e8fcb367d7b0abc0", func := "loop.example/g00050/laws.FnTurnGroup", spec := "fnTurnGroup", unfollowed := true, recurses := true, named := ["loop.example/g00050/impl.turnTable"], apart := false, laid := [("loop.example/g00050/impl.turnTable", laid_loop_example_g00050_impl_turnTable)], narrowed := true }
def FnTurnGroupUptoSaid : Prop := fnTurnGroupUptoRow.holds Tryd.pinned (OpenSpec.upto fnTurnGroupSpec)

end Rows
end Go.Proofs.YtggiegfkmkaaeaaDoor
