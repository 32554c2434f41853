/-
  NARROWER THAN 'FOR EVERY INPUT', by the rows' own cells (each row's printed sentence says how): FnExactFitCost: laid · FnExactMatch: laid.
  DERIVED. THE GIVEN ROWS OF THIS SEAT. 2 by the template 'for every input the law returns true; each argument reads behind the call as it read before'; 0 by the template 'total and deterministic' (their statements: YtncaekmjpfjneaaDoorTotals.lean).
  GIVEN WITH THE SEED: the statements are not yours to turn. If you find one false, say at which input.
  Laid BY PROGRAM, IN A SANDBOX (cutbox-rows.mjs): the forced cells as the released guide's own fill.sh prints them over the translation 25326933bb6a4d5e… (all of the seat's roots in one cut). By AI agents, Wed Nov 11 2026. No macro, syntax, notation, axiom, sorry.
-/
import Derived.Test.YtncaekmjpfjneaaDoorChecked
import GoSem.Claim
import GoSem.ClaimJoined
import GoSem.ClaimMapViews
import Derived.JoinedTies
import Derived.KernelRfl
namespace Go.Proofs.YtncaekmjpfjneaaDoor
/- THE CELL 'sum', in the pinned program and in every row, IS THE sha256 OF THE DUMP (.gsa) THAT YtncaekmjpfjneaaDoorProg.lean LOADS. Nothing in Lean hashes anything: it is a label: what it is worth is what the hold of that sum in a sandbox is worth. -/
noncomputable def Tryd.pinned : Pinned := { name := "ytncaekmjpfjneaadoor", sum := "25326933bb6a4d5ebdb52e806c4500b56780a573f3ca9b31f455bd9318b80fea", checked := Tryd.checked }
namespace Rows
def none {H : Type} : Left H := { results := [], args := [] }

/- WHAT THE LISTED PACKAGE-LEVEL VARIABLES READ AS WHEN THE CALL BEGINS. Each datum BY PROGRAM (the guide's laid-datum.mjs) off the statement by which the dump's own 'gosem.cut.vars' lays the variable. In a bare row this is a premise. The card (YtncaekmjpfjneaaDoorCards.lean) ties it to the program's text. -/
def laid_loop_example_g00050_impl_turnTable {H : Type} : DataW H := .agg [.agg [.lit (.int .i64 2), .lit (.int .i64 0), .lit (.int .i64 0), .lit (.int .i64 0)], .agg [.lit (.int .i64 1), .lit (.int .i64 1), .lit (.int .i64 1), .lit (.int .i64 1)], .agg [.lit (.int .i64 1), .lit (.int .i64 1), .lit (.int .i64 1), .lit (.int .i64 (-1))], .agg [.lit (.int .i64 1), .lit (.int .i64 1), .lit (.int .i64 (-1)), .lit (.int .i64 1)], .agg [.lit (.int .i64 1), .lit (.int .i64 1), .lit (.int .i64 (-1)), .lit (.int .i64 (-1))], .agg [.lit (.int .i64 1), .lit (.int .i64 (-1)), .lit (.int .i64 1), .lit (.int .i64 1)], .agg [.lit (.int .i64 1), .lit (.int .i64 (-1)), .lit (.int .i64 1), .lit (.int .i64 (-1))], .agg [.lit (.int .i64 1), .lit (.int .i64 (-1)), .lit (.int .i64 (-1)), .lit (.int .i64 1)], .agg [.lit (.int .i64 1), .lit (.int .i64 (-1)), .lit (.int .i64 (-1)), .lit (.int .i64 (-1))], .agg [.lit (.int .i64 0), .lit (.int .i64 2), .lit (.int .i64 0), .lit (.int .i64 0)], .agg [.lit (.int .i64 0), .lit (.int .i64 0), .lit (.int .i64 2), .lit (.int .i64 0)], .agg [.lit (.int .i64 0), .lit (.int .i64 0), .lit (.int .i64 0), .lit (.int .i64 2)]]

/-- 'laws.FnExactFitCost': WHATEVER THE INPUT: true; the input reads as it did. -/
def fnExactFitCostSpec : ChangeSpec := { name := "fnExactFitCost", vars := ["loop.example/g00050/impl.turnTable"], fn := fun _ => fun
  | [d1, d2, d3, d4, d5, d6, g1] => { results := [.lit (.bool true)], args := [d1, d2, d3, d4, d5, d6], vars := [g1] }
  | _ => none }
def fnExactFitCostRow : OpenClaim := { program := "ytncaekmjpfjneaadoor", sum := "25326933bb6a4d5ebdb52e806c4500b56780a573f3ca9b31f455bd9318b80fea", func := "loop.example/g00050/laws.FnExactFitCost", spec := "fnExactFitCost", unfollowed := true, recurses := true, named := ["loop.example/g00050/impl.turnTable"], apart := false, laid := [("loop.example/g00050/impl.turnTable", laid_loop_example_g00050_impl_turnTable)] }
def FnExactFitCostSaid : Prop := fnExactFitCostRow.holds Tryd.pinned (OpenSpec.ofChange fnExactFitCostSpec)

/-- ITS FALSE NEIGHBOUR: 'it returns false'. Refute it at one input. -/
def fnExactFitCostWrong : ChangeSpec := { name := "fnExactFitCost", vars := ["loop.example/g00050/impl.turnTable"], fn := fun _ => fun
  | [d1, d2, d3, d4, d5, d6, g1] => { results := [.lit (.bool false)], args := [d1, d2, d3, d4, d5, d6], vars := [g1] }
  | _ => none }
def FnExactFitCostWrongFalsely : Prop := fnExactFitCostRow.holds Tryd.pinned (OpenSpec.ofChange fnExactFitCostWrong)

/-- 'laws.FnExactMatch': WHATEVER THE INPUT: true; the input reads as it did. -/
def fnExactMatchSpec : ChangeSpec := { name := "fnExactMatch", vars := ["loop.example/g00050/impl.turnTable"], fn := fun _ => fun
  | [d1, d2, d3, g1] => { results := [.lit (.bool true)], args := [d1, d2, d3], vars := [g1] }
  | _ => none }
def fnExactMatchRow : OpenClaim := { program := "ytncaekmjpfjneaadoor", sum := "25326933bb6a4d5ebdb52e806c4500b56780a573f3ca9b31f455bd9318b80fea", func := "loop.example/g00050/laws.FnExactMatch", spec := "fnExactMatch", unfollowed := true, recurses := true, named := ["loop.example/g00050/impl.turnTable"], apart := false, laid := [("loop.example/g00050/impl.turnTable", laid_loop_example_g00050_impl_turnTable)] }
def FnExactMatchSaid : Prop := fnExactMatchRow.holds Tryd.pinned (OpenSpec.ofChange fnExactMatchSpec)

/-- ITS FALSE NEIGHBOUR: 'it returns false'. Refute it at one input. -/
def fnExactMatchWrong : ChangeSpec := { name := "fnExactMatch", vars := ["loop.example/g00050/impl.turnTable"], fn := fun _ => fun
  | [d1, d2, d3, g1] => { results := [.lit (.bool false)], args := [d1, d2, d3], vars := [g1] }
  | _ => none }
def FnExactMatchWrongFalsely : Prop := fnExactMatchRow.holds Tryd.pinned (OpenSpec.ofChange fnExactMatchWrong)

/- THE SECOND FORM. 'bulk': how many values and letters a reading holds, each counted each time it is reached (what is shared counts as often as it is met; a slice's spare places count too). A statement '..UptoSaid' is the law's where the arguments, and the package variables that the reading takes, are together of bulk at most 1048576: NARROWER than '..Said'. Prove '..Said' where nothing that the law and all that it calls make is longer than what came in: it says more and counts as full. Else prove '..UptoSaid'. A law counts once. -/
mutual
def uptoBulk {H : Type} : DataW H → Nat
  | .lit (.string bytes) => bytes.length + 1
  | .lit _ => 1
  | .nil => 1
  | .ptr d => uptoBulk d + 1
  | .slice elems spare => uptoBulkAll elems + uptoBulkAll spare + 1
  | .agg parts => uptoBulkAll parts + 1
  | .iface _ d => uptoBulk d + 1
  | .map entries => uptoBulkEntries entries + 1
  | .held _ => 1
def uptoBulkAll {H : Type} : List (DataW H) → Nat
  | [] => 0
  | d :: r => uptoBulk d + uptoBulkAll r
def uptoBulkEntries {H : Type} : List (Lit × DataW H) → Nat
  | [] => 0
  | x :: r => uptoBulkEntry x + uptoBulkEntries r
def uptoBulkEntry {H : Type} : Lit × DataW H → Nat
  | (.string bytes, d) => bytes.length + uptoBulk d + 1
  | (_, d) => uptoBulk d + 1
 end
def uptoSmall : (H : Type) → List (DataW H) → Bool := fun _ ds => decide (uptoBulkAll ds ≤ 1048576)
def OpenSpec.upto (s : _root_.Go.ChangeSpec) : _root_.Go.OpenSpec := { _root_.Go.OpenSpec.ofChange s with cond := some uptoSmall }

/-- 'laws.FnExactFitCost', WHERE WHAT IT READS IS OF BULK AT MOST 1048576: true; the input reads as it did. -/
def fnExactFitCostUptoRow : OpenClaim := { program := "ytncaekmjpfjneaadoor", sum := "25326933bb6a4d5ebdb52e806c4500b56780a573f3ca9b31f455bd9318b80fea", func := "loop.example/g00050/laws.FnExactFitCost", spec := "fnExactFitCost", unfollowed := true, recurses := true, named := ["loop.example/g00050/impl.turnTable"], apart := false, laid := [("loop.example/g00050/impl.turnTable", laid_loop_example_g00050_impl_turnTable)], narrowed := true }
def FnExactFitCostUptoSaid : Prop := fnExactFitCostUptoRow.holds Tryd.pinned (OpenSpec.upto fnExactFitCostSpec)

/-- 'laws.FnExactMatch', WHERE WHAT IT READS IS OF BULK AT MOST 1048576: true; the input reads as it did. -/
def fnExactMatchUptoRow : OpenClaim := { program := "ytncaekmjpfjneaadoor", sum := "25326933bb6a4d5ebdb52e806c4500b56780a573f3ca9b31f455bd9318b80fea", func := "loop.example/g00050/laws.FnExactMatch", spec := "fnExactMatch", unfollowed := true, recurses := true, named := ["loop.example/g00050/impl.turnTable"], apart := false, laid := [("loop.example/g00050/impl.turnTable", laid_loop_example_g00050_impl_turnTable)], narrowed := true }
def FnExactMatchUptoSaid : Prop := fnExactMatchUptoRow.holds Tryd.pinned (OpenSpec.upto fnExactMatchSpec)

end Rows
end Go.Proofs.YtncaekmjpfjneaaDoor
