/-
  No cell of these rows narrows 'for every input' (looked for: loops, veiled, ifaces, maps, wideKeys, modest, calm, conditions, laid).
  DERIVED. THE GIVEN ROWS OF THIS SEAT. 2 by the template 'for every input the law returns true; each argument reads behind the call as it read before'; 0 by the template 'total and deterministic' (their statements: YtbhomfgponhemaaTotals.lean).
  GIVEN WITH THE SEED: the statements are not yours to turn. If you find one false, say at which input.
  Laid BY PROGRAM, IN A SANDBOX (cutbox-rows.mjs): the forced cells as the released guide's own fill.sh prints them over the translation e2dede576f1563c1… (all of the seat's roots in one cut). By AI agents, Wed Nov 11 2026. No macro, syntax, notation, axiom, sorry.
-/
import Derived.Test.YtbhomfgponhemaaChecked
import GoSem.Claim
import GoSem.ClaimJoined
import GoSem.ClaimMapViews
import Derived.JoinedTies
import Derived.KernelRfl
namespace Go.Proofs.Ytbhomfgponhemaa
/- THE CELL 'sum', in the pinned program and in every row, IS THE sha256 OF THE DUMP (.gsa) THAT YtbhomfgponhemaaProg.lean LOADS. Nothing in Lean hashes anything: it is a label: what it is worth is what the hold of that sum in a sandbox is worth. -/
noncomputable def Try.pinned : Pinned := { name := "ytbhomfgponhemaa", sum := "e2dede576f1563c19c1d8a5e7d0f79ab193cb00fbcdd76110de151b62bd553d0", checked := Try.checked }
namespace Rows
def none {H : Type} : Left H := { results := [], args := [] }

/-- 'laws.FnMulTurns': WHATEVER THE INPUT: true; the input reads as it did. -/
def fnMulTurnsSpec : ChangeSpec := { name := "fnMulTurns", fn := fun _ => fun
  | [d] => { results := [.lit (.bool true)], args := [d] }
  | _ => none }
def fnMulTurnsRow : OpenClaim := { program := "ytbhomfgponhemaa", sum := "e2dede576f1563c19c1d8a5e7d0f79ab193cb00fbcdd76110de151b62bd553d0", func := "loop.example/g00050/laws.FnMulTurns", spec := "fnMulTurns", apart := false }
def FnMulTurnsSaid : Prop := fnMulTurnsRow.holds Try.pinned (OpenSpec.ofChange fnMulTurnsSpec)

/-- ITS FALSE NEIGHBOUR: 'it returns false'. Refute it at one input. -/
def fnMulTurnsWrong : ChangeSpec := { name := "fnMulTurns", fn := fun _ => fun
  | [d] => { results := [.lit (.bool false)], args := [d] }
  | _ => none }
def FnMulTurnsWrongFalsely : Prop := fnMulTurnsRow.holds Try.pinned (OpenSpec.ofChange fnMulTurnsWrong)

/-- 'laws.FnExactCxMul': WHATEVER THE INPUT: true; the input reads as it did. -/
def fnExactCxMulSpec : ChangeSpec := { name := "fnExactCxMul", fn := fun _ => fun
  | [d1, d2] => { results := [.lit (.bool true)], args := [d1, d2] }
  | _ => none }
def fnExactCxMulRow : OpenClaim := { program := "ytbhomfgponhemaa", sum := "e2dede576f1563c19c1d8a5e7d0f79ab193cb00fbcdd76110de151b62bd553d0", func := "loop.example/g00050/laws.FnExactCxMul", spec := "fnExactCxMul", apart := false }
def FnExactCxMulSaid : Prop := fnExactCxMulRow.holds Try.pinned (OpenSpec.ofChange fnExactCxMulSpec)

/-- ITS FALSE NEIGHBOUR: 'it returns false'. Refute it at one input. -/
def fnExactCxMulWrong : ChangeSpec := { name := "fnExactCxMul", fn := fun _ => fun
  | [d1, d2] => { results := [.lit (.bool false)], args := [d1, d2] }
  | _ => none }
def FnExactCxMulWrongFalsely : Prop := fnExactCxMulRow.holds Try.pinned (OpenSpec.ofChange fnExactCxMulWrong)

/- THE SECOND FORM. 'bulk': how many values and letters a reading holds, each counted each time it is reached (what is shared counts as often as it is met; a slice's spare places count too). A statement '..UptoSaid' is the law's where the arguments, and the package variables that the reading takes, are together of bulk at most 1048576: NARROWER than '..Said'. Prove '..Said' where nothing that the law and all that it calls make is longer than what came in: it says more and counts as full. Else prove '..UptoSaid'. A law counts once. -/
mutual
def uptoBulk {H : Type} : DataW H → Nat
  | .lit (.string bytes) => bytes.length + 1
  | .lit _ => 1
  | .nil => 1
  | .ptr d => uptoBulk d + 1
  | .slice elems spare => uptoBulkAll elems + uptoBulkAll spare + 1
  | .agg parts => uptoBulkAll parts + 1
  | .iface _ d => uptoBulk d + 1
  | .map entries => uptoBulkEntries entries + 1
  | .held _ => 1
def uptoBulkAll {H : Type} : List (DataW H) → Nat
  | [] => 0
  | d :: r => uptoBulk d + uptoBulkAll r
def uptoBulkEntries {H : Type} : List (Lit × DataW H) → Nat
  | [] => 0
  | x :: r => uptoBulkEntry x + uptoBulkEntries r
def uptoBulkEntry {H : Type} : Lit × DataW H → Nat
  | (.string bytes, d) => bytes.length + uptoBulk d + 1
  | (_, d) => uptoBulk d + 1
 end
def uptoSmall : (H : Type) → List (DataW H) → Bool := fun _ ds => decide (uptoBulkAll ds ≤ 1048576)
def OpenSpec.upto (s : _root_.Go.ChangeSpec) : _root_.Go.OpenSpec := { _root_.Go.OpenSpec.ofChange s with cond := some uptoSmall }

/-- 'laws.FnMulTurns', WHERE WHAT IT READS IS OF BULK AT MOST 1048576: true; the input reads as it did. -/
def fnMulTurnsUptoRow : OpenClaim := { program := "ytbhomfgponhemaa", sum := "e2dede576f1563c19c1d8a5e7d0f79ab193cb00fbcdd76110de151b62bd553d0", func := "loop.example/g00050/laws.FnMulTurns", spec := "fnMulTurns", apart := false, narrowed := true }
def FnMulTurnsUptoSaid : Prop := fnMulTurnsUptoRow.holds Try.pinned (OpenSpec.upto fnMulTurnsSpec)

/-- 'laws.FnExactCxMul', WHERE WHAT IT READS IS OF BULK AT MOST 1048576: true; the input reads as it did. -/
def fnExactCxMulUptoRow : OpenClaim := { program := "ytbhomfgponhemaa", sum := "e2dede576f1563c19c1d8a5e7d0f79ab193cb00fbcdd76110de151b62bd553d0", func := "loop.example/g00050/laws.FnExactCxMul", spec := "fnExactCxMul", apart := false, narrowed := true }
def FnExactCxMulUptoSaid : Prop := fnExactCxMulUptoRow.holds Try.pinned (OpenSpec.upto fnExactCxMulSpec)

end Rows
end Go.Proofs.Ytbhomfgponhemaa
