/-
  No cell of these rows narrows 'for every input' (looked for: loops, veiled, ifaces, maps, wideKeys, modest, calm, conditions, laid).
  DERIVED. THE GIVEN ROWS OF THIS SEAT. 5 by the template 'for every input the law returns true; each argument reads behind the call as it read before'; 0 by the template 'total and deterministic' (their statements: YtcaecjgopfncfaaTotals.lean).
  GIVEN WITH THE SEED: the statements are not yours to turn. If you find one false, say at which input.
  Laid BY PROGRAM, IN A SANDBOX (cutbox-rows.mjs): the forced cells as the released guide's own fill.sh prints them over the translation a65e32956e8cf83f… (all of the seat's roots in one cut). By AI agents, Wed Nov 11 2026. No macro, syntax, notation, axiom, sorry.
-/
import Derived.Test.YtcaecjgopfncfaaChecked
import GoSem.Claim
import GoSem.ClaimJoined
import GoSem.ClaimMapViews
import Derived.JoinedTies
import Derived.KernelRfl
namespace Go.Proofs.Ytcaecjgopfncfaa
/- THE CELL 'sum', in the pinned program and in every row, IS THE sha256 OF THE DUMP (.gsa) THAT YtcaecjgopfncfaaProg.lean LOADS. Nothing in Lean hashes anything: it is a label: what it is worth is what the hold of that sum in a sandbox is worth. -/
noncomputable def Try.pinned : Pinned := { name := "ytcaecjgopfncfaa", sum := "a65e32956e8cf83f17b81834069ca201ce0383829d68dea2b3f18d61bc9ab0dc", checked := Try.checked }
namespace Rows
def none {H : Type} : Left H := { results := [], args := [] }

/-- 'laws.FnCoils': WHATEVER THE INPUT: true; the input reads as it did. -/
def fnCoilsSpec : ChangeSpec := { name := "fnCoils", fn := fun _ => fun
  | [d] => { results := [.lit (.bool true)], args := [d] }
  | _ => none }
def fnCoilsRow : OpenClaim := { program := "ytcaecjgopfncfaa", sum := "a65e32956e8cf83f17b81834069ca201ce0383829d68dea2b3f18d61bc9ab0dc", func := "loop.example/g00050/laws.FnCoils", spec := "fnCoils", apart := false }
def FnCoilsSaid : Prop := fnCoilsRow.holds Try.pinned (OpenSpec.ofChange fnCoilsSpec)

/-- ITS FALSE NEIGHBOUR: 'it returns false'. Refute it at one input. -/
def fnCoilsWrong : ChangeSpec := { name := "fnCoils", fn := fun _ => fun
  | [d] => { results := [.lit (.bool false)], args := [d] }
  | _ => none }
def FnCoilsWrongFalsely : Prop := fnCoilsRow.holds Try.pinned (OpenSpec.ofChange fnCoilsWrong)

/-- 'laws.FnExactPower': WHATEVER THE INPUT: true; the input reads as it did. -/
def fnExactPowerSpec : ChangeSpec := { name := "fnExactPower", fn := fun _ => fun
  | [d1, d2] => { results := [.lit (.bool true)], args := [d1, d2] }
  | _ => none }
def fnExactPowerRow : OpenClaim := { program := "ytcaecjgopfncfaa", sum := "a65e32956e8cf83f17b81834069ca201ce0383829d68dea2b3f18d61bc9ab0dc", func := "loop.example/g00050/laws.FnExactPower", spec := "fnExactPower", apart := false }
def FnExactPowerSaid : Prop := fnExactPowerRow.holds Try.pinned (OpenSpec.ofChange fnExactPowerSpec)

/-- ITS FALSE NEIGHBOUR: 'it returns false'. Refute it at one input. -/
def fnExactPowerWrong : ChangeSpec := { name := "fnExactPower", fn := fun _ => fun
  | [d1, d2] => { results := [.lit (.bool false)], args := [d1, d2] }
  | _ => none }
def FnExactPowerWrongFalsely : Prop := fnExactPowerRow.holds Try.pinned (OpenSpec.ofChange fnExactPowerWrong)

/-- 'laws.FnExactResidues': WHATEVER THE INPUT: true; the input reads as it did. -/
def fnExactResiduesSpec : ChangeSpec := { name := "fnExactResidues", fn := fun _ => fun
  | [d] => { results := [.lit (.bool true)], args := [d] }
  | _ => none }
def fnExactResiduesRow : OpenClaim := { program := "ytcaecjgopfncfaa", sum := "a65e32956e8cf83f17b81834069ca201ce0383829d68dea2b3f18d61bc9ab0dc", func := "loop.example/g00050/laws.FnExactResidues", spec := "fnExactResidues", apart := false }
def FnExactResiduesSaid : Prop := fnExactResiduesRow.holds Try.pinned (OpenSpec.ofChange fnExactResiduesSpec)

/-- ITS FALSE NEIGHBOUR: 'it returns false'. Refute it at one input. -/
def fnExactResiduesWrong : ChangeSpec := { name := "fnExactResidues", fn := fun _ => fun
  | [d] => { results := [.lit (.bool false)], args := [d] }
  | _ => none }
def FnExactResiduesWrongFalsely : Prop := fnExactResiduesRow.holds Try.pinned (OpenSpec.ofChange fnExactResiduesWrong)

/-- 'laws.FnExactFold': WHATEVER THE INPUT: true; the input reads as it did. -/
def fnExactFoldSpec : ChangeSpec := { name := "fnExactFold", fn := fun _ => fun
  | [d1, d2] => { results := [.lit (.bool true)], args := [d1, d2] }
  | _ => none }
def fnExactFoldRow : OpenClaim := { program := "ytcaecjgopfncfaa", sum := "a65e32956e8cf83f17b81834069ca201ce0383829d68dea2b3f18d61bc9ab0dc", func := "loop.example/g00050/laws.FnExactFold", spec := "fnExactFold", apart := false }
def FnExactFoldSaid : Prop := fnExactFoldRow.holds Try.pinned (OpenSpec.ofChange fnExactFoldSpec)

/-- ITS FALSE NEIGHBOUR: 'it returns false'. Refute it at one input. -/
def fnExactFoldWrong : ChangeSpec := { name := "fnExactFold", fn := fun _ => fun
  | [d1, d2] => { results := [.lit (.bool false)], args := [d1, d2] }
  | _ => none }
def FnExactFoldWrongFalsely : Prop := fnExactFoldRow.holds Try.pinned (OpenSpec.ofChange fnExactFoldWrong)

/-- 'laws.FnExactUnfold': WHATEVER THE INPUT: true; the input reads as it did. -/
def fnExactUnfoldSpec : ChangeSpec := { name := "fnExactUnfold", fn := fun _ => fun
  | [d1, d2, d3, d4] => { results := [.lit (.bool true)], args := [d1, d2, d3, d4] }
  | _ => none }
def fnExactUnfoldRow : OpenClaim := { program := "ytcaecjgopfncfaa", sum := "a65e32956e8cf83f17b81834069ca201ce0383829d68dea2b3f18d61bc9ab0dc", func := "loop.example/g00050/laws.FnExactUnfold", spec := "fnExactUnfold", apart := false }
def FnExactUnfoldSaid : Prop := fnExactUnfoldRow.holds Try.pinned (OpenSpec.ofChange fnExactUnfoldSpec)

/-- ITS FALSE NEIGHBOUR: 'it returns false'. Refute it at one input. -/
def fnExactUnfoldWrong : ChangeSpec := { name := "fnExactUnfold", fn := fun _ => fun
  | [d1, d2, d3, d4] => { results := [.lit (.bool false)], args := [d1, d2, d3, d4] }
  | _ => none }
def FnExactUnfoldWrongFalsely : Prop := fnExactUnfoldRow.holds Try.pinned (OpenSpec.ofChange fnExactUnfoldWrong)

/- THE SECOND FORM. 'bulk': how many values and letters a reading holds, each counted each time it is reached (what is shared counts as often as it is met; a slice's spare places count too). A statement '..UptoSaid' is the law's where the arguments, and the package variables that the reading takes, are together of bulk at most 1048576: NARROWER than '..Said'. Prove '..Said' where nothing that the law and all that it calls make is longer than what came in: it says more and counts as full. Else prove '..UptoSaid'. A law counts once. -/
mutual
def uptoBulk {H : Type} : DataW H → Nat
  | .lit (.string bytes) => bytes.length + 1
  | .lit _ => 1
  | .nil => 1
  | .ptr d => uptoBulk d + 1
  | .slice elems spare => uptoBulkAll elems + uptoBulkAll spare + 1
  | .agg parts => uptoBulkAll parts + 1
  | .iface _ d => uptoBulk d + 1
  | .map entries => uptoBulkEntries entries + 1
  | .held _ => 1
def uptoBulkAll {H : Type} : List (DataW H) → Nat
  | [] => 0
  | d :: r => uptoBulk d + uptoBulkAll r
def uptoBulkEntries {H : Type} : List (Lit × DataW H) → Nat
  | [] => 0
  | x :: r => uptoBulkEntry x + uptoBulkEntries r
def uptoBulkEntry {H : Type} : Lit × DataW H → Nat
  | (.string bytes, d) => bytes.length + uptoBulk d + 1
  | (_, d) => uptoBulk d + 1
 end
def uptoSmall : (H : Type) → List (DataW H) → Bool := fun _ ds => decide (uptoBulkAll ds ≤ 1048576)
def OpenSpec.upto (s : _root_.Go.ChangeSpec) : _root_.Go.OpenSpec := { _root_.Go.OpenSpec.ofChange s with cond := some uptoSmall }

/-- 'laws.FnCoils', WHERE WHAT IT READS IS OF BULK AT MOST 1048576: true; the input reads as it did. -/
def fnCoilsUptoRow : OpenClaim := { program := "ytcaecjgopfncfaa", sum := "a65e32956e8cf83f17b81834069ca201ce0383829d68dea2b3f18d61bc9ab0dc", func := "loop.example/g00050/laws.FnCoils", spec := "fnCoils", apart := false, narrowed := true }
def FnCoilsUptoSaid : Prop := fnCoilsUptoRow.holds Try.pinned (OpenSpec.upto fnCoilsSpec)

/-- 'laws.FnExactPower', WHERE WHAT IT READS IS OF BULK AT MOST 1048576: true; the input reads as it did. -/
def fnExactPowerUptoRow : OpenClaim := { program := "ytcaecjgopfncfaa", sum := "a65e32956e8cf83f17b81834069ca201ce0383829d68dea2b3f18d61bc9ab0dc", func := "loop.example/g00050/laws.FnExactPower", spec := "fnExactPower", apart := false, narrowed := true }
def FnExactPowerUptoSaid : Prop := fnExactPowerUptoRow.holds Try.pinned (OpenSpec.upto fnExactPowerSpec)

/-- 'laws.FnExactResidues', WHERE WHAT IT READS IS OF BULK AT MOST 1048576: true; the input reads as it did. -/
def fnExactResiduesUptoRow : OpenClaim := { program := "ytcaecjgopfncfaa", sum := "a65e32956e8cf83f17b81834069ca201ce0383829d68dea2b3f18d61bc9ab0dc", func := "loop.example/g00050/laws.FnExactResidues", spec := "fnExactResidues", apart := false, narrowed := true }
def FnExactResiduesUptoSaid : Prop := fnExactResiduesUptoRow.holds Try.pinned (OpenSpec.upto fnExactResiduesSpec)

/-- 'laws.FnExactFold', WHERE WHAT IT READS IS OF BULK AT MOST 1048576: true; the input reads as it did. -/
def fnExactFoldUptoRow : OpenClaim := { program := "ytcaecjgopfncfaa", sum := "a65e32956e8cf83f17b81834069ca201ce0383829d68dea2b3f18d61bc9ab0dc", func := "loop.example/g00050/laws.FnExactFold", spec := "fnExactFold", apart := false, narrowed := true }
def FnExactFoldUptoSaid : Prop := fnExactFoldUptoRow.holds Try.pinned (OpenSpec.upto fnExactFoldSpec)

/-- 'laws.FnExactUnfold', WHERE WHAT IT READS IS OF BULK AT MOST 1048576: true; the input reads as it did. -/
def fnExactUnfoldUptoRow : OpenClaim := { program := "ytcaecjgopfncfaa", sum := "a65e32956e8cf83f17b81834069ca201ce0383829d68dea2b3f18d61bc9ab0dc", func := "loop.example/g00050/laws.FnExactUnfold", spec := "fnExactUnfold", apart := false, narrowed := true }
def FnExactUnfoldUptoSaid : Prop := fnExactUnfoldUptoRow.holds Try.pinned (OpenSpec.upto fnExactUnfoldSpec)

end Rows
end Go.Proofs.Ytcaecjgopfncfaa
