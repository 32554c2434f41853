/-
  No cell of these rows narrows 'for every input' (looked for: loops, veiled, ifaces, maps, wideKeys, modest, calm, conditions, laid).
  DERIVED. THE GIVEN ROWS OF THIS SEAT. 6 by the template 'for every input the law returns true; each argument reads behind the call as it read before'; 0 by the template 'total and deterministic' (their statements: YtlfpiifbbicbpaaTotals.lean).
  GIVEN WITH THE SEED: the statements are not yours to turn. If you find one false, say at which input.
  Laid BY PROGRAM, IN A SANDBOX (cutbox-rows.mjs): the forced cells as the released guide's own fill.sh prints them over the translation 9eb41dadc00fe101… (all of the seat's roots in one cut). By AI agents, Wed Nov 11 2026. No macro, syntax, notation, axiom, sorry.
-/
import Derived.Test.YtlfpiifbbicbpaaChecked
import GoSem.Claim
import GoSem.ClaimJoined
import GoSem.ClaimMapViews
import Derived.JoinedTies
import Derived.KernelRfl
namespace Go.Proofs.Ytlfpiifbbicbpaa
/- THE CELL 'sum', in the pinned program and in every row, IS THE sha256 OF THE DUMP (.gsa) THAT YtlfpiifbbicbpaaProg.lean LOADS. Nothing in Lean hashes anything: it is a label: what it is worth is what the hold of that sum in a sandbox is worth. -/
noncomputable def Try.pinned : Pinned := { name := "ytlfpiifbbicbpaa", sum := "9eb41dadc00fe101a8a9d57d696f3bfe3aa74bd3781557ed60b32cd817ee3253", checked := Try.checked }
namespace Rows
def none {H : Type} : Left H := { results := [], args := [] }

/-- 'laws.FnPhase': WHATEVER THE INPUT: true; the input reads as it did. -/
def fnPhaseSpec : ChangeSpec := { name := "fnPhase", fn := fun _ => fun
  | [d] => { results := [.lit (.bool true)], args := [d] }
  | _ => none }
def fnPhaseRow : OpenClaim := { program := "ytlfpiifbbicbpaa", sum := "9eb41dadc00fe101a8a9d57d696f3bfe3aa74bd3781557ed60b32cd817ee3253", func := "loop.example/g00050/laws.FnPhase", spec := "fnPhase", apart := false }
def FnPhaseSaid : Prop := fnPhaseRow.holds Try.pinned (OpenSpec.ofChange fnPhaseSpec)

/-- ITS FALSE NEIGHBOUR: 'it returns false'. Refute it at one input. -/
def fnPhaseWrong : ChangeSpec := { name := "fnPhase", fn := fun _ => fun
  | [d] => { results := [.lit (.bool false)], args := [d] }
  | _ => none }
def FnPhaseWrongFalsely : Prop := fnPhaseRow.holds Try.pinned (OpenSpec.ofChange fnPhaseWrong)

/-- 'laws.FnExactImageOk': WHATEVER THE INPUT: true; the input reads as it did. -/
def fnExactImageOkSpec : ChangeSpec := { name := "fnExactImageOk", fn := fun _ => fun
  | [d] => { results := [.lit (.bool true)], args := [d] }
  | _ => none }
def fnExactImageOkRow : OpenClaim := { program := "ytlfpiifbbicbpaa", sum := "9eb41dadc00fe101a8a9d57d696f3bfe3aa74bd3781557ed60b32cd817ee3253", func := "loop.example/g00050/laws.FnExactImageOk", spec := "fnExactImageOk", apart := false }
def FnExactImageOkSaid : Prop := fnExactImageOkRow.holds Try.pinned (OpenSpec.ofChange fnExactImageOkSpec)

/-- ITS FALSE NEIGHBOUR: 'it returns false'. Refute it at one input. -/
def fnExactImageOkWrong : ChangeSpec := { name := "fnExactImageOk", fn := fun _ => fun
  | [d] => { results := [.lit (.bool false)], args := [d] }
  | _ => none }
def FnExactImageOkWrongFalsely : Prop := fnExactImageOkRow.holds Try.pinned (OpenSpec.ofChange fnExactImageOkWrong)

/-- 'laws.FnExactResidues': WHATEVER THE INPUT: true; the input reads as it did. -/
def fnExactResiduesSpec : ChangeSpec := { name := "fnExactResidues", fn := fun _ => fun
  | [d] => { results := [.lit (.bool true)], args := [d] }
  | _ => none }
def fnExactResiduesRow : OpenClaim := { program := "ytlfpiifbbicbpaa", sum := "9eb41dadc00fe101a8a9d57d696f3bfe3aa74bd3781557ed60b32cd817ee3253", func := "loop.example/g00050/laws.FnExactResidues", spec := "fnExactResidues", apart := false }
def FnExactResiduesSaid : Prop := fnExactResiduesRow.holds Try.pinned (OpenSpec.ofChange fnExactResiduesSpec)

/-- ITS FALSE NEIGHBOUR: 'it returns false'. Refute it at one input. -/
def fnExactResiduesWrong : ChangeSpec := { name := "fnExactResidues", fn := fun _ => fun
  | [d] => { results := [.lit (.bool false)], args := [d] }
  | _ => none }
def FnExactResiduesWrongFalsely : Prop := fnExactResiduesRow.holds Try.pinned (OpenSpec.ofChange fnExactResiduesWrong)

/-- 'laws.FnExactFold': WHATEVER THE INPUT: true; the input reads as it did. -/
def fnExactFoldSpec : ChangeSpec := { name := "fnExactFold", fn := fun _ => fun
  | [d1, d2] => { results := [.lit (.bool true)], args := [d1, d2] }
  | _ => none }
def fnExactFoldRow : OpenClaim := { program := "ytlfpiifbbicbpaa", sum := "9eb41dadc00fe101a8a9d57d696f3bfe3aa74bd3781557ed60b32cd817ee3253", func := "loop.example/g00050/laws.FnExactFold", spec := "fnExactFold", apart := false }
def FnExactFoldSaid : Prop := fnExactFoldRow.holds Try.pinned (OpenSpec.ofChange fnExactFoldSpec)

/-- ITS FALSE NEIGHBOUR: 'it returns false'. Refute it at one input. -/
def fnExactFoldWrong : ChangeSpec := { name := "fnExactFold", fn := fun _ => fun
  | [d1, d2] => { results := [.lit (.bool false)], args := [d1, d2] }
  | _ => none }
def FnExactFoldWrongFalsely : Prop := fnExactFoldRow.holds Try.pinned (OpenSpec.ofChange fnExactFoldWrong)

/-- 'laws.FnExactWrap': WHATEVER THE INPUT: true; the input reads as it did. -/
def fnExactWrapSpec : ChangeSpec := { name := "fnExactWrap", fn := fun _ => fun
  | [d1, d2] => { results := [.lit (.bool true)], args := [d1, d2] }
  | _ => none }
def fnExactWrapRow : OpenClaim := { program := "ytlfpiifbbicbpaa", sum := "9eb41dadc00fe101a8a9d57d696f3bfe3aa74bd3781557ed60b32cd817ee3253", func := "loop.example/g00050/laws.FnExactWrap", spec := "fnExactWrap", apart := false }
def FnExactWrapSaid : Prop := fnExactWrapRow.holds Try.pinned (OpenSpec.ofChange fnExactWrapSpec)

/-- ITS FALSE NEIGHBOUR: 'it returns false'. Refute it at one input. -/
def fnExactWrapWrong : ChangeSpec := { name := "fnExactWrap", fn := fun _ => fun
  | [d1, d2] => { results := [.lit (.bool false)], args := [d1, d2] }
  | _ => none }
def FnExactWrapWrongFalsely : Prop := fnExactWrapRow.holds Try.pinned (OpenSpec.ofChange fnExactWrapWrong)

/-- 'laws.FnExactUnwrap': WHATEVER THE INPUT: true; the input reads as it did. -/
def fnExactUnwrapSpec : ChangeSpec := { name := "fnExactUnwrap", fn := fun _ => fun
  | [d1, d2] => { results := [.lit (.bool true)], args := [d1, d2] }
  | _ => none }
def fnExactUnwrapRow : OpenClaim := { program := "ytlfpiifbbicbpaa", sum := "9eb41dadc00fe101a8a9d57d696f3bfe3aa74bd3781557ed60b32cd817ee3253", func := "loop.example/g00050/laws.FnExactUnwrap", spec := "fnExactUnwrap", apart := false }
def FnExactUnwrapSaid : Prop := fnExactUnwrapRow.holds Try.pinned (OpenSpec.ofChange fnExactUnwrapSpec)

/-- ITS FALSE NEIGHBOUR: 'it returns false'. Refute it at one input. -/
def fnExactUnwrapWrong : ChangeSpec := { name := "fnExactUnwrap", fn := fun _ => fun
  | [d1, d2] => { results := [.lit (.bool false)], args := [d1, d2] }
  | _ => none }
def FnExactUnwrapWrongFalsely : Prop := fnExactUnwrapRow.holds Try.pinned (OpenSpec.ofChange fnExactUnwrapWrong)

/- THE SECOND FORM. 'bulk': how many values and letters a reading holds, each counted each time it is reached (what is shared counts as often as it is met; a slice's spare places count too). A statement '..UptoSaid' is the law's where the arguments, and the package variables that the reading takes, are together of bulk at most 1048576: NARROWER than '..Said'. Prove '..Said' where nothing that the law and all that it calls make is longer than what came in: it says more and counts as full. Else prove '..UptoSaid'. A law counts once. -/
mutual
def uptoBulk {H : Type} : DataW H → Nat
  | .lit (.string bytes) => bytes.length + 1
  | .lit _ => 1
  | .nil => 1
  | .ptr d => uptoBulk d + 1
  | .slice elems spare => uptoBulkAll elems + uptoBulkAll spare + 1
  | .agg parts => uptoBulkAll parts + 1
  | .iface _ d => uptoBulk d + 1
  | .map entries => uptoBulkEntries entries + 1
  | .held _ => 1
def uptoBulkAll {H : Type} : List (DataW H) → Nat
  | [] => 0
  | d :: r => uptoBulk d + uptoBulkAll r
def uptoBulkEntries {H : Type} : List (Lit × DataW H) → Nat
  | [] => 0
  | x :: r => uptoBulkEntry x + uptoBulkEntries r
def uptoBulkEntry {H : Type} : Lit × DataW H → Nat
  | (.string bytes, d) => bytes.length + uptoBulk d + 1
  | (_, d) => uptoBulk d + 1
 end
def uptoSmall : (H : Type) → List (DataW H) → Bool := fun _ ds => decide (uptoBulkAll ds ≤ 1048576)
def OpenSpec.upto (s : _root_.Go.ChangeSpec) : _root_.Go.OpenSpec := { _root_.Go.OpenSpec.ofChange s with cond := some uptoSmall }

/-- 'laws.FnPhase', WHERE WHAT IT READS IS OF BULK AT MOST 1048576: true; the input reads as it did. -/
def fnPhaseUptoRow : OpenClaim := { program := "ytlfpiifbbicbpaa", sum := "9eb41dadc00fe101a8a9d57d696f3bfe3aa74bd3781557ed60b32cd817ee3253", func := "loop.example/g00050/laws.FnPhase", spec := "fnPhase", apart := false, narrowed := true }
def FnPhaseUptoSaid : Prop := fnPhaseUptoRow.holds Try.pinned (OpenSpec.upto fnPhaseSpec)

/-- 'laws.FnExactImageOk', WHERE WHAT IT READS IS OF BULK AT MOST 1048576: true; the input reads as it did. -/
def fnExactImageOkUptoRow : OpenClaim := { program := "ytlfpiifbbicbpaa", sum := "9eb41dadc00fe101a8a9d57d696f3bfe3aa74bd3781557ed60b32cd817ee3253", func := "loop.example/g00050/laws.FnExactImageOk", spec := "fnExactImageOk", apart := false, narrowed := true }
def FnExactImageOkUptoSaid : Prop := fnExactImageOkUptoRow.holds Try.pinned (OpenSpec.upto fnExactImageOkSpec)

/-- 'laws.FnExactResidues', WHERE WHAT IT READS IS OF BULK AT MOST 1048576: true; the input reads as it did. -/
def fnExactResiduesUptoRow : OpenClaim := { program := "ytlfpiifbbicbpaa", sum := "9eb41dadc00fe101a8a9d57d696f3bfe3aa74bd3781557ed60b32cd817ee3253", func := "loop.example/g00050/laws.FnExactResidues", spec := "fnExactResidues", apart := false, narrowed := true }
def FnExactResiduesUptoSaid : Prop := fnExactResiduesUptoRow.holds Try.pinned (OpenSpec.upto fnExactResiduesSpec)

/-- 'laws.FnExactFold', WHERE WHAT IT READS IS OF BULK AT MOST 1048576: true; the input reads as it did. -/
def fnExactFoldUptoRow : OpenClaim := { program := "ytlfpiifbbicbpaa", sum := "9eb41dadc00fe101a8a9d57d696f3bfe3aa74bd3781557ed60b32cd817ee3253", func := "loop.example/g00050/laws.FnExactFold", spec := "fnExactFold", apart := false, narrowed := true }
def FnExactFoldUptoSaid : Prop := fnExactFoldUptoRow.holds Try.pinned (OpenSpec.upto fnExactFoldSpec)

/-- 'laws.FnExactWrap', WHERE WHAT IT READS IS OF BULK AT MOST 1048576: true; the input reads as it did. -/
def fnExactWrapUptoRow : OpenClaim := { program := "ytlfpiifbbicbpaa", sum := "9eb41dadc00fe101a8a9d57d696f3bfe3aa74bd3781557ed60b32cd817ee3253", func := "loop.example/g00050/laws.FnExactWrap", spec := "fnExactWrap", apart := false, narrowed := true }
def FnExactWrapUptoSaid : Prop := fnExactWrapUptoRow.holds Try.pinned (OpenSpec.upto fnExactWrapSpec)

/-- 'laws.FnExactUnwrap', WHERE WHAT IT READS IS OF BULK AT MOST 1048576: true; the input reads as it did. -/
def fnExactUnwrapUptoRow : OpenClaim := { program := "ytlfpiifbbicbpaa", sum := "9eb41dadc00fe101a8a9d57d696f3bfe3aa74bd3781557ed60b32cd817ee3253", func := "loop.example/g00050/laws.FnExactUnwrap", spec := "fnExactUnwrap", apart := false, narrowed := true }
def FnExactUnwrapUptoSaid : Prop := fnExactUnwrapUptoRow.holds Try.pinned (OpenSpec.upto fnExactUnwrapSpec)

end Rows
end Go.Proofs.Ytlfpiifbbicbpaa
