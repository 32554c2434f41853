/-
  No cell of these rows narrows 'for every input' (looked for: loops, veiled, ifaces, maps, wideKeys, modest, calm, conditions, laid).
  DERIVED. THE GIVEN ROWS OF THIS SEAT. 10 by the template 'for every input the law returns true; each argument reads behind the call as it read before'; 0 by the template 'total and deterministic' (their statements: YtigiddkodpcpkaaTotals.lean).
  GIVEN WITH THE SEED: the statements are not yours to turn. If you find one false, say at which input.
  Laid BY PROGRAM, IN A SANDBOX (cutbox-rows.mjs): the forced cells as the released guide's own fill.sh prints them over the translation 60e3b44612d77a60… (all of the seat's roots in one cut). By AI agents, Wed Nov 11 2026. No macro, syntax, notation, axiom, sorry.
-/
import Derived.Test.YtigiddkodpcpkaaChecked
import GoSem.Claim
import GoSem.ClaimJoined
import GoSem.ClaimMapViews
import Derived.JoinedTies
import Derived.KernelRfl
namespace Go.Proofs.Ytigiddkodpcpkaa
/- THE CELL 'sum', in the pinned program and in every row, IS THE sha256 OF THE DUMP (.gsa) THAT YtigiddkodpcpkaaProg.lean LOADS. Nothing in Lean hashes anything: it is a label: what it is worth is what the hold of that sum in a sandbox is worth. -/
noncomputable def Try.pinned : Pinned := { name := "ytigiddkodpcpkaa", sum := "60e3b44612d77a60c71e69298c9a22a597ca43a04789fb69cfae61c6450614e7", checked := Try.checked }
namespace Rows
def none {H : Type} : Left H := { results := [], args := [] }

/-- 'laws.FnBends': WHATEVER THE INPUT: true; the input reads as it did. -/
def fnBendsSpec : ChangeSpec := { name := "fnBends", fn := fun _ => fun
  | [d] => { results := [.lit (.bool true)], args := [d] }
  | _ => none }
def fnBendsRow : OpenClaim := { program := "ytigiddkodpcpkaa", sum := "60e3b44612d77a60c71e69298c9a22a597ca43a04789fb69cfae61c6450614e7", func := "loop.example/g00050/laws.FnBends", spec := "fnBends", apart := false }
def FnBendsSaid : Prop := fnBendsRow.holds Try.pinned (OpenSpec.ofChange fnBendsSpec)

/-- ITS FALSE NEIGHBOUR: 'it returns false'. Refute it at one input. -/
def fnBendsWrong : ChangeSpec := { name := "fnBends", fn := fun _ => fun
  | [d] => { results := [.lit (.bool false)], args := [d] }
  | _ => none }
def FnBendsWrongFalsely : Prop := fnBendsRow.holds Try.pinned (OpenSpec.ofChange fnBendsWrong)

/-- 'laws.FnExactTurnOk': WHATEVER THE INPUT: true; the input reads as it did. -/
def fnExactTurnOkSpec : ChangeSpec := { name := "fnExactTurnOk", fn := fun _ => fun
  | [d] => { results := [.lit (.bool true)], args := [d] }
  | _ => none }
def fnExactTurnOkRow : OpenClaim := { program := "ytigiddkodpcpkaa", sum := "60e3b44612d77a60c71e69298c9a22a597ca43a04789fb69cfae61c6450614e7", func := "loop.example/g00050/laws.FnExactTurnOk", spec := "fnExactTurnOk", apart := false }
def FnExactTurnOkSaid : Prop := fnExactTurnOkRow.holds Try.pinned (OpenSpec.ofChange fnExactTurnOkSpec)

/-- ITS FALSE NEIGHBOUR: 'it returns false'. Refute it at one input. -/
def fnExactTurnOkWrong : ChangeSpec := { name := "fnExactTurnOk", fn := fun _ => fun
  | [d] => { results := [.lit (.bool false)], args := [d] }
  | _ => none }
def FnExactTurnOkWrongFalsely : Prop := fnExactTurnOkRow.holds Try.pinned (OpenSpec.ofChange fnExactTurnOkWrong)

/-- 'laws.FnExactTurnMul': WHATEVER THE INPUT: true; the input reads as it did. -/
def fnExactTurnMulSpec : ChangeSpec := { name := "fnExactTurnMul", fn := fun _ => fun
  | [d1, d2] => { results := [.lit (.bool true)], args := [d1, d2] }
  | _ => none }
def fnExactTurnMulRow : OpenClaim := { program := "ytigiddkodpcpkaa", sum := "60e3b44612d77a60c71e69298c9a22a597ca43a04789fb69cfae61c6450614e7", func := "loop.example/g00050/laws.FnExactTurnMul", spec := "fnExactTurnMul", unfollowed := true, recurses := true, apart := false }
def FnExactTurnMulSaid : Prop := fnExactTurnMulRow.holds Try.pinned (OpenSpec.ofChange fnExactTurnMulSpec)

/-- ITS FALSE NEIGHBOUR: 'it returns false'. Refute it at one input. -/
def fnExactTurnMulWrong : ChangeSpec := { name := "fnExactTurnMul", fn := fun _ => fun
  | [d1, d2] => { results := [.lit (.bool false)], args := [d1, d2] }
  | _ => none }
def FnExactTurnMulWrongFalsely : Prop := fnExactTurnMulRow.holds Try.pinned (OpenSpec.ofChange fnExactTurnMulWrong)

/-- 'laws.FnExactTurnBack': WHATEVER THE INPUT: true; the input reads as it did. -/
def fnExactTurnBackSpec : ChangeSpec := { name := "fnExactTurnBack", fn := fun _ => fun
  | [d] => { results := [.lit (.bool true)], args := [d] }
  | _ => none }
def fnExactTurnBackRow : OpenClaim := { program := "ytigiddkodpcpkaa", sum := "60e3b44612d77a60c71e69298c9a22a597ca43a04789fb69cfae61c6450614e7", func := "loop.example/g00050/laws.FnExactTurnBack", spec := "fnExactTurnBack", apart := false }
def FnExactTurnBackSaid : Prop := fnExactTurnBackRow.holds Try.pinned (OpenSpec.ofChange fnExactTurnBackSpec)

/-- ITS FALSE NEIGHBOUR: 'it returns false'. Refute it at one input. -/
def fnExactTurnBackWrong : ChangeSpec := { name := "fnExactTurnBack", fn := fun _ => fun
  | [d] => { results := [.lit (.bool false)], args := [d] }
  | _ => none }
def FnExactTurnBackWrongFalsely : Prop := fnExactTurnBackRow.holds Try.pinned (OpenSpec.ofChange fnExactTurnBackWrong)

/-- 'laws.FnExactTurnMatrix': WHATEVER THE INPUT: true; the input reads as it did. -/
def fnExactTurnMatrixSpec : ChangeSpec := { name := "fnExactTurnMatrix", fn := fun _ => fun
  | [d] => { results := [.lit (.bool true)], args := [d] }
  | _ => none }
def fnExactTurnMatrixRow : OpenClaim := { program := "ytigiddkodpcpkaa", sum := "60e3b44612d77a60c71e69298c9a22a597ca43a04789fb69cfae61c6450614e7", func := "loop.example/g00050/laws.FnExactTurnMatrix", spec := "fnExactTurnMatrix", unfollowed := true, recurses := true, apart := false }
def FnExactTurnMatrixSaid : Prop := fnExactTurnMatrixRow.holds Try.pinned (OpenSpec.ofChange fnExactTurnMatrixSpec)

/-- ITS FALSE NEIGHBOUR: 'it returns false'. Refute it at one input. -/
def fnExactTurnMatrixWrong : ChangeSpec := { name := "fnExactTurnMatrix", fn := fun _ => fun
  | [d] => { results := [.lit (.bool false)], args := [d] }
  | _ => none }
def FnExactTurnMatrixWrongFalsely : Prop := fnExactTurnMatrixRow.holds Try.pinned (OpenSpec.ofChange fnExactTurnMatrixWrong)

/-- 'laws.FnExactTurnVolume': WHATEVER THE INPUT: true; the input reads as it did. -/
def fnExactTurnVolumeSpec : ChangeSpec := { name := "fnExactTurnVolume", fn := fun _ => fun
  | [d1, d2] => { results := [.lit (.bool true)], args := [d1, d2] }
  | _ => none }
def fnExactTurnVolumeRow : OpenClaim := { program := "ytigiddkodpcpkaa", sum := "60e3b44612d77a60c71e69298c9a22a597ca43a04789fb69cfae61c6450614e7", func := "loop.example/g00050/laws.FnExactTurnVolume", spec := "fnExactTurnVolume", unfollowed := true, recurses := true, apart := false }
def FnExactTurnVolumeSaid : Prop := fnExactTurnVolumeRow.holds Try.pinned (OpenSpec.ofChange fnExactTurnVolumeSpec)

/-- ITS FALSE NEIGHBOUR: 'it returns false'. Refute it at one input. -/
def fnExactTurnVolumeWrong : ChangeSpec := { name := "fnExactTurnVolume", fn := fun _ => fun
  | [d1, d2] => { results := [.lit (.bool false)], args := [d1, d2] }
  | _ => none }
def FnExactTurnVolumeWrongFalsely : Prop := fnExactTurnVolumeRow.holds Try.pinned (OpenSpec.ofChange fnExactTurnVolumeWrong)

/-- 'laws.FnExactJointCounts': WHATEVER THE INPUT: true; the input reads as it did. -/
def fnExactJointCountsSpec : ChangeSpec := { name := "fnExactJointCounts", fn := fun _ => fun
  | [d1, d2] => { results := [.lit (.bool true)], args := [d1, d2] }
  | _ => none }
def fnExactJointCountsRow : OpenClaim := { program := "ytigiddkodpcpkaa", sum := "60e3b44612d77a60c71e69298c9a22a597ca43a04789fb69cfae61c6450614e7", func := "loop.example/g00050/laws.FnExactJointCounts", spec := "fnExactJointCounts", unfollowed := true, recurses := true, apart := false }
def FnExactJointCountsSaid : Prop := fnExactJointCountsRow.holds Try.pinned (OpenSpec.ofChange fnExactJointCountsSpec)

/-- ITS FALSE NEIGHBOUR: 'it returns false'. Refute it at one input. -/
def fnExactJointCountsWrong : ChangeSpec := { name := "fnExactJointCounts", fn := fun _ => fun
  | [d1, d2] => { results := [.lit (.bool false)], args := [d1, d2] }
  | _ => none }
def FnExactJointCountsWrongFalsely : Prop := fnExactJointCountsRow.holds Try.pinned (OpenSpec.ofChange fnExactJointCountsWrong)

/-- 'laws.FnExactBendOk': WHATEVER THE INPUT: true; the input reads as it did. -/
def fnExactBendOkSpec : ChangeSpec := { name := "fnExactBendOk", fn := fun _ => fun
  | [d] => { results := [.lit (.bool true)], args := [d] }
  | _ => none }
def fnExactBendOkRow : OpenClaim := { program := "ytigiddkodpcpkaa", sum := "60e3b44612d77a60c71e69298c9a22a597ca43a04789fb69cfae61c6450614e7", func := "loop.example/g00050/laws.FnExactBendOk", spec := "fnExactBendOk", apart := false }
def FnExactBendOkSaid : Prop := fnExactBendOkRow.holds Try.pinned (OpenSpec.ofChange fnExactBendOkSpec)

/-- ITS FALSE NEIGHBOUR: 'it returns false'. Refute it at one input. -/
def fnExactBendOkWrong : ChangeSpec := { name := "fnExactBendOk", fn := fun _ => fun
  | [d] => { results := [.lit (.bool false)], args := [d] }
  | _ => none }
def FnExactBendOkWrongFalsely : Prop := fnExactBendOkRow.holds Try.pinned (OpenSpec.ofChange fnExactBendOkWrong)

/-- 'laws.FnExactBendAt': WHATEVER THE INPUT: true; the input reads as it did. -/
def fnExactBendAtSpec : ChangeSpec := { name := "fnExactBendAt", fn := fun _ => fun
  | [d1, d2] => { results := [.lit (.bool true)], args := [d1, d2] }
  | _ => none }
def fnExactBendAtRow : OpenClaim := { program := "ytigiddkodpcpkaa", sum := "60e3b44612d77a60c71e69298c9a22a597ca43a04789fb69cfae61c6450614e7", func := "loop.example/g00050/laws.FnExactBendAt", spec := "fnExactBendAt", apart := false }
def FnExactBendAtSaid : Prop := fnExactBendAtRow.holds Try.pinned (OpenSpec.ofChange fnExactBendAtSpec)

/-- ITS FALSE NEIGHBOUR: 'it returns false'. Refute it at one input. -/
def fnExactBendAtWrong : ChangeSpec := { name := "fnExactBendAt", fn := fun _ => fun
  | [d1, d2] => { results := [.lit (.bool false)], args := [d1, d2] }
  | _ => none }
def FnExactBendAtWrongFalsely : Prop := fnExactBendAtRow.holds Try.pinned (OpenSpec.ofChange fnExactBendAtWrong)

/-- 'laws.FnExactBendBack': WHATEVER THE INPUT: true; the input reads as it did. -/
def fnExactBendBackSpec : ChangeSpec := { name := "fnExactBendBack", fn := fun _ => fun
  | [d1, d2] => { results := [.lit (.bool true)], args := [d1, d2] }
  | _ => none }
def fnExactBendBackRow : OpenClaim := { program := "ytigiddkodpcpkaa", sum := "60e3b44612d77a60c71e69298c9a22a597ca43a04789fb69cfae61c6450614e7", func := "loop.example/g00050/laws.FnExactBendBack", spec := "fnExactBendBack", apart := false }
def FnExactBendBackSaid : Prop := fnExactBendBackRow.holds Try.pinned (OpenSpec.ofChange fnExactBendBackSpec)

/-- ITS FALSE NEIGHBOUR: 'it returns false'. Refute it at one input. -/
def fnExactBendBackWrong : ChangeSpec := { name := "fnExactBendBack", fn := fun _ => fun
  | [d1, d2] => { results := [.lit (.bool false)], args := [d1, d2] }
  | _ => none }
def FnExactBendBackWrongFalsely : Prop := fnExactBendBackRow.holds Try.pinned (OpenSpec.ofChange fnExactBendBackWrong)

/- THE SECOND FORM. 'bulk': how many values and letters a reading holds, each counted each time it is reached (what is shared counts as often as it is met; a slice's spare places count too). A statement '..UptoSaid' is the law's where the arguments, and the package variables that the reading takes, are together of bulk at most 1048576: NARROWER than '..Said'. Prove '..Said' where nothing that the law and all that it calls make is longer than what came in: it says more and counts as full. Else prove '..UptoSaid'. A law counts once. -/
mutual
def uptoBulk {H : Type} : DataW H → Nat
  | .lit (.string bytes) => bytes.length + 1
  | .lit _ => 1
  | .nil => 1
  | .ptr d => uptoBulk d + 1
  | .slice elems spare => uptoBulkAll elems + uptoBulkAll spare + 1
  | .agg parts => uptoBulkAll parts + 1
  | .iface _ d => uptoBulk d + 1
  | .map entries => uptoBulkEntries entries + 1
  | .held _ => 1
def uptoBulkAll {H : Type} : List (DataW H) → Nat
  | [] => 0
  | d :: r => uptoBulk d + uptoBulkAll r
def uptoBulkEntries {H : Type} : List (Lit × DataW H) → Nat
  | [] => 0
  | x :: r => uptoBulkEntry x + uptoBulkEntries r
def uptoBulkEntry {H : Type} : Lit × DataW H → Nat
  | (.string bytes, d) => bytes.length + uptoBulk d + 1
  | (_, d) => uptoBulk d + 1
 end
def uptoSmall : (H : Type) → List (DataW H) → Bool := fun _ ds => decide (uptoBulkAll ds ≤ 1048576)
def OpenSpec.upto (s : _root_.Go.ChangeSpec) : _root_.Go.OpenSpec := { _root_.Go.OpenSpec.ofChange s with cond := some uptoSmall }

/-- 'laws.FnBends', WHERE WHAT IT READS IS OF BULK AT MOST 1048576: true; the input reads as it did. -/
def fnBendsUptoRow : OpenClaim := { program := "ytigiddkodpcpkaa", sum := "60e3b44612d77a60c71e69298c9a22a597ca43a04789fb69cfae61c6450614e7", func := "loop.example/g00050/laws.FnBends", spec := "fnBends", apart := false, narrowed := true }
def FnBendsUptoSaid : Prop := fnBendsUptoRow.holds Try.pinned (OpenSpec.upto fnBendsSpec)

/-- 'laws.FnExactTurnOk', WHERE WHAT IT READS IS OF BULK AT MOST 1048576: true; the input reads as it did. -/
def fnExactTurnOkUptoRow : OpenClaim := { program := "ytigiddkodpcpkaa", sum := "60e3b44612d77a60c71e69298c9a22a597ca43a04789fb69cfae61c6450614e7", func := "loop.example/g00050/laws.FnExactTurnOk", spec := "fnExactTurnOk", apart := false, narrowed := true }
def FnExactTurnOkUptoSaid : Prop := fnExactTurnOkUptoRow.holds Try.pinned (OpenSpec.upto fnExactTurnOkSpec)

/-- 'laws.FnExactTurnMul', WHERE WHAT IT READS IS OF BULK AT MOST 1048576: true; the input reads as it did. -/
def fnExactTurnMulUptoRow : OpenClaim := { program := "ytigiddkodpcpkaa", sum := "60e3b44612d77a60c71e69298c9a22a597ca43a04789fb69cfae61c6450614e7", func := "loop.example/g00050/laws.FnExactTurnMul", spec := "fnExactTurnMul", unfollowed := true, recurses := true, apart := false, narrowed := true }
def FnExactTurnMulUptoSaid : Prop := fnExactTurnMulUptoRow.holds Try.pinned (OpenSpec.upto fnExactTurnMulSpec)

/-- 'laws.FnExactTurnBack', WHERE WHAT IT READS IS OF BULK AT MOST 1048576: true; the input reads as it did. -/
def fnExactTurnBackUptoRow : OpenClaim := { program := "ytigiddkodpcpkaa", sum := "60e3b44612d77a60c71e69298c9a22a597ca43a04789fb69cfae61c6450614e7", func := "loop.example/g00050/laws.FnExactTurnBack", spec := "fnExactTurnBack", apart := false, narrowed := true }
def FnExactTurnBackUptoSaid : Prop := fnExactTurnBackUptoRow.holds Try.pinned (OpenSpec.upto fnExactTurnBackSpec)

/-- 'laws.FnExactTurnMatrix', WHERE WHAT IT READS IS OF BULK AT MOST 1048576: true; the input reads as it did. -/
def fnExactTurnMatrixUptoRow : OpenClaim := { program := "ytigiddkodpcpkaa", sum := "60e3b44612d77a60c71e69298c9a22a597ca43a04789fb69cfae61c6450614e7", func := "loop.example/g00050/laws.FnExactTurnMatrix", spec := "fnExactTurnMatrix", unfollowed := true, recurses := true, apart := false, narrowed := true }
def FnExactTurnMatrixUptoSaid : Prop := fnExactTurnMatrixUptoRow.holds Try.pinned (OpenSpec.upto fnExactTurnMatrixSpec)

/-- 'laws.FnExactTurnVolume', WHERE WHAT IT READS IS OF BULK AT MOST 1048576: true; the input reads as it did. -/
def fnExactTurnVolumeUptoRow : OpenClaim := { program := "ytigiddkodpcpkaa", sum := "60e3b44612d77a60c71e69298c9a22a597ca43a04789fb69cfae61c6450614e7", func := "loop.example/g00050/laws.FnExactTurnVolume", spec := "fnExactTurnVolume", unfollowed := true, recurses := true, apart := false, narrowed := true }
def FnExactTurnVolumeUptoSaid : Prop := fnExactTurnVolumeUptoRow.holds Try.pinned (OpenSpec.upto fnExactTurnVolumeSpec)

/-- 'laws.FnExactJointCounts', WHERE WHAT IT READS IS OF BULK AT MOST 1048576: true; the input reads as it did. -/
def fnExactJointCountsUptoRow : OpenClaim := { program := "ytigiddkodpcpkaa", sum := "60e3b44612d77a60c71e69298c9a22a597ca43a04789fb69cfae61c6450614e7", func := "loop.example/g00050/laws.FnExactJointCounts", spec := "fnExactJointCounts", unfollowed := true, recurses := true, apart := false, narrowed := true }
def FnExactJointCountsUptoSaid : Prop := fnExactJointCountsUptoRow.holds Try.pinned (OpenSpec.upto fnExactJointCountsSpec)

/-- 'laws.FnExactBendOk', WHERE WHAT IT READS IS OF BULK AT MOST 1048576: true; the input reads as it did. -/
def fnExactBendOkUptoRow : OpenClaim := { program := "ytigiddkodpcpkaa", sum := "60e3b44612d77a60c71e69298c9a22a597ca43a04789fb69cfae61c6450614e7", func := "loop.example/g00050/laws.FnExactBendOk", spec := "fnExactBendOk", apart := false, narrowed := true }
def FnExactBendOkUptoSaid : Prop := fnExactBendOkUptoRow.holds Try.pinned (OpenSpec.upto fnExactBendOkSpec)

/-- 'laws.FnExactBendAt', WHERE WHAT IT READS IS OF BULK AT MOST 1048576: true; the input reads as it did. -/
def fnExactBendAtUptoRow : OpenClaim := { program := "ytigiddkodpcpkaa", sum := "60e3b44612d77a60c71e69298c9a22a597ca43a04789fb69cfae61c6450614e7", func := "loop.example/g00050/laws.FnExactBendAt", spec := "fnExactBendAt", apart := false, narrowed := true }
def FnExactBendAtUptoSaid : Prop := fnExactBendAtUptoRow.holds Try.pinned (OpenSpec.upto fnExactBendAtSpec)

/-- 'laws.FnExactBendBack', WHERE WHAT IT READS IS OF BULK AT MOST 1048576: true; the input reads as it did. -/
def fnExactBendBackUptoRow : OpenClaim := { program := "ytigiddkodpcpkaa", sum := "60e3b44612d77a60c71e69298c9a22a597ca43a04789fb69cfae61c6450614e7", func := "loop.example/g00050/laws.FnExactBendBack", spec := "fnExactBendBack", apart := false, narrowed := true }
def FnExactBendBackUptoSaid : Prop := fnExactBendBackUptoRow.holds Try.pinned (OpenSpec.upto fnExactBendBackSpec)

end Rows
end Go.Proofs.Ytigiddkodpcpkaa
