/-
  No cell of these rows narrows 'for every input' (looked for: loops, veiled, ifaces, maps, wideKeys, modest, calm, conditions, laid).
  DERIVED. THE GIVEN ROWS OF THIS SEAT. 5 by the template 'for every input the law returns true; each argument reads behind the call as it read before'; 0 by the template 'total and deterministic' (their statements: YtfgjooddolnifaaTotals.lean).
  GIVEN WITH THE SEED: the statements are not yours to turn. If you find one false, say at which input.
  Laid BY PROGRAM, IN A SANDBOX (cutbox-rows.mjs): the forced cells as the released guide's own fill.sh prints them over the translation f7181e8d18bf376d… (all of the seat's roots in one cut). By AI agents, Wed Nov 11 2026. No macro, syntax, notation, axiom, sorry.
-/
import Derived.Test.YtfgjooddolnifaaChecked
import GoSem.Claim
import GoSem.ClaimJoined
import GoSem.ClaimMapViews
import Derived.JoinedTies
import Derived.KernelRfl
namespace Go.Proofs.Ytfgjooddolnifaa
/- THE CELL 'sum', in the pinned program and in every row, IS THE sha256 OF THE DUMP (.gsa) THAT YtfgjooddolnifaaProg.lean LOADS. Nothing in Lean hashes anything: it is a label: what it is worth is what the hold of that sum in a sandbox is worth. -/
noncomputable def Try.pinned : Pinned := { name := "ytfgjooddolnifaa", sum := "f7181e8d18bf376d0c1b71efdd3c336dd56a416cc621913c80768bc88c78a9b8", checked := Try.checked }
namespace Rows
def none {H : Type} : Left H := { results := [], args := [] }

/-- 'laws.FnTones': WHATEVER THE INPUT: true; the input reads as it did. -/
def fnTonesSpec : ChangeSpec := { name := "fnTones", fn := fun _ => fun
  | [d] => { results := [.lit (.bool true)], args := [d] }
  | _ => none }
def fnTonesRow : OpenClaim := { program := "ytfgjooddolnifaa", sum := "f7181e8d18bf376d0c1b71efdd3c336dd56a416cc621913c80768bc88c78a9b8", func := "loop.example/g00050/laws.FnTones", spec := "fnTones", apart := false }
def FnTonesSaid : Prop := fnTonesRow.holds Try.pinned (OpenSpec.ofChange fnTonesSpec)

/-- ITS FALSE NEIGHBOUR: 'it returns false'. Refute it at one input. -/
def fnTonesWrong : ChangeSpec := { name := "fnTones", fn := fun _ => fun
  | [d] => { results := [.lit (.bool false)], args := [d] }
  | _ => none }
def FnTonesWrongFalsely : Prop := fnTonesRow.holds Try.pinned (OpenSpec.ofChange fnTonesWrong)

/-- 'laws.FnExactTones': WHATEVER THE INPUT: true; the input reads as it did. -/
def fnExactTonesSpec : ChangeSpec := { name := "fnExactTones", fn := fun _ => fun
  | [d] => { results := [.lit (.bool true)], args := [d] }
  | _ => none }
def fnExactTonesRow : OpenClaim := { program := "ytfgjooddolnifaa", sum := "f7181e8d18bf376d0c1b71efdd3c336dd56a416cc621913c80768bc88c78a9b8", func := "loop.example/g00050/laws.FnExactTones", spec := "fnExactTones", apart := false }
def FnExactTonesSaid : Prop := fnExactTonesRow.holds Try.pinned (OpenSpec.ofChange fnExactTonesSpec)

/-- ITS FALSE NEIGHBOUR: 'it returns false'. Refute it at one input. -/
def fnExactTonesWrong : ChangeSpec := { name := "fnExactTones", fn := fun _ => fun
  | [d] => { results := [.lit (.bool false)], args := [d] }
  | _ => none }
def FnExactTonesWrongFalsely : Prop := fnExactTonesRow.holds Try.pinned (OpenSpec.ofChange fnExactTonesWrong)

/-- 'laws.FnExactBlend': WHATEVER THE INPUT: true; the input reads as it did. -/
def fnExactBlendSpec : ChangeSpec := { name := "fnExactBlend", fn := fun _ => fun
  | [d] => { results := [.lit (.bool true)], args := [d] }
  | _ => none }
def fnExactBlendRow : OpenClaim := { program := "ytfgjooddolnifaa", sum := "f7181e8d18bf376d0c1b71efdd3c336dd56a416cc621913c80768bc88c78a9b8", func := "loop.example/g00050/laws.FnExactBlend", spec := "fnExactBlend", apart := false }
def FnExactBlendSaid : Prop := fnExactBlendRow.holds Try.pinned (OpenSpec.ofChange fnExactBlendSpec)

/-- ITS FALSE NEIGHBOUR: 'it returns false'. Refute it at one input. -/
def fnExactBlendWrong : ChangeSpec := { name := "fnExactBlend", fn := fun _ => fun
  | [d] => { results := [.lit (.bool false)], args := [d] }
  | _ => none }
def FnExactBlendWrongFalsely : Prop := fnExactBlendRow.holds Try.pinned (OpenSpec.ofChange fnExactBlendWrong)

/-- 'laws.FnExactSplit': WHATEVER THE INPUT: true; the input reads as it did. -/
def fnExactSplitSpec : ChangeSpec := { name := "fnExactSplit", fn := fun _ => fun
  | [d1, d2] => { results := [.lit (.bool true)], args := [d1, d2] }
  | _ => none }
def fnExactSplitRow : OpenClaim := { program := "ytfgjooddolnifaa", sum := "f7181e8d18bf376d0c1b71efdd3c336dd56a416cc621913c80768bc88c78a9b8", func := "loop.example/g00050/laws.FnExactSplit", spec := "fnExactSplit", apart := false }
def FnExactSplitSaid : Prop := fnExactSplitRow.holds Try.pinned (OpenSpec.ofChange fnExactSplitSpec)

/-- ITS FALSE NEIGHBOUR: 'it returns false'. Refute it at one input. -/
def fnExactSplitWrong : ChangeSpec := { name := "fnExactSplit", fn := fun _ => fun
  | [d1, d2] => { results := [.lit (.bool false)], args := [d1, d2] }
  | _ => none }
def FnExactSplitWrongFalsely : Prop := fnExactSplitRow.holds Try.pinned (OpenSpec.ofChange fnExactSplitWrong)

/-- 'laws.FnExactGrid': WHATEVER THE INPUT: true; the input reads as it did. -/
def fnExactGridSpec : ChangeSpec := { name := "fnExactGrid", fn := fun _ => fun
  | [d1, d2] => { results := [.lit (.bool true)], args := [d1, d2] }
  | _ => none }
def fnExactGridRow : OpenClaim := { program := "ytfgjooddolnifaa", sum := "f7181e8d18bf376d0c1b71efdd3c336dd56a416cc621913c80768bc88c78a9b8", func := "loop.example/g00050/laws.FnExactGrid", spec := "fnExactGrid", apart := false }
def FnExactGridSaid : Prop := fnExactGridRow.holds Try.pinned (OpenSpec.ofChange fnExactGridSpec)

/-- ITS FALSE NEIGHBOUR: 'it returns false'. Refute it at one input. -/
def fnExactGridWrong : ChangeSpec := { name := "fnExactGrid", fn := fun _ => fun
  | [d1, d2] => { results := [.lit (.bool false)], args := [d1, d2] }
  | _ => none }
def FnExactGridWrongFalsely : Prop := fnExactGridRow.holds Try.pinned (OpenSpec.ofChange fnExactGridWrong)

/- THE SECOND FORM. 'bulk': how many values and letters a reading holds, each counted each time it is reached (what is shared counts as often as it is met; a slice's spare places count too). A statement '..UptoSaid' is the law's where the arguments, and the package variables that the reading takes, are together of bulk at most 1048576: NARROWER than '..Said'. Prove '..Said' where nothing that the law and all that it calls make is longer than what came in: it says more and counts as full. Else prove '..UptoSaid'. A law counts once. -/
mutual
def uptoBulk {H : Type} : DataW H → Nat
  | .lit (.string bytes) => bytes.length + 1
  | .lit _ => 1
  | .nil => 1
  | .ptr d => uptoBulk d + 1
  | .slice elems spare => uptoBulkAll elems + uptoBulkAll spare + 1
  | .agg parts => uptoBulkAll parts + 1
  | .iface _ d => uptoBulk d + 1
  | .map entries => uptoBulkEntries entries + 1
  | .held _ => 1
def uptoBulkAll {H : Type} : List (DataW H) → Nat
  | [] => 0
  | d :: r => uptoBulk d + uptoBulkAll r
def uptoBulkEntries {H : Type} : List (Lit × DataW H) → Nat
  | [] => 0
  | x :: r => uptoBulkEntry x + uptoBulkEntries r
def uptoBulkEntry {H : Type} : Lit × DataW H → Nat
  | (.string bytes, d) => bytes.length + uptoBulk d + 1
  | (_, d) => uptoBulk d + 1
 end
def uptoSmall : (H : Type) → List (DataW H) → Bool := fun _ ds => decide (uptoBulkAll ds ≤ 1048576)
def OpenSpec.upto (s : _root_.Go.ChangeSpec) : _root_.Go.OpenSpec := { _root_.Go.OpenSpec.ofChange s with cond := some uptoSmall }

/-- 'laws.FnTones', WHERE WHAT IT READS IS OF BULK AT MOST 1048576: true; the input reads as it did. -/
def fnTonesUptoRow : OpenClaim := { program := "ytfgjooddolnifaa", sum := "f7181e8d18bf376d0c1b71efdd3c336dd56a416cc621913c80768bc88c78a9b8", func := "loop.example/g00050/laws.FnTones", spec := "fnTones", apart := false, narrowed := true }
def FnTonesUptoSaid : Prop := fnTonesUptoRow.holds Try.pinned (OpenSpec.upto fnTonesSpec)

/-- 'laws.FnExactTones', WHERE WHAT IT READS IS OF BULK AT MOST 1048576: true; the input reads as it did. -/
def fnExactTonesUptoRow : OpenClaim := { program := "ytfgjooddolnifaa", sum := "f7181e8d18bf376d0c1b71efdd3c336dd56a416cc621913c80768bc88c78a9b8", func := "loop.example/g00050/laws.FnExactTones", spec := "fnExactTones", apart := false, narrowed := true }
def FnExactTonesUptoSaid : Prop := fnExactTonesUptoRow.holds Try.pinned (OpenSpec.upto fnExactTonesSpec)

/-- 'laws.FnExactBlend', WHERE WHAT IT READS IS OF BULK AT MOST 1048576: true; the input reads as it did. -/
def fnExactBlendUptoRow : OpenClaim := { program := "ytfgjooddolnifaa", sum := "f7181e8d18bf376d0c1b71efdd3c336dd56a416cc621913c80768bc88c78a9b8", func := "loop.example/g00050/laws.FnExactBlend", spec := "fnExactBlend", apart := false, narrowed := true }
def FnExactBlendUptoSaid : Prop := fnExactBlendUptoRow.holds Try.pinned (OpenSpec.upto fnExactBlendSpec)

/-- 'laws.FnExactSplit', WHERE WHAT IT READS IS OF BULK AT MOST 1048576: true; the input reads as it did. -/
def fnExactSplitUptoRow : OpenClaim := { program := "ytfgjooddolnifaa", sum := "f7181e8d18bf376d0c1b71efdd3c336dd56a416cc621913c80768bc88c78a9b8", func := "loop.example/g00050/laws.FnExactSplit", spec := "fnExactSplit", apart := false, narrowed := true }
def FnExactSplitUptoSaid : Prop := fnExactSplitUptoRow.holds Try.pinned (OpenSpec.upto fnExactSplitSpec)

/-- 'laws.FnExactGrid', WHERE WHAT IT READS IS OF BULK AT MOST 1048576: true; the input reads as it did. -/
def fnExactGridUptoRow : OpenClaim := { program := "ytfgjooddolnifaa", sum := "f7181e8d18bf376d0c1b71efdd3c336dd56a416cc621913c80768bc88c78a9b8", func := "loop.example/g00050/laws.FnExactGrid", spec := "fnExactGrid", apart := false, narrowed := true }
def FnExactGridUptoSaid : Prop := fnExactGridUptoRow.holds Try.pinned (OpenSpec.upto fnExactGridSpec)

end Rows
end Go.Proofs.Ytfgjooddolnifaa
