/-
  No cell of these rows narrows 'for every input' (looked for: loops, veiled, ifaces, maps, wideKeys, modest, calm, conditions, laid).
  DERIVED. THE GIVEN ROWS OF THIS SEAT. 15 by the template 'for every input the law returns true; each argument reads behind the call as it read before'; 0 by the template 'total and deterministic' (their statements: YtjkceonalfohpaaTotals.lean).
  GIVEN WITH THE SEED: the statements are not yours to turn. If you find one false, say at which input.
  Laid BY PROGRAM, IN A SANDBOX (cutbox-rows.mjs): the forced cells as the released guide's own fill.sh prints them over the translation e8f56905bdba745c… (all of the seat's roots in one cut). By AI agents, Wed Nov 11 2026. No macro, syntax, notation, axiom, sorry.
-/
import Derived.Test.YtjkceonalfohpaaChecked
import GoSem.Claim
import GoSem.ClaimJoined
import GoSem.ClaimMapViews
import Derived.JoinedTies
import Derived.KernelRfl
namespace Go.Proofs.Ytjkceonalfohpaa
/- THE CELL 'sum', in the pinned program and in every row, IS THE sha256 OF THE DUMP (.gsa) THAT YtjkceonalfohpaaProg.lean LOADS. Nothing in Lean hashes anything: it is a label: what it is worth is what the hold of that sum in a sandbox is worth. -/
noncomputable def Try.pinned : Pinned := { name := "ytjkceonalfohpaa", sum := "e8f56905bdba745c2e92ea27d5cf528a6b8599d45b4b2ff7df63ad927bbd69b9", checked := Try.checked }
namespace Rows
def none {H : Type} : Left H := { results := [], args := [] }

/-- 'laws.FnFrames': WHATEVER THE INPUT: true; the input reads as it did. -/
def fnFramesSpec : ChangeSpec := { name := "fnFrames", fn := fun _ => fun
  | [d] => { results := [.lit (.bool true)], args := [d] }
  | _ => none }
def fnFramesRow : OpenClaim := { program := "ytjkceonalfohpaa", sum := "e8f56905bdba745c2e92ea27d5cf528a6b8599d45b4b2ff7df63ad927bbd69b9", func := "loop.example/g00050/laws.FnFrames", spec := "fnFrames", inPlace := ["math/bits.Add64"], apart := false }
def FnFramesSaid : Prop := fnFramesRow.holds Try.pinned (OpenSpec.ofChange fnFramesSpec)

/-- ITS FALSE NEIGHBOUR: 'it returns false'. Refute it at one input. -/
def fnFramesWrong : ChangeSpec := { name := "fnFrames", fn := fun _ => fun
  | [d] => { results := [.lit (.bool false)], args := [d] }
  | _ => none }
def FnFramesWrongFalsely : Prop := fnFramesRow.holds Try.pinned (OpenSpec.ofChange fnFramesWrong)

/-- 'laws.FnRuns': WHATEVER THE INPUT: true; the input reads as it did. -/
def fnRunsSpec : ChangeSpec := { name := "fnRuns", fn := fun _ => fun
  | [d1, d2] => { results := [.lit (.bool true)], args := [d1, d2] }
  | _ => none }
def fnRunsRow : OpenClaim := { program := "ytjkceonalfohpaa", sum := "e8f56905bdba745c2e92ea27d5cf528a6b8599d45b4b2ff7df63ad927bbd69b9", func := "loop.example/g00050/laws.FnRuns", spec := "fnRuns", apart := false }
def FnRunsSaid : Prop := fnRunsRow.holds Try.pinned (OpenSpec.ofChange fnRunsSpec)

/-- ITS FALSE NEIGHBOUR: 'it returns false'. Refute it at one input. -/
def fnRunsWrong : ChangeSpec := { name := "fnRuns", fn := fun _ => fun
  | [d1, d2] => { results := [.lit (.bool false)], args := [d1, d2] }
  | _ => none }
def FnRunsWrongFalsely : Prop := fnRunsRow.holds Try.pinned (OpenSpec.ofChange fnRunsWrong)

/-- 'laws.FnExactFrameOk': WHATEVER THE INPUT: true; the input reads as it did. -/
def fnExactFrameOkSpec : ChangeSpec := { name := "fnExactFrameOk", fn := fun _ => fun
  | [d] => { results := [.lit (.bool true)], args := [d] }
  | _ => none }
def fnExactFrameOkRow : OpenClaim := { program := "ytjkceonalfohpaa", sum := "e8f56905bdba745c2e92ea27d5cf528a6b8599d45b4b2ff7df63ad927bbd69b9", func := "loop.example/g00050/laws.FnExactFrameOk", spec := "fnExactFrameOk", inPlace := ["math/bits.Add64"], apart := false }
def FnExactFrameOkSaid : Prop := fnExactFrameOkRow.holds Try.pinned (OpenSpec.ofChange fnExactFrameOkSpec)

/-- ITS FALSE NEIGHBOUR: 'it returns false'. Refute it at one input. -/
def fnExactFrameOkWrong : ChangeSpec := { name := "fnExactFrameOk", fn := fun _ => fun
  | [d] => { results := [.lit (.bool false)], args := [d] }
  | _ => none }
def FnExactFrameOkWrongFalsely : Prop := fnExactFrameOkRow.holds Try.pinned (OpenSpec.ofChange fnExactFrameOkWrong)

/-- 'laws.FnExactSameFrame': WHATEVER THE INPUT: true; the input reads as it did. -/
def fnExactSameFrameSpec : ChangeSpec := { name := "fnExactSameFrame", fn := fun _ => fun
  | [d1, d2] => { results := [.lit (.bool true)], args := [d1, d2] }
  | _ => none }
def fnExactSameFrameRow : OpenClaim := { program := "ytjkceonalfohpaa", sum := "e8f56905bdba745c2e92ea27d5cf528a6b8599d45b4b2ff7df63ad927bbd69b9", func := "loop.example/g00050/laws.FnExactSameFrame", spec := "fnExactSameFrame", inPlace := ["math/bits.Add64"], apart := false }
def FnExactSameFrameSaid : Prop := fnExactSameFrameRow.holds Try.pinned (OpenSpec.ofChange fnExactSameFrameSpec)

/-- ITS FALSE NEIGHBOUR: 'it returns false'. Refute it at one input. -/
def fnExactSameFrameWrong : ChangeSpec := { name := "fnExactSameFrame", fn := fun _ => fun
  | [d1, d2] => { results := [.lit (.bool false)], args := [d1, d2] }
  | _ => none }
def FnExactSameFrameWrongFalsely : Prop := fnExactSameFrameRow.holds Try.pinned (OpenSpec.ofChange fnExactSameFrameWrong)

/-- 'laws.FnExactCompose': WHATEVER THE INPUT: true; the input reads as it did. -/
def fnExactComposeSpec : ChangeSpec := { name := "fnExactCompose", fn := fun _ => fun
  | [d1, d2] => { results := [.lit (.bool true)], args := [d1, d2] }
  | _ => none }
def fnExactComposeRow : OpenClaim := { program := "ytjkceonalfohpaa", sum := "e8f56905bdba745c2e92ea27d5cf528a6b8599d45b4b2ff7df63ad927bbd69b9", func := "loop.example/g00050/laws.FnExactCompose", spec := "fnExactCompose", inPlace := ["math/bits.Add64"], apart := false }
def FnExactComposeSaid : Prop := fnExactComposeRow.holds Try.pinned (OpenSpec.ofChange fnExactComposeSpec)

/-- ITS FALSE NEIGHBOUR: 'it returns false'. Refute it at one input. -/
def fnExactComposeWrong : ChangeSpec := { name := "fnExactCompose", fn := fun _ => fun
  | [d1, d2] => { results := [.lit (.bool false)], args := [d1, d2] }
  | _ => none }
def FnExactComposeWrongFalsely : Prop := fnExactComposeRow.holds Try.pinned (OpenSpec.ofChange fnExactComposeWrong)

/-- 'laws.FnExactInvert': WHATEVER THE INPUT: true; the input reads as it did. -/
def fnExactInvertSpec : ChangeSpec := { name := "fnExactInvert", fn := fun _ => fun
  | [d] => { results := [.lit (.bool true)], args := [d] }
  | _ => none }
def fnExactInvertRow : OpenClaim := { program := "ytjkceonalfohpaa", sum := "e8f56905bdba745c2e92ea27d5cf528a6b8599d45b4b2ff7df63ad927bbd69b9", func := "loop.example/g00050/laws.FnExactInvert", spec := "fnExactInvert", inPlace := ["math/bits.Add64"], apart := false }
def FnExactInvertSaid : Prop := fnExactInvertRow.holds Try.pinned (OpenSpec.ofChange fnExactInvertSpec)

/-- ITS FALSE NEIGHBOUR: 'it returns false'. Refute it at one input. -/
def fnExactInvertWrong : ChangeSpec := { name := "fnExactInvert", fn := fun _ => fun
  | [d] => { results := [.lit (.bool false)], args := [d] }
  | _ => none }
def FnExactInvertWrongFalsely : Prop := fnExactInvertRow.holds Try.pinned (OpenSpec.ofChange fnExactInvertWrong)

/-- 'laws.FnExactHanded': WHATEVER THE INPUT: true; the input reads as it did. -/
def fnExactHandedSpec : ChangeSpec := { name := "fnExactHanded", fn := fun _ => fun
  | [d] => { results := [.lit (.bool true)], args := [d] }
  | _ => none }
def fnExactHandedRow : OpenClaim := { program := "ytjkceonalfohpaa", sum := "e8f56905bdba745c2e92ea27d5cf528a6b8599d45b4b2ff7df63ad927bbd69b9", func := "loop.example/g00050/laws.FnExactHanded", spec := "fnExactHanded", inPlace := ["math/bits.Add64"], apart := false }
def FnExactHandedSaid : Prop := fnExactHandedRow.holds Try.pinned (OpenSpec.ofChange fnExactHandedSpec)

/-- ITS FALSE NEIGHBOUR: 'it returns false'. Refute it at one input. -/
def fnExactHandedWrong : ChangeSpec := { name := "fnExactHanded", fn := fun _ => fun
  | [d] => { results := [.lit (.bool false)], args := [d] }
  | _ => none }
def FnExactHandedWrongFalsely : Prop := fnExactHandedRow.holds Try.pinned (OpenSpec.ofChange fnExactHandedWrong)

/-- 'laws.FnExactMove': WHATEVER THE INPUT: true; the input reads as it did. -/
def fnExactMoveSpec : ChangeSpec := { name := "fnExactMove", fn := fun _ => fun
  | [d1, d2, d3, d4] => { results := [.lit (.bool true)], args := [d1, d2, d3, d4] }
  | _ => none }
def fnExactMoveRow : OpenClaim := { program := "ytjkceonalfohpaa", sum := "e8f56905bdba745c2e92ea27d5cf528a6b8599d45b4b2ff7df63ad927bbd69b9", func := "loop.example/g00050/laws.FnExactMove", spec := "fnExactMove", inPlace := ["math/bits.Add64"], apart := false }
def FnExactMoveSaid : Prop := fnExactMoveRow.holds Try.pinned (OpenSpec.ofChange fnExactMoveSpec)

/-- ITS FALSE NEIGHBOUR: 'it returns false'. Refute it at one input. -/
def fnExactMoveWrong : ChangeSpec := { name := "fnExactMove", fn := fun _ => fun
  | [d1, d2, d3, d4] => { results := [.lit (.bool false)], args := [d1, d2, d3, d4] }
  | _ => none }
def FnExactMoveWrongFalsely : Prop := fnExactMoveRow.holds Try.pinned (OpenSpec.ofChange fnExactMoveWrong)

/-- 'laws.FnExactVolumeOk': WHATEVER THE INPUT: true; the input reads as it did. -/
def fnExactVolumeOkSpec : ChangeSpec := { name := "fnExactVolumeOk", fn := fun _ => fun
  | [d] => { results := [.lit (.bool true)], args := [d] }
  | _ => none }
def fnExactVolumeOkRow : OpenClaim := { program := "ytjkceonalfohpaa", sum := "e8f56905bdba745c2e92ea27d5cf528a6b8599d45b4b2ff7df63ad927bbd69b9", func := "loop.example/g00050/laws.FnExactVolumeOk", spec := "fnExactVolumeOk", apart := false }
def FnExactVolumeOkSaid : Prop := fnExactVolumeOkRow.holds Try.pinned (OpenSpec.ofChange fnExactVolumeOkSpec)

/-- ITS FALSE NEIGHBOUR: 'it returns false'. Refute it at one input. -/
def fnExactVolumeOkWrong : ChangeSpec := { name := "fnExactVolumeOk", fn := fun _ => fun
  | [d] => { results := [.lit (.bool false)], args := [d] }
  | _ => none }
def FnExactVolumeOkWrongFalsely : Prop := fnExactVolumeOkRow.holds Try.pinned (OpenSpec.ofChange fnExactVolumeOkWrong)

/-- 'laws.FnExactReslice': WHATEVER THE INPUT: true; the input reads as it did. -/
def fnExactResliceSpec : ChangeSpec := { name := "fnExactReslice", fn := fun _ => fun
  | [d1, d2, d3, d4, d5] => { results := [.lit (.bool true)], args := [d1, d2, d3, d4, d5] }
  | _ => none }
def fnExactResliceRow : OpenClaim := { program := "ytjkceonalfohpaa", sum := "e8f56905bdba745c2e92ea27d5cf528a6b8599d45b4b2ff7df63ad927bbd69b9", func := "loop.example/g00050/laws.FnExactReslice", spec := "fnExactReslice", inPlace := ["math/bits.Add64"], apart := false }
def FnExactResliceSaid : Prop := fnExactResliceRow.holds Try.pinned (OpenSpec.ofChange fnExactResliceSpec)

/-- ITS FALSE NEIGHBOUR: 'it returns false'. Refute it at one input. -/
def fnExactResliceWrong : ChangeSpec := { name := "fnExactReslice", fn := fun _ => fun
  | [d1, d2, d3, d4, d5] => { results := [.lit (.bool false)], args := [d1, d2, d3, d4, d5] }
  | _ => none }
def FnExactResliceWrongFalsely : Prop := fnExactResliceRow.holds Try.pinned (OpenSpec.ofChange fnExactResliceWrong)

/-- 'laws.FnExactBrightest': WHATEVER THE INPUT: true; the input reads as it did. -/
def fnExactBrightestSpec : ChangeSpec := { name := "fnExactBrightest", fn := fun _ => fun
  | [d1, d2] => { results := [.lit (.bool true)], args := [d1, d2] }
  | _ => none }
def fnExactBrightestRow : OpenClaim := { program := "ytjkceonalfohpaa", sum := "e8f56905bdba745c2e92ea27d5cf528a6b8599d45b4b2ff7df63ad927bbd69b9", func := "loop.example/g00050/laws.FnExactBrightest", spec := "fnExactBrightest", apart := false }
def FnExactBrightestSaid : Prop := fnExactBrightestRow.holds Try.pinned (OpenSpec.ofChange fnExactBrightestSpec)

/-- ITS FALSE NEIGHBOUR: 'it returns false'. Refute it at one input. -/
def fnExactBrightestWrong : ChangeSpec := { name := "fnExactBrightest", fn := fun _ => fun
  | [d1, d2] => { results := [.lit (.bool false)], args := [d1, d2] }
  | _ => none }
def FnExactBrightestWrongFalsely : Prop := fnExactBrightestRow.holds Try.pinned (OpenSpec.ofChange fnExactBrightestWrong)

/-- 'laws.FnExactWindow': WHATEVER THE INPUT: true; the input reads as it did. -/
def fnExactWindowSpec : ChangeSpec := { name := "fnExactWindow", fn := fun _ => fun
  | [d1, d2, d3] => { results := [.lit (.bool true)], args := [d1, d2, d3] }
  | _ => none }
def fnExactWindowRow : OpenClaim := { program := "ytjkceonalfohpaa", sum := "e8f56905bdba745c2e92ea27d5cf528a6b8599d45b4b2ff7df63ad927bbd69b9", func := "loop.example/g00050/laws.FnExactWindow", spec := "fnExactWindow", apart := false }
def FnExactWindowSaid : Prop := fnExactWindowRow.holds Try.pinned (OpenSpec.ofChange fnExactWindowSpec)

/-- ITS FALSE NEIGHBOUR: 'it returns false'. Refute it at one input. -/
def fnExactWindowWrong : ChangeSpec := { name := "fnExactWindow", fn := fun _ => fun
  | [d1, d2, d3] => { results := [.lit (.bool false)], args := [d1, d2, d3] }
  | _ => none }
def FnExactWindowWrongFalsely : Prop := fnExactWindowRow.holds Try.pinned (OpenSpec.ofChange fnExactWindowWrong)

/-- 'laws.FnExactRunsOf': WHATEVER THE INPUT: true; the input reads as it did. -/
def fnExactRunsOfSpec : ChangeSpec := { name := "fnExactRunsOf", fn := fun _ => fun
  | [d] => { results := [.lit (.bool true)], args := [d] }
  | _ => none }
def fnExactRunsOfRow : OpenClaim := { program := "ytjkceonalfohpaa", sum := "e8f56905bdba745c2e92ea27d5cf528a6b8599d45b4b2ff7df63ad927bbd69b9", func := "loop.example/g00050/laws.FnExactRunsOf", spec := "fnExactRunsOf", apart := false }
def FnExactRunsOfSaid : Prop := fnExactRunsOfRow.holds Try.pinned (OpenSpec.ofChange fnExactRunsOfSpec)

/-- ITS FALSE NEIGHBOUR: 'it returns false'. Refute it at one input. -/
def fnExactRunsOfWrong : ChangeSpec := { name := "fnExactRunsOf", fn := fun _ => fun
  | [d] => { results := [.lit (.bool false)], args := [d] }
  | _ => none }
def FnExactRunsOfWrongFalsely : Prop := fnExactRunsOfRow.holds Try.pinned (OpenSpec.ofChange fnExactRunsOfWrong)

/-- 'laws.FnExactFromRuns': WHATEVER THE INPUT: true; the input reads as it did. -/
def fnExactFromRunsSpec : ChangeSpec := { name := "fnExactFromRuns", fn := fun _ => fun
  | [d1, d2, d3] => { results := [.lit (.bool true)], args := [d1, d2, d3] }
  | _ => none }
def fnExactFromRunsRow : OpenClaim := { program := "ytjkceonalfohpaa", sum := "e8f56905bdba745c2e92ea27d5cf528a6b8599d45b4b2ff7df63ad927bbd69b9", func := "loop.example/g00050/laws.FnExactFromRuns", spec := "fnExactFromRuns", apart := false }
def FnExactFromRunsSaid : Prop := fnExactFromRunsRow.holds Try.pinned (OpenSpec.ofChange fnExactFromRunsSpec)

/-- ITS FALSE NEIGHBOUR: 'it returns false'. Refute it at one input. -/
def fnExactFromRunsWrong : ChangeSpec := { name := "fnExactFromRuns", fn := fun _ => fun
  | [d1, d2, d3] => { results := [.lit (.bool false)], args := [d1, d2, d3] }
  | _ => none }
def FnExactFromRunsWrongFalsely : Prop := fnExactFromRunsRow.holds Try.pinned (OpenSpec.ofChange fnExactFromRunsWrong)

/-- 'laws.FnExactJoinRuns': WHATEVER THE INPUT: true; the input reads as it did. -/
def fnExactJoinRunsSpec : ChangeSpec := { name := "fnExactJoinRuns", fn := fun _ => fun
  | [d1, d2, d3, d4] => { results := [.lit (.bool true)], args := [d1, d2, d3, d4] }
  | _ => none }
def fnExactJoinRunsRow : OpenClaim := { program := "ytjkceonalfohpaa", sum := "e8f56905bdba745c2e92ea27d5cf528a6b8599d45b4b2ff7df63ad927bbd69b9", func := "loop.example/g00050/laws.FnExactJoinRuns", spec := "fnExactJoinRuns", apart := false }
def FnExactJoinRunsSaid : Prop := fnExactJoinRunsRow.holds Try.pinned (OpenSpec.ofChange fnExactJoinRunsSpec)

/-- ITS FALSE NEIGHBOUR: 'it returns false'. Refute it at one input. -/
def fnExactJoinRunsWrong : ChangeSpec := { name := "fnExactJoinRuns", fn := fun _ => fun
  | [d1, d2, d3, d4] => { results := [.lit (.bool false)], args := [d1, d2, d3, d4] }
  | _ => none }
def FnExactJoinRunsWrongFalsely : Prop := fnExactJoinRunsRow.holds Try.pinned (OpenSpec.ofChange fnExactJoinRunsWrong)

/- THE SECOND FORM. 'bulk': how many values and letters a reading holds, each counted each time it is reached (what is shared counts as often as it is met; a slice's spare places count too). A statement '..UptoSaid' is the law's where the arguments, and the package variables that the reading takes, are together of bulk at most 1048576: NARROWER than '..Said'. Prove '..Said' where nothing that the law and all that it calls make is longer than what came in: it says more and counts as full. Else prove '..UptoSaid'. A law counts once. -/
mutual
def uptoBulk {H : Type} : DataW H → Nat
  | .lit (.string bytes) => bytes.length + 1
  | .lit _ => 1
  | .nil => 1
  | .ptr d => uptoBulk d + 1
  | .slice elems spare => uptoBulkAll elems + uptoBulkAll spare + 1
  | .agg parts => uptoBulkAll parts + 1
  | .iface _ d => uptoBulk d + 1
  | .map entries => uptoBulkEntries entries + 1
  | .held _ => 1
def uptoBulkAll {H : Type} : List (DataW H) → Nat
  | [] => 0
  | d :: r => uptoBulk d + uptoBulkAll r
def uptoBulkEntries {H : Type} : List (Lit × DataW H) → Nat
  | [] => 0
  | x :: r => uptoBulkEntry x + uptoBulkEntries r
def uptoBulkEntry {H : Type} : Lit × DataW H → Nat
  | (.string bytes, d) => bytes.length + uptoBulk d + 1
  | (_, d) => uptoBulk d + 1
 end
def uptoSmall : (H : Type) → List (DataW H) → Bool := fun _ ds => decide (uptoBulkAll ds ≤ 1048576)
def OpenSpec.upto (s : _root_.Go.ChangeSpec) : _root_.Go.OpenSpec := { _root_.Go.OpenSpec.ofChange s with cond := some uptoSmall }

/-- 'laws.FnFrames', WHERE WHAT IT READS IS OF BULK AT MOST 1048576: true; the input reads as it did. -/
def fnFramesUptoRow : OpenClaim := { program := "ytjkceonalfohpaa", sum := "e8f56905bdba745c2e92ea27d5cf528a6b8599d45b4b2ff7df63ad927bbd69b9", func := "loop.example/g00050/laws.FnFrames", spec := "fnFrames", inPlace := ["math/bits.Add64"], apart := false, narrowed := true }
def FnFramesUptoSaid : Prop := fnFramesUptoRow.holds Try.pinned (OpenSpec.upto fnFramesSpec)

/-- 'laws.FnRuns', WHERE WHAT IT READS IS OF BULK AT MOST 1048576: true; the input reads as it did. -/
def fnRunsUptoRow : OpenClaim := { program := "ytjkceonalfohpaa", sum := "e8f56905bdba745c2e92ea27d5cf528a6b8599d45b4b2ff7df63ad927bbd69b9", func := "loop.example/g00050/laws.FnRuns", spec := "fnRuns", apart := false, narrowed := true }
def FnRunsUptoSaid : Prop := fnRunsUptoRow.holds Try.pinned (OpenSpec.upto fnRunsSpec)

/-- 'laws.FnExactFrameOk', WHERE WHAT IT READS IS OF BULK AT MOST 1048576: true; the input reads as it did. -/
def fnExactFrameOkUptoRow : OpenClaim := { program := "ytjkceonalfohpaa", sum := "e8f56905bdba745c2e92ea27d5cf528a6b8599d45b4b2ff7df63ad927bbd69b9", func := "loop.example/g00050/laws.FnExactFrameOk", spec := "fnExactFrameOk", inPlace := ["math/bits.Add64"], apart := false, narrowed := true }
def FnExactFrameOkUptoSaid : Prop := fnExactFrameOkUptoRow.holds Try.pinned (OpenSpec.upto fnExactFrameOkSpec)

/-- 'laws.FnExactSameFrame', WHERE WHAT IT READS IS OF BULK AT MOST 1048576: true; the input reads as it did. -/
def fnExactSameFrameUptoRow : OpenClaim := { program := "ytjkceonalfohpaa", sum := "e8f56905bdba745c2e92ea27d5cf528a6b8599d45b4b2ff7df63ad927bbd69b9", func := "loop.example/g00050/laws.FnExactSameFrame", spec := "fnExactSameFrame", inPlace := ["math/bits.Add64"], apart := false, narrowed := true }
def FnExactSameFrameUptoSaid : Prop := fnExactSameFrameUptoRow.holds Try.pinned (OpenSpec.upto fnExactSameFrameSpec)

/-- 'laws.FnExactCompose', WHERE WHAT IT READS IS OF BULK AT MOST 1048576: true; the input reads as it did. -/
def fnExactComposeUptoRow : OpenClaim := { program := "ytjkceonalfohpaa", sum := "e8f56905bdba745c2e92ea27d5cf528a6b8599d45b4b2ff7df63ad927bbd69b9", func := "loop.example/g00050/laws.FnExactCompose", spec := "fnExactCompose", inPlace := ["math/bits.Add64"], apart := false, narrowed := true }
def FnExactComposeUptoSaid : Prop := fnExactComposeUptoRow.holds Try.pinned (OpenSpec.upto fnExactComposeSpec)

/-- 'laws.FnExactInvert', WHERE WHAT IT READS IS OF BULK AT MOST 1048576: true; the input reads as it did. -/
def fnExactInvertUptoRow : OpenClaim := { program := "ytjkceonalfohpaa", sum := "e8f56905bdba745c2e92ea27d5cf528a6b8599d45b4b2ff7df63ad927bbd69b9", func := "loop.example/g00050/laws.FnExactInvert", spec := "fnExactInvert", inPlace := ["math/bits.Add64"], apart := false, narrowed := true }
def FnExactInvertUptoSaid : Prop := fnExactInvertUptoRow.holds Try.pinned (OpenSpec.upto fnExactInvertSpec)

/-- 'laws.FnExactHanded', WHERE WHAT IT READS IS OF BULK AT MOST 1048576: true; the input reads as it did. -/
def fnExactHandedUptoRow : OpenClaim := { program := "ytjkceonalfohpaa", sum := "e8f56905bdba745c2e92ea27d5cf528a6b8599d45b4b2ff7df63ad927bbd69b9", func := "loop.example/g00050/laws.FnExactHanded", spec := "fnExactHanded", inPlace := ["math/bits.Add64"], apart := false, narrowed := true }
def FnExactHandedUptoSaid : Prop := fnExactHandedUptoRow.holds Try.pinned (OpenSpec.upto fnExactHandedSpec)

/-- 'laws.FnExactMove', WHERE WHAT IT READS IS OF BULK AT MOST 1048576: true; the input reads as it did. -/
def fnExactMoveUptoRow : OpenClaim := { program := "ytjkceonalfohpaa", sum := "e8f56905bdba745c2e92ea27d5cf528a6b8599d45b4b2ff7df63ad927bbd69b9", func := "loop.example/g00050/laws.FnExactMove", spec := "fnExactMove", inPlace := ["math/bits.Add64"], apart := false, narrowed := true }
def FnExactMoveUptoSaid : Prop := fnExactMoveUptoRow.holds Try.pinned (OpenSpec.upto fnExactMoveSpec)

/-- 'laws.FnExactVolumeOk', WHERE WHAT IT READS IS OF BULK AT MOST 1048576: true; the input reads as it did. -/
def fnExactVolumeOkUptoRow : OpenClaim := { program := "ytjkceonalfohpaa", sum := "e8f56905bdba745c2e92ea27d5cf528a6b8599d45b4b2ff7df63ad927bbd69b9", func := "loop.example/g00050/laws.FnExactVolumeOk", spec := "fnExactVolumeOk", apart := false, narrowed := true }
def FnExactVolumeOkUptoSaid : Prop := fnExactVolumeOkUptoRow.holds Try.pinned (OpenSpec.upto fnExactVolumeOkSpec)

/-- 'laws.FnExactReslice', WHERE WHAT IT READS IS OF BULK AT MOST 1048576: true; the input reads as it did. -/
def fnExactResliceUptoRow : OpenClaim := { program := "ytjkceonalfohpaa", sum := "e8f56905bdba745c2e92ea27d5cf528a6b8599d45b4b2ff7df63ad927bbd69b9", func := "loop.example/g00050/laws.FnExactReslice", spec := "fnExactReslice", inPlace := ["math/bits.Add64"], apart := false, narrowed := true }
def FnExactResliceUptoSaid : Prop := fnExactResliceUptoRow.holds Try.pinned (OpenSpec.upto fnExactResliceSpec)

/-- 'laws.FnExactBrightest', WHERE WHAT IT READS IS OF BULK AT MOST 1048576: true; the input reads as it did. -/
def fnExactBrightestUptoRow : OpenClaim := { program := "ytjkceonalfohpaa", sum := "e8f56905bdba745c2e92ea27d5cf528a6b8599d45b4b2ff7df63ad927bbd69b9", func := "loop.example/g00050/laws.FnExactBrightest", spec := "fnExactBrightest", apart := false, narrowed := true }
def FnExactBrightestUptoSaid : Prop := fnExactBrightestUptoRow.holds Try.pinned (OpenSpec.upto fnExactBrightestSpec)

/-- 'laws.FnExactWindow', WHERE WHAT IT READS IS OF BULK AT MOST 1048576: true; the input reads as it did. -/
def fnExactWindowUptoRow : OpenClaim := { program := "ytjkceonalfohpaa", sum := "e8f56905bdba745c2e92ea27d5cf528a6b8599d45b4b2ff7df63ad927bbd69b9", func := "loop.example/g00050/laws.FnExactWindow", spec := "fnExactWindow", apart := false, narrowed := true }
def FnExactWindowUptoSaid : Prop := fnExactWindowUptoRow.holds Try.pinned (OpenSpec.upto fnExactWindowSpec)

/-- 'laws.FnExactRunsOf', WHERE WHAT IT READS IS OF BULK AT MOST 1048576: true; the input reads as it did. -/
def fnExactRunsOfUptoRow : OpenClaim := { program := "ytjkceonalfohpaa", sum := "e8f56905bdba745c2e92ea27d5cf528a6b8599d45b4b2ff7df63ad927bbd69b9", func := "loop.example/g00050/laws.FnExactRunsOf", spec := "fnExactRunsOf", apart := false, narrowed := true }
def FnExactRunsOfUptoSaid : Prop := fnExactRunsOfUptoRow.holds Try.pinned (OpenSpec.upto fnExactRunsOfSpec)

/-- 'laws.FnExactFromRuns', WHERE WHAT IT READS IS OF BULK AT MOST 1048576: true; the input reads as it did. -/
def fnExactFromRunsUptoRow : OpenClaim := { program := "ytjkceonalfohpaa", sum := "e8f56905bdba745c2e92ea27d5cf528a6b8599d45b4b2ff7df63ad927bbd69b9", func := "loop.example/g00050/laws.FnExactFromRuns", spec := "fnExactFromRuns", apart := false, narrowed := true }
def FnExactFromRunsUptoSaid : Prop := fnExactFromRunsUptoRow.holds Try.pinned (OpenSpec.upto fnExactFromRunsSpec)

/-- 'laws.FnExactJoinRuns', WHERE WHAT IT READS IS OF BULK AT MOST 1048576: true; the input reads as it did. -/
def fnExactJoinRunsUptoRow : OpenClaim := { program := "ytjkceonalfohpaa", sum := "e8f56905bdba745c2e92ea27d5cf528a6b8599d45b4b2ff7df63ad927bbd69b9", func := "loop.example/g00050/laws.FnExactJoinRuns", spec := "fnExactJoinRuns", apart := false, narrowed := true }
def FnExactJoinRunsUptoSaid : Prop := fnExactJoinRunsUptoRow.holds Try.pinned (OpenSpec.upto fnExactJoinRunsSpec)

end Rows
end Go.Proofs.Ytjkceonalfohpaa
