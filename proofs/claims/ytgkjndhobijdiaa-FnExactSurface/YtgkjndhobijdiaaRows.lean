/-
  No cell of these rows narrows 'for every input' (looked for: loops, veiled, ifaces, maps, wideKeys, modest, calm, conditions, laid).
  DERIVED. THE GIVEN ROWS OF THIS SEAT. 13 by the template 'for every input the law returns true; each argument reads behind the call as it read before'; 0 by the template 'total and deterministic' (their statements: YtgkjndhobijdiaaTotals.lean).
  GIVEN WITH THE SEED: the statements are not yours to turn. If you find one false, say at which input.
  Laid BY PROGRAM, IN A SANDBOX (cutbox-rows.mjs): the forced cells as the released guide's own fill.sh prints them over the translation 75293b74db53a984… (all of the seat's roots in one cut). By AI agents, Wed Nov 11 2026. No macro, syntax, notation, axiom, sorry.
-/
import Derived.Test.YtgkjndhobijdiaaChecked
import GoSem.Claim
import GoSem.ClaimJoined
import GoSem.ClaimMapViews
import Derived.JoinedTies
import Derived.KernelRfl
namespace Go.Proofs.Ytgkjndhobijdiaa
/- THE CELL 'sum', in the pinned program and in every row, IS THE sha256 OF THE DUMP (.gsa) THAT YtgkjndhobijdiaaProg.lean LOADS. Nothing in Lean hashes anything: it is a label: what it is worth is what the hold of that sum in a sandbox is worth. -/
noncomputable def Try.pinned : Pinned := { name := "ytgkjndhobijdiaa", sum := "75293b74db53a984d8326d1a716ed2fd9c1fd01ef967bdb1418e43e4d3694982", checked := Try.checked }
namespace Rows
def none {H : Type} : Left H := { results := [], args := [] }

/-- 'laws.FnThresholdBest': WHATEVER THE INPUT: true; the input reads as it did. -/
def fnThresholdBestSpec : ChangeSpec := { name := "fnThresholdBest", fn := fun _ => fun
  | [d] => { results := [.lit (.bool true)], args := [d] }
  | _ => none }
def fnThresholdBestRow : OpenClaim := { program := "ytgkjndhobijdiaa", sum := "75293b74db53a984d8326d1a716ed2fd9c1fd01ef967bdb1418e43e4d3694982", func := "loop.example/g00050/laws.FnThresholdBest", spec := "fnThresholdBest", inPlace := ["math/bits.Add64"], plainKeys := false, apart := false }
def FnThresholdBestSaid : Prop := fnThresholdBestRow.holds Try.pinned (OpenSpec.ofChange fnThresholdBestSpec)

/-- ITS FALSE NEIGHBOUR: 'it returns false'. Refute it at one input. -/
def fnThresholdBestWrong : ChangeSpec := { name := "fnThresholdBest", fn := fun _ => fun
  | [d] => { results := [.lit (.bool false)], args := [d] }
  | _ => none }
def FnThresholdBestWrongFalsely : Prop := fnThresholdBestRow.holds Try.pinned (OpenSpec.ofChange fnThresholdBestWrong)

/-- 'laws.FnShed': WHATEVER THE INPUT: true; the input reads as it did. -/
def fnShedSpec : ChangeSpec := { name := "fnShed", fn := fun _ => fun
  | [d] => { results := [.lit (.bool true)], args := [d] }
  | _ => none }
def fnShedRow : OpenClaim := { program := "ytgkjndhobijdiaa", sum := "75293b74db53a984d8326d1a716ed2fd9c1fd01ef967bdb1418e43e4d3694982", func := "loop.example/g00050/laws.FnShed", spec := "fnShed", unfollowed := true, recurses := true, plainKeys := false, apart := false }
def FnShedSaid : Prop := fnShedRow.holds Try.pinned (OpenSpec.ofChange fnShedSpec)

/-- ITS FALSE NEIGHBOUR: 'it returns false'. Refute it at one input. -/
def fnShedWrong : ChangeSpec := { name := "fnShed", fn := fun _ => fun
  | [d] => { results := [.lit (.bool false)], args := [d] }
  | _ => none }
def FnShedWrongFalsely : Prop := fnShedRow.holds Try.pinned (OpenSpec.ofChange fnShedWrong)

/-- 'laws.FnCutLeast': WHATEVER THE INPUT: true; the input reads as it did. -/
def fnCutLeastSpec : ChangeSpec := { name := "fnCutLeast", fn := fun _ => fun
  | [d1, d2] => { results := [.lit (.bool true)], args := [d1, d2] }
  | _ => none }
def fnCutLeastRow : OpenClaim := { program := "ytgkjndhobijdiaa", sum := "75293b74db53a984d8326d1a716ed2fd9c1fd01ef967bdb1418e43e4d3694982", func := "loop.example/g00050/laws.FnCutLeast", spec := "fnCutLeast", unfollowed := true, recurses := true, plainKeys := false, apart := false }
def FnCutLeastSaid : Prop := fnCutLeastRow.holds Try.pinned (OpenSpec.ofChange fnCutLeastSpec)

/-- ITS FALSE NEIGHBOUR: 'it returns false'. Refute it at one input. -/
def fnCutLeastWrong : ChangeSpec := { name := "fnCutLeast", fn := fun _ => fun
  | [d1, d2] => { results := [.lit (.bool false)], args := [d1, d2] }
  | _ => none }
def FnCutLeastWrongFalsely : Prop := fnCutLeastRow.holds Try.pinned (OpenSpec.ofChange fnCutLeastWrong)

/-- 'laws.FnSurfaces': WHATEVER THE INPUT: true; the input reads as it did. -/
def fnSurfacesSpec : ChangeSpec := { name := "fnSurfaces", fn := fun _ => fun
  | [d] => { results := [.lit (.bool true)], args := [d] }
  | _ => none }
def fnSurfacesRow : OpenClaim := { program := "ytgkjndhobijdiaa", sum := "75293b74db53a984d8326d1a716ed2fd9c1fd01ef967bdb1418e43e4d3694982", func := "loop.example/g00050/laws.FnSurfaces", spec := "fnSurfaces", plainKeys := false, apart := false }
def FnSurfacesSaid : Prop := fnSurfacesRow.holds Try.pinned (OpenSpec.ofChange fnSurfacesSpec)

/-- ITS FALSE NEIGHBOUR: 'it returns false'. Refute it at one input. -/
def fnSurfacesWrong : ChangeSpec := { name := "fnSurfaces", fn := fun _ => fun
  | [d] => { results := [.lit (.bool false)], args := [d] }
  | _ => none }
def FnSurfacesWrongFalsely : Prop := fnSurfacesRow.holds Try.pinned (OpenSpec.ofChange fnSurfacesWrong)

/-- 'laws.FnExactHistogram': WHATEVER THE INPUT: true; the input reads as it did. -/
def fnExactHistogramSpec : ChangeSpec := { name := "fnExactHistogram", fn := fun _ => fun
  | [d] => { results := [.lit (.bool true)], args := [d] }
  | _ => none }
def fnExactHistogramRow : OpenClaim := { program := "ytgkjndhobijdiaa", sum := "75293b74db53a984d8326d1a716ed2fd9c1fd01ef967bdb1418e43e4d3694982", func := "loop.example/g00050/laws.FnExactHistogram", spec := "fnExactHistogram", plainKeys := false, apart := false }
def FnExactHistogramSaid : Prop := fnExactHistogramRow.holds Try.pinned (OpenSpec.ofChange fnExactHistogramSpec)

/-- ITS FALSE NEIGHBOUR: 'it returns false'. Refute it at one input. -/
def fnExactHistogramWrong : ChangeSpec := { name := "fnExactHistogram", fn := fun _ => fun
  | [d] => { results := [.lit (.bool false)], args := [d] }
  | _ => none }
def FnExactHistogramWrongFalsely : Prop := fnExactHistogramRow.holds Try.pinned (OpenSpec.ofChange fnExactHistogramWrong)

/-- 'laws.FnExactThreshold': WHATEVER THE INPUT: true; the input reads as it did. -/
def fnExactThresholdSpec : ChangeSpec := { name := "fnExactThreshold", fn := fun _ => fun
  | [d] => { results := [.lit (.bool true)], args := [d] }
  | _ => none }
def fnExactThresholdRow : OpenClaim := { program := "ytgkjndhobijdiaa", sum := "75293b74db53a984d8326d1a716ed2fd9c1fd01ef967bdb1418e43e4d3694982", func := "loop.example/g00050/laws.FnExactThreshold", spec := "fnExactThreshold", inPlace := ["math/bits.Add64"], plainKeys := false, apart := false }
def FnExactThresholdSaid : Prop := fnExactThresholdRow.holds Try.pinned (OpenSpec.ofChange fnExactThresholdSpec)

/-- ITS FALSE NEIGHBOUR: 'it returns false'. Refute it at one input. -/
def fnExactThresholdWrong : ChangeSpec := { name := "fnExactThreshold", fn := fun _ => fun
  | [d] => { results := [.lit (.bool false)], args := [d] }
  | _ => none }
def FnExactThresholdWrongFalsely : Prop := fnExactThresholdRow.holds Try.pinned (OpenSpec.ofChange fnExactThresholdWrong)

/-- 'laws.FnExactWatershed': WHATEVER THE INPUT: true; the input reads as it did. -/
def fnExactWatershedSpec : ChangeSpec := { name := "fnExactWatershed", fn := fun _ => fun
  | [d1, d2] => { results := [.lit (.bool true)], args := [d1, d2] }
  | _ => none }
def fnExactWatershedRow : OpenClaim := { program := "ytgkjndhobijdiaa", sum := "75293b74db53a984d8326d1a716ed2fd9c1fd01ef967bdb1418e43e4d3694982", func := "loop.example/g00050/laws.FnExactWatershed", spec := "fnExactWatershed", unfollowed := true, recurses := true, plainKeys := false, apart := false }
def FnExactWatershedSaid : Prop := fnExactWatershedRow.holds Try.pinned (OpenSpec.ofChange fnExactWatershedSpec)

/-- ITS FALSE NEIGHBOUR: 'it returns false'. Refute it at one input. -/
def fnExactWatershedWrong : ChangeSpec := { name := "fnExactWatershed", fn := fun _ => fun
  | [d1, d2] => { results := [.lit (.bool false)], args := [d1, d2] }
  | _ => none }
def FnExactWatershedWrongFalsely : Prop := fnExactWatershedRow.holds Try.pinned (OpenSpec.ofChange fnExactWatershedWrong)

/-- 'laws.FnExactCutCost': WHATEVER THE INPUT: true; the input reads as it did. -/
def fnExactCutCostSpec : ChangeSpec := { name := "fnExactCutCost", fn := fun _ => fun
  | [d1, d2, d3, d4] => { results := [.lit (.bool true)], args := [d1, d2, d3, d4] }
  | _ => none }
def fnExactCutCostRow : OpenClaim := { program := "ytgkjndhobijdiaa", sum := "75293b74db53a984d8326d1a716ed2fd9c1fd01ef967bdb1418e43e4d3694982", func := "loop.example/g00050/laws.FnExactCutCost", spec := "fnExactCutCost", unfollowed := true, recurses := true, plainKeys := false, apart := false }
def FnExactCutCostSaid : Prop := fnExactCutCostRow.holds Try.pinned (OpenSpec.ofChange fnExactCutCostSpec)

/-- ITS FALSE NEIGHBOUR: 'it returns false'. Refute it at one input. -/
def fnExactCutCostWrong : ChangeSpec := { name := "fnExactCutCost", fn := fun _ => fun
  | [d1, d2, d3, d4] => { results := [.lit (.bool false)], args := [d1, d2, d3, d4] }
  | _ => none }
def FnExactCutCostWrongFalsely : Prop := fnExactCutCostRow.holds Try.pinned (OpenSpec.ofChange fnExactCutCostWrong)

/-- 'laws.FnExactCut': WHATEVER THE INPUT: true; the input reads as it did. -/
def fnExactCutSpec : ChangeSpec := { name := "fnExactCut", fn := fun _ => fun
  | [d1, d2, d3] => { results := [.lit (.bool true)], args := [d1, d2, d3] }
  | _ => none }
def fnExactCutRow : OpenClaim := { program := "ytgkjndhobijdiaa", sum := "75293b74db53a984d8326d1a716ed2fd9c1fd01ef967bdb1418e43e4d3694982", func := "loop.example/g00050/laws.FnExactCut", spec := "fnExactCut", unfollowed := true, recurses := true, plainKeys := false, apart := false }
def FnExactCutSaid : Prop := fnExactCutRow.holds Try.pinned (OpenSpec.ofChange fnExactCutSpec)

/-- ITS FALSE NEIGHBOUR: 'it returns false'. Refute it at one input. -/
def fnExactCutWrong : ChangeSpec := { name := "fnExactCut", fn := fun _ => fun
  | [d1, d2, d3] => { results := [.lit (.bool false)], args := [d1, d2, d3] }
  | _ => none }
def FnExactCutWrongFalsely : Prop := fnExactCutRow.holds Try.pinned (OpenSpec.ofChange fnExactCutWrong)

/-- 'laws.FnExactVote': WHATEVER THE INPUT: true; the input reads as it did. -/
def fnExactVoteSpec : ChangeSpec := { name := "fnExactVote", fn := fun _ => fun
  | [d] => { results := [.lit (.bool true)], args := [d] }
  | _ => none }
def fnExactVoteRow : OpenClaim := { program := "ytgkjndhobijdiaa", sum := "75293b74db53a984d8326d1a716ed2fd9c1fd01ef967bdb1418e43e4d3694982", func := "loop.example/g00050/laws.FnExactVote", spec := "fnExactVote", unfollowed := true, recurses := true, plainKeys := false, apart := false }
def FnExactVoteSaid : Prop := fnExactVoteRow.holds Try.pinned (OpenSpec.ofChange fnExactVoteSpec)

/-- ITS FALSE NEIGHBOUR: 'it returns false'. Refute it at one input. -/
def fnExactVoteWrong : ChangeSpec := { name := "fnExactVote", fn := fun _ => fun
  | [d] => { results := [.lit (.bool false)], args := [d] }
  | _ => none }
def FnExactVoteWrongFalsely : Prop := fnExactVoteRow.holds Try.pinned (OpenSpec.ofChange fnExactVoteWrong)

/-- 'laws.FnExactSurface': WHATEVER THE INPUT: true; the input reads as it did. -/
def fnExactSurfaceSpec : ChangeSpec := { name := "fnExactSurface", fn := fun _ => fun
  | [d] => { results := [.lit (.bool true)], args := [d] }
  | _ => none }
def fnExactSurfaceRow : OpenClaim := { program := "ytgkjndhobijdiaa", sum := "75293b74db53a984d8326d1a716ed2fd9c1fd01ef967bdb1418e43e4d3694982", func := "loop.example/g00050/laws.FnExactSurface", spec := "fnExactSurface", plainKeys := false, apart := false }
def FnExactSurfaceSaid : Prop := fnExactSurfaceRow.holds Try.pinned (OpenSpec.ofChange fnExactSurfaceSpec)

/-- ITS FALSE NEIGHBOUR: 'it returns false'. Refute it at one input. -/
def fnExactSurfaceWrong : ChangeSpec := { name := "fnExactSurface", fn := fun _ => fun
  | [d] => { results := [.lit (.bool false)], args := [d] }
  | _ => none }
def FnExactSurfaceWrongFalsely : Prop := fnExactSurfaceRow.holds Try.pinned (OpenSpec.ofChange fnExactSurfaceWrong)

/-- 'laws.FnExactEnclosed': WHATEVER THE INPUT: true; the input reads as it did. -/
def fnExactEnclosedSpec : ChangeSpec := { name := "fnExactEnclosed", fn := fun _ => fun
  | [d] => { results := [.lit (.bool true)], args := [d] }
  | _ => none }
def fnExactEnclosedRow : OpenClaim := { program := "ytgkjndhobijdiaa", sum := "75293b74db53a984d8326d1a716ed2fd9c1fd01ef967bdb1418e43e4d3694982", func := "loop.example/g00050/laws.FnExactEnclosed", spec := "fnExactEnclosed", plainKeys := false, apart := false }
def FnExactEnclosedSaid : Prop := fnExactEnclosedRow.holds Try.pinned (OpenSpec.ofChange fnExactEnclosedSpec)

/-- ITS FALSE NEIGHBOUR: 'it returns false'. Refute it at one input. -/
def fnExactEnclosedWrong : ChangeSpec := { name := "fnExactEnclosed", fn := fun _ => fun
  | [d] => { results := [.lit (.bool false)], args := [d] }
  | _ => none }
def FnExactEnclosedWrongFalsely : Prop := fnExactEnclosedRow.holds Try.pinned (OpenSpec.ofChange fnExactEnclosedWrong)

/-- 'laws.FnExactClosed': WHATEVER THE INPUT: true; the input reads as it did. -/
def fnExactClosedSpec : ChangeSpec := { name := "fnExactClosed", fn := fun _ => fun
  | [d] => { results := [.lit (.bool true)], args := [d] }
  | _ => none }
def fnExactClosedRow : OpenClaim := { program := "ytgkjndhobijdiaa", sum := "75293b74db53a984d8326d1a716ed2fd9c1fd01ef967bdb1418e43e4d3694982", func := "loop.example/g00050/laws.FnExactClosed", spec := "fnExactClosed", plainKeys := false, apart := false }
def FnExactClosedSaid : Prop := fnExactClosedRow.holds Try.pinned (OpenSpec.ofChange fnExactClosedSpec)

/-- ITS FALSE NEIGHBOUR: 'it returns false'. Refute it at one input. -/
def fnExactClosedWrong : ChangeSpec := { name := "fnExactClosed", fn := fun _ => fun
  | [d] => { results := [.lit (.bool false)], args := [d] }
  | _ => none }
def FnExactClosedWrongFalsely : Prop := fnExactClosedRow.holds Try.pinned (OpenSpec.ofChange fnExactClosedWrong)

/- THE SECOND FORM. 'bulk': how many values and letters a reading holds, each counted each time it is reached (what is shared counts as often as it is met; a slice's spare places count too). A statement '..UptoSaid' is the law's where the arguments, and the package variables that the reading takes, are together of bulk at most 1048576: NARROWER than '..Said'. Prove '..Said' where nothing that the law and all that it calls make is longer than what came in: it says more and counts as full. Else prove '..UptoSaid'. A law counts once. -/
mutual
def uptoBulk {H : Type} : DataW H → Nat
  | .lit (.string bytes) => bytes.length + 1
  | .lit _ => 1
  | .nil => 1
  | .ptr d => uptoBulk d + 1
  | .slice elems spare => uptoBulkAll elems + uptoBulkAll spare + 1
  | .agg parts => uptoBulkAll parts + 1
  | .iface _ d => uptoBulk d + 1
  | .map entries => uptoBulkEntries entries + 1
  | .held _ => 1
def uptoBulkAll {H : Type} : List (DataW H) → Nat
  | [] => 0
  | d :: r => uptoBulk d + uptoBulkAll r
def uptoBulkEntries {H : Type} : List (Lit × DataW H) → Nat
  | [] => 0
  | x :: r => uptoBulkEntry x + uptoBulkEntries r
def uptoBulkEntry {H : Type} : Lit × DataW H → Nat
  | (.string bytes, d) => bytes.length + uptoBulk d + 1
  | (_, d) => uptoBulk d + 1
 end
def uptoSmall : (H : Type) → List (DataW H) → Bool := fun _ ds => decide (uptoBulkAll ds ≤ 1048576)
def OpenSpec.upto (s : _root_.Go.ChangeSpec) : _root_.Go.OpenSpec := { _root_.Go.OpenSpec.ofChange s with cond := some uptoSmall }

/-- 'laws.FnThresholdBest', WHERE WHAT IT READS IS OF BULK AT MOST 1048576: true; the input reads as it did. -/
def fnThresholdBestUptoRow : OpenClaim := { program := "ytgkjndhobijdiaa", sum := "75293b74db53a984d8326d1a716ed2fd9c1fd01ef967bdb1418e43e4d3694982", func := "loop.example/g00050/laws.FnThresholdBest", spec := "fnThresholdBest", inPlace := ["math/bits.Add64"], plainKeys := false, apart := false, narrowed := true }
def FnThresholdBestUptoSaid : Prop := fnThresholdBestUptoRow.holds Try.pinned (OpenSpec.upto fnThresholdBestSpec)

/-- 'laws.FnShed', WHERE WHAT IT READS IS OF BULK AT MOST 1048576: true; the input reads as it did. -/
def fnShedUptoRow : OpenClaim := { program := "ytgkjndhobijdiaa", sum := "75293b74db53a984d8326d1a716ed2fd9c1fd01ef967bdb1418e43e4d3694982", func := "loop.example/g00050/laws.FnShed", spec := "fnShed", unfollowed := true, recurses := true, plainKeys := false, apart := false, narrowed := true }
def FnShedUptoSaid : Prop := fnShedUptoRow.holds Try.pinned (OpenSpec.upto fnShedSpec)

/-- 'laws.FnCutLeast', WHERE WHAT IT READS IS OF BULK AT MOST 1048576: true; the input reads as it did. -/
def fnCutLeastUptoRow : OpenClaim := { program := "ytgkjndhobijdiaa", sum := "75293b74db53a984d8326d1a716ed2fd9c1fd01ef967bdb1418e43e4d3694982", func := "loop.example/g00050/laws.FnCutLeast", spec := "fnCutLeast", unfollowed := true, recurses := true, plainKeys := false, apart := false, narrowed := true }
def FnCutLeastUptoSaid : Prop := fnCutLeastUptoRow.holds Try.pinned (OpenSpec.upto fnCutLeastSpec)

/-- 'laws.FnSurfaces', WHERE WHAT IT READS IS OF BULK AT MOST 1048576: true; the input reads as it did. -/
def fnSurfacesUptoRow : OpenClaim := { program := "ytgkjndhobijdiaa", sum := "75293b74db53a984d8326d1a716ed2fd9c1fd01ef967bdb1418e43e4d3694982", func := "loop.example/g00050/laws.FnSurfaces", spec := "fnSurfaces", plainKeys := false, apart := false, narrowed := true }
def FnSurfacesUptoSaid : Prop := fnSurfacesUptoRow.holds Try.pinned (OpenSpec.upto fnSurfacesSpec)

/-- 'laws.FnExactHistogram', WHERE WHAT IT READS IS OF BULK AT MOST 1048576: true; the input reads as it did. -/
def fnExactHistogramUptoRow : OpenClaim := { program := "ytgkjndhobijdiaa", sum := "75293b74db53a984d8326d1a716ed2fd9c1fd01ef967bdb1418e43e4d3694982", func := "loop.example/g00050/laws.FnExactHistogram", spec := "fnExactHistogram", plainKeys := false, apart := false, narrowed := true }
def FnExactHistogramUptoSaid : Prop := fnExactHistogramUptoRow.holds Try.pinned (OpenSpec.upto fnExactHistogramSpec)

/-- 'laws.FnExactThreshold', WHERE WHAT IT READS IS OF BULK AT MOST 1048576: true; the input reads as it did. -/
def fnExactThresholdUptoRow : OpenClaim := { program := "ytgkjndhobijdiaa", sum := "75293b74db53a984d8326d1a716ed2fd9c1fd01ef967bdb1418e43e4d3694982", func := "loop.example/g00050/laws.FnExactThreshold", spec := "fnExactThreshold", inPlace := ["math/bits.Add64"], plainKeys := false, apart := false, narrowed := true }
def FnExactThresholdUptoSaid : Prop := fnExactThresholdUptoRow.holds Try.pinned (OpenSpec.upto fnExactThresholdSpec)

/-- 'laws.FnExactWatershed', WHERE WHAT IT READS IS OF BULK AT MOST 1048576: true; the input reads as it did. -/
def fnExactWatershedUptoRow : OpenClaim := { program := "ytgkjndhobijdiaa", sum := "75293b74db53a984d8326d1a716ed2fd9c1fd01ef967bdb1418e43e4d3694982", func := "loop.example/g00050/laws.FnExactWatershed", spec := "fnExactWatershed", unfollowed := true, recurses := true, plainKeys := false, apart := false, narrowed := true }
def FnExactWatershedUptoSaid : Prop := fnExactWatershedUptoRow.holds Try.pinned (OpenSpec.upto fnExactWatershedSpec)

/-- 'laws.FnExactCutCost', WHERE WHAT IT READS IS OF BULK AT MOST 1048576: true; the input reads as it did. -/
def fnExactCutCostUptoRow : OpenClaim := { program := "ytgkjndhobijdiaa", sum := "75293b74db53a984d8326d1a716ed2fd9c1fd01ef967bdb1418e43e4d3694982", func := "loop.example/g00050/laws.FnExactCutCost", spec := "fnExactCutCost", unfollowed := true, recurses := true, plainKeys := false, apart := false, narrowed := true }
def FnExactCutCostUptoSaid : Prop := fnExactCutCostUptoRow.holds Try.pinned (OpenSpec.upto fnExactCutCostSpec)

/-- 'laws.FnExactCut', WHERE WHAT IT READS IS OF BULK AT MOST 1048576: true; the input reads as it did. -/
def fnExactCutUptoRow : OpenClaim := { program := "ytgkjndhobijdiaa", sum := "75293b74db53a984d8326d1a716ed2fd9c1fd01ef967bdb1418e43e4d3694982", func := "loop.example/g00050/laws.FnExactCut", spec := "fnExactCut", unfollowed := true, recurses := true, plainKeys := false, apart := false, narrowed := true }
def FnExactCutUptoSaid : Prop := fnExactCutUptoRow.holds Try.pinned (OpenSpec.upto fnExactCutSpec)

/-- 'laws.FnExactVote', WHERE WHAT IT READS IS OF BULK AT MOST 1048576: true; the input reads as it did. -/
def fnExactVoteUptoRow : OpenClaim := { program := "ytgkjndhobijdiaa", sum := "75293b74db53a984d8326d1a716ed2fd9c1fd01ef967bdb1418e43e4d3694982", func := "loop.example/g00050/laws.FnExactVote", spec := "fnExactVote", unfollowed := true, recurses := true, plainKeys := false, apart := false, narrowed := true }
def FnExactVoteUptoSaid : Prop := fnExactVoteUptoRow.holds Try.pinned (OpenSpec.upto fnExactVoteSpec)

/-- 'laws.FnExactSurface', WHERE WHAT IT READS IS OF BULK AT MOST 1048576: true; the input reads as it did. -/
def fnExactSurfaceUptoRow : OpenClaim := { program := "ytgkjndhobijdiaa", sum := "75293b74db53a984d8326d1a716ed2fd9c1fd01ef967bdb1418e43e4d3694982", func := "loop.example/g00050/laws.FnExactSurface", spec := "fnExactSurface", plainKeys := false, apart := false, narrowed := true }
def FnExactSurfaceUptoSaid : Prop := fnExactSurfaceUptoRow.holds Try.pinned (OpenSpec.upto fnExactSurfaceSpec)

/-- 'laws.FnExactEnclosed', WHERE WHAT IT READS IS OF BULK AT MOST 1048576: true; the input reads as it did. -/
def fnExactEnclosedUptoRow : OpenClaim := { program := "ytgkjndhobijdiaa", sum := "75293b74db53a984d8326d1a716ed2fd9c1fd01ef967bdb1418e43e4d3694982", func := "loop.example/g00050/laws.FnExactEnclosed", spec := "fnExactEnclosed", plainKeys := false, apart := false, narrowed := true }
def FnExactEnclosedUptoSaid : Prop := fnExactEnclosedUptoRow.holds Try.pinned (OpenSpec.upto fnExactEnclosedSpec)

/-- 'laws.FnExactClosed', WHERE WHAT IT READS IS OF BULK AT MOST 1048576: true; the input reads as it did. -/
def fnExactClosedUptoRow : OpenClaim := { program := "ytgkjndhobijdiaa", sum := "75293b74db53a984d8326d1a716ed2fd9c1fd01ef967bdb1418e43e4d3694982", func := "loop.example/g00050/laws.FnExactClosed", spec := "fnExactClosed", plainKeys := false, apart := false, narrowed := true }
def FnExactClosedUptoSaid : Prop := fnExactClosedUptoRow.holds Try.pinned (OpenSpec.upto fnExactClosedSpec)

end Rows
end Go.Proofs.Ytgkjndhobijdiaa
