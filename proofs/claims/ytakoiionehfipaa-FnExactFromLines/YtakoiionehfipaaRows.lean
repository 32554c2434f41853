/-
  No cell of these rows narrows 'for every input' (looked for: loops, veiled, ifaces, maps, wideKeys, modest, calm, conditions, laid).
  DERIVED. THE GIVEN ROWS OF THIS SEAT. 11 by the template 'for every input the law returns true; each argument reads behind the call as it read before'; 0 by the template 'total and deterministic' (their statements: YtakoiionehfipaaTotals.lean).
  GIVEN WITH THE SEED: the statements are not yours to turn. If you find one false, say at which input.
  Laid BY PROGRAM, IN A SANDBOX (cutbox-rows.mjs): the forced cells as the released guide's own fill.sh prints them over the translation c4dc1d56c64e68f5… (all of the seat's roots in one cut). By AI agents, Wed Nov 11 2026. No macro, syntax, notation, axiom, sorry.
-/
import Derived.Test.YtakoiionehfipaaChecked
import GoSem.Claim
import GoSem.ClaimJoined
import GoSem.ClaimMapViews
import Derived.JoinedTies
import Derived.KernelRfl
namespace Go.Proofs.Ytakoiionehfipaa
/- THE CELL 'sum', in the pinned program and in every row, IS THE sha256 OF THE DUMP (.gsa) THAT YtakoiionehfipaaProg.lean LOADS. Nothing in Lean hashes anything: it is a label: what it is worth is what the hold of that sum in a sandbox is worth. -/
noncomputable def Try.pinned : Pinned := { name := "ytakoiionehfipaa", sum := "c4dc1d56c64e68f5a4b061cee9d4a7774ed27e64dfee6cd553de76f711666c76", checked := Try.checked }
namespace Rows
def none {H : Type} : Left H := { results := [], args := [] }

/-- 'laws.FnLinesBack': WHATEVER THE INPUT: true; the input reads as it did. -/
def fnLinesBackSpec : ChangeSpec := { name := "fnLinesBack", fn := fun _ => fun
  | [d] => { results := [.lit (.bool true)], args := [d] }
  | _ => none }
def fnLinesBackRow : OpenClaim := { program := "ytakoiionehfipaa", sum := "c4dc1d56c64e68f5a4b061cee9d4a7774ed27e64dfee6cd553de76f711666c76", func := "loop.example/g00050/laws.FnLinesBack", spec := "fnLinesBack", unfollowed := true, recurses := true, apart := false }
def FnLinesBackSaid : Prop := fnLinesBackRow.holds Try.pinned (OpenSpec.ofChange fnLinesBackSpec)

/-- ITS FALSE NEIGHBOUR: 'it returns false'. Refute it at one input. -/
def fnLinesBackWrong : ChangeSpec := { name := "fnLinesBack", fn := fun _ => fun
  | [d] => { results := [.lit (.bool false)], args := [d] }
  | _ => none }
def FnLinesBackWrongFalsely : Prop := fnLinesBackRow.holds Try.pinned (OpenSpec.ofChange fnLinesBackWrong)

/-- 'laws.FnDescends': WHATEVER THE INPUT: true; the input reads as it did. -/
def fnDescendsSpec : ChangeSpec := { name := "fnDescends", fn := fun _ => fun
  | [d] => { results := [.lit (.bool true)], args := [d] }
  | _ => none }
def fnDescendsRow : OpenClaim := { program := "ytakoiionehfipaa", sum := "c4dc1d56c64e68f5a4b061cee9d4a7774ed27e64dfee6cd553de76f711666c76", func := "loop.example/g00050/laws.FnDescends", spec := "fnDescends", unfollowed := true, recurses := true, apart := false }
def FnDescendsSaid : Prop := fnDescendsRow.holds Try.pinned (OpenSpec.ofChange fnDescendsSpec)

/-- ITS FALSE NEIGHBOUR: 'it returns false'. Refute it at one input. -/
def fnDescendsWrong : ChangeSpec := { name := "fnDescends", fn := fun _ => fun
  | [d] => { results := [.lit (.bool false)], args := [d] }
  | _ => none }
def FnDescendsWrongFalsely : Prop := fnDescendsRow.holds Try.pinned (OpenSpec.ofChange fnDescendsWrong)

/-- 'laws.FnDoses': WHATEVER THE INPUT: true; the input reads as it did. -/
def fnDosesSpec : ChangeSpec := { name := "fnDoses", fn := fun _ => fun
  | [d] => { results := [.lit (.bool true)], args := [d] }
  | _ => none }
def fnDosesRow : OpenClaim := { program := "ytakoiionehfipaa", sum := "c4dc1d56c64e68f5a4b061cee9d4a7774ed27e64dfee6cd553de76f711666c76", func := "loop.example/g00050/laws.FnDoses", spec := "fnDoses", unfollowed := true, recurses := true, apart := false }
def FnDosesSaid : Prop := fnDosesRow.holds Try.pinned (OpenSpec.ofChange fnDosesSpec)

/-- ITS FALSE NEIGHBOUR: 'it returns false'. Refute it at one input. -/
def fnDosesWrong : ChangeSpec := { name := "fnDoses", fn := fun _ => fun
  | [d] => { results := [.lit (.bool false)], args := [d] }
  | _ => none }
def FnDosesWrongFalsely : Prop := fnDosesRow.holds Try.pinned (OpenSpec.ofChange fnDosesWrong)

/-- 'laws.FnLinesOfPhantom': WHATEVER THE INPUT: true; the input reads as it did. -/
def fnLinesOfPhantomSpec : ChangeSpec := { name := "fnLinesOfPhantom", fn := fun _ => fun
  | [d] => { results := [.lit (.bool true)], args := [d] }
  | _ => none }
def fnLinesOfPhantomRow : OpenClaim := { program := "ytakoiionehfipaa", sum := "c4dc1d56c64e68f5a4b061cee9d4a7774ed27e64dfee6cd553de76f711666c76", func := "loop.example/g00050/laws.FnLinesOfPhantom", spec := "fnLinesOfPhantom", unfollowed := true, recurses := true, apart := false }
def FnLinesOfPhantomSaid : Prop := fnLinesOfPhantomRow.holds Try.pinned (OpenSpec.ofChange fnLinesOfPhantomSpec)

/-- ITS FALSE NEIGHBOUR: 'it returns false'. Refute it at one input. -/
def fnLinesOfPhantomWrong : ChangeSpec := { name := "fnLinesOfPhantom", fn := fun _ => fun
  | [d] => { results := [.lit (.bool false)], args := [d] }
  | _ => none }
def FnLinesOfPhantomWrongFalsely : Prop := fnLinesOfPhantomRow.holds Try.pinned (OpenSpec.ofChange fnLinesOfPhantomWrong)

/-- 'laws.FnExactLines': WHATEVER THE INPUT: true; the input reads as it did. -/
def fnExactLinesSpec : ChangeSpec := { name := "fnExactLines", fn := fun _ => fun
  | [d] => { results := [.lit (.bool true)], args := [d] }
  | _ => none }
def fnExactLinesRow : OpenClaim := { program := "ytakoiionehfipaa", sum := "c4dc1d56c64e68f5a4b061cee9d4a7774ed27e64dfee6cd553de76f711666c76", func := "loop.example/g00050/laws.FnExactLines", spec := "fnExactLines", unfollowed := true, recurses := true, apart := false }
def FnExactLinesSaid : Prop := fnExactLinesRow.holds Try.pinned (OpenSpec.ofChange fnExactLinesSpec)

/-- ITS FALSE NEIGHBOUR: 'it returns false'. Refute it at one input. -/
def fnExactLinesWrong : ChangeSpec := { name := "fnExactLines", fn := fun _ => fun
  | [d] => { results := [.lit (.bool false)], args := [d] }
  | _ => none }
def FnExactLinesWrongFalsely : Prop := fnExactLinesRow.holds Try.pinned (OpenSpec.ofChange fnExactLinesWrong)

/-- 'laws.FnExactSideOf': WHATEVER THE INPUT: true; the input reads as it did. -/
def fnExactSideOfSpec : ChangeSpec := { name := "fnExactSideOf", fn := fun _ => fun
  | [d] => { results := [.lit (.bool true)], args := [d] }
  | _ => none }
def fnExactSideOfRow : OpenClaim := { program := "ytakoiionehfipaa", sum := "c4dc1d56c64e68f5a4b061cee9d4a7774ed27e64dfee6cd553de76f711666c76", func := "loop.example/g00050/laws.FnExactSideOf", spec := "fnExactSideOf", apart := false }
def FnExactSideOfSaid : Prop := fnExactSideOfRow.holds Try.pinned (OpenSpec.ofChange fnExactSideOfSpec)

/-- ITS FALSE NEIGHBOUR: 'it returns false'. Refute it at one input. -/
def fnExactSideOfWrong : ChangeSpec := { name := "fnExactSideOf", fn := fun _ => fun
  | [d] => { results := [.lit (.bool false)], args := [d] }
  | _ => none }
def FnExactSideOfWrongFalsely : Prop := fnExactSideOfRow.holds Try.pinned (OpenSpec.ofChange fnExactSideOfWrong)

/-- 'laws.FnExactFromLines': WHATEVER THE INPUT: true; the input reads as it did. -/
def fnExactFromLinesSpec : ChangeSpec := { name := "fnExactFromLines", fn := fun _ => fun
  | [d] => { results := [.lit (.bool true)], args := [d] }
  | _ => none }
def fnExactFromLinesRow : OpenClaim := { program := "ytakoiionehfipaa", sum := "c4dc1d56c64e68f5a4b061cee9d4a7774ed27e64dfee6cd553de76f711666c76", func := "loop.example/g00050/laws.FnExactFromLines", spec := "fnExactFromLines", unfollowed := true, recurses := true, apart := false }
def FnExactFromLinesSaid : Prop := fnExactFromLinesRow.holds Try.pinned (OpenSpec.ofChange fnExactFromLinesSpec)

/-- ITS FALSE NEIGHBOUR: 'it returns false'. Refute it at one input. -/
def fnExactFromLinesWrong : ChangeSpec := { name := "fnExactFromLines", fn := fun _ => fun
  | [d] => { results := [.lit (.bool false)], args := [d] }
  | _ => none }
def FnExactFromLinesWrongFalsely : Prop := fnExactFromLinesRow.holds Try.pinned (OpenSpec.ofChange fnExactFromLinesWrong)

/-- 'laws.FnExactMisfit': WHATEVER THE INPUT: true; the input reads as it did. -/
def fnExactMisfitSpec : ChangeSpec := { name := "fnExactMisfit", fn := fun _ => fun
  | [d1, d2] => { results := [.lit (.bool true)], args := [d1, d2] }
  | _ => none }
def fnExactMisfitRow : OpenClaim := { program := "ytakoiionehfipaa", sum := "c4dc1d56c64e68f5a4b061cee9d4a7774ed27e64dfee6cd553de76f711666c76", func := "loop.example/g00050/laws.FnExactMisfit", spec := "fnExactMisfit", unfollowed := true, recurses := true, apart := false }
def FnExactMisfitSaid : Prop := fnExactMisfitRow.holds Try.pinned (OpenSpec.ofChange fnExactMisfitSpec)

/-- ITS FALSE NEIGHBOUR: 'it returns false'. Refute it at one input. -/
def fnExactMisfitWrong : ChangeSpec := { name := "fnExactMisfit", fn := fun _ => fun
  | [d1, d2] => { results := [.lit (.bool false)], args := [d1, d2] }
  | _ => none }
def FnExactMisfitWrongFalsely : Prop := fnExactMisfitRow.holds Try.pinned (OpenSpec.ofChange fnExactMisfitWrong)

/-- 'laws.FnExactDescend': WHATEVER THE INPUT: true; the input reads as it did. -/
def fnExactDescendSpec : ChangeSpec := { name := "fnExactDescend", fn := fun _ => fun
  | [d1, d2, d3] => { results := [.lit (.bool true)], args := [d1, d2, d3] }
  | _ => none }
def fnExactDescendRow : OpenClaim := { program := "ytakoiionehfipaa", sum := "c4dc1d56c64e68f5a4b061cee9d4a7774ed27e64dfee6cd553de76f711666c76", func := "loop.example/g00050/laws.FnExactDescend", spec := "fnExactDescend", unfollowed := true, recurses := true, apart := false }
def FnExactDescendSaid : Prop := fnExactDescendRow.holds Try.pinned (OpenSpec.ofChange fnExactDescendSpec)

/-- ITS FALSE NEIGHBOUR: 'it returns false'. Refute it at one input. -/
def fnExactDescendWrong : ChangeSpec := { name := "fnExactDescend", fn := fun _ => fun
  | [d1, d2, d3] => { results := [.lit (.bool false)], args := [d1, d2, d3] }
  | _ => none }
def FnExactDescendWrongFalsely : Prop := fnExactDescendRow.holds Try.pinned (OpenSpec.ofChange fnExactDescendWrong)

/-- 'laws.FnExactDoseBook': WHATEVER THE INPUT: true; the input reads as it did. -/
def fnExactDoseBookSpec : ChangeSpec := { name := "fnExactDoseBook", fn := fun _ => fun
  | [d] => { results := [.lit (.bool true)], args := [d] }
  | _ => none }
def fnExactDoseBookRow : OpenClaim := { program := "ytakoiionehfipaa", sum := "c4dc1d56c64e68f5a4b061cee9d4a7774ed27e64dfee6cd553de76f711666c76", func := "loop.example/g00050/laws.FnExactDoseBook", spec := "fnExactDoseBook", unfollowed := true, recurses := true, apart := false }
def FnExactDoseBookSaid : Prop := fnExactDoseBookRow.holds Try.pinned (OpenSpec.ofChange fnExactDoseBookSpec)

/-- ITS FALSE NEIGHBOUR: 'it returns false'. Refute it at one input. -/
def fnExactDoseBookWrong : ChangeSpec := { name := "fnExactDoseBook", fn := fun _ => fun
  | [d] => { results := [.lit (.bool false)], args := [d] }
  | _ => none }
def FnExactDoseBookWrongFalsely : Prop := fnExactDoseBookRow.holds Try.pinned (OpenSpec.ofChange fnExactDoseBookWrong)

/-- 'laws.FnExactFits': WHATEVER THE INPUT: true; the input reads as it did. -/
def fnExactFitsSpec : ChangeSpec := { name := "fnExactFits", fn := fun _ => fun
  | [d1, d2] => { results := [.lit (.bool true)], args := [d1, d2] }
  | _ => none }
def fnExactFitsRow : OpenClaim := { program := "ytakoiionehfipaa", sum := "c4dc1d56c64e68f5a4b061cee9d4a7774ed27e64dfee6cd553de76f711666c76", func := "loop.example/g00050/laws.FnExactFits", spec := "fnExactFits", apart := false }
def FnExactFitsSaid : Prop := fnExactFitsRow.holds Try.pinned (OpenSpec.ofChange fnExactFitsSpec)

/-- ITS FALSE NEIGHBOUR: 'it returns false'. Refute it at one input. -/
def fnExactFitsWrong : ChangeSpec := { name := "fnExactFits", fn := fun _ => fun
  | [d1, d2] => { results := [.lit (.bool false)], args := [d1, d2] }
  | _ => none }
def FnExactFitsWrongFalsely : Prop := fnExactFitsRow.holds Try.pinned (OpenSpec.ofChange fnExactFitsWrong)

/- THE SECOND FORM. 'bulk': how many values and letters a reading holds, each counted each time it is reached (what is shared counts as often as it is met; a slice's spare places count too). A statement '..UptoSaid' is the law's where the arguments, and the package variables that the reading takes, are together of bulk at most 1048576: NARROWER than '..Said'. Prove '..Said' where nothing that the law and all that it calls make is longer than what came in: it says more and counts as full. Else prove '..UptoSaid'. A law counts once. -/
mutual
def uptoBulk {H : Type} : DataW H → Nat
  | .lit (.string bytes) => bytes.length + 1
  | .lit _ => 1
  | .nil => 1
  | .ptr d => uptoBulk d + 1
  | .slice elems spare => uptoBulkAll elems + uptoBulkAll spare + 1
  | .agg parts => uptoBulkAll parts + 1
  | .iface _ d => uptoBulk d + 1
  | .map entries => uptoBulkEntries entries + 1
  | .held _ => 1
def uptoBulkAll {H : Type} : List (DataW H) → Nat
  | [] => 0
  | d :: r => uptoBulk d + uptoBulkAll r
def uptoBulkEntries {H : Type} : List (Lit × DataW H) → Nat
  | [] => 0
  | x :: r => uptoBulkEntry x + uptoBulkEntries r
def uptoBulkEntry {H : Type} : Lit × DataW H → Nat
  | (.string bytes, d) => bytes.length + uptoBulk d + 1
  | (_, d) => uptoBulk d + 1
 end
def uptoSmall : (H : Type) → List (DataW H) → Bool := fun _ ds => decide (uptoBulkAll ds ≤ 1048576)
def OpenSpec.upto (s : _root_.Go.ChangeSpec) : _root_.Go.OpenSpec := { _root_.Go.OpenSpec.ofChange s with cond := some uptoSmall }

/-- 'laws.FnLinesBack', WHERE WHAT IT READS IS OF BULK AT MOST 1048576: true; the input reads as it did. -/
def fnLinesBackUptoRow : OpenClaim := { program := "ytakoiionehfipaa", sum := "c4dc1d56c64e68f5a4b061cee9d4a7774ed27e64dfee6cd553de76f711666c76", func := "loop.example/g00050/laws.FnLinesBack", spec := "fnLinesBack", unfollowed := true, recurses := true, apart := false, narrowed := true }
def FnLinesBackUptoSaid : Prop := fnLinesBackUptoRow.holds Try.pinned (OpenSpec.upto fnLinesBackSpec)

/-- 'laws.FnDescends', WHERE WHAT IT READS IS OF BULK AT MOST 1048576: true; the input reads as it did. -/
def fnDescendsUptoRow : OpenClaim := { program := "ytakoiionehfipaa", sum := "c4dc1d56c64e68f5a4b061cee9d4a7774ed27e64dfee6cd553de76f711666c76", func := "loop.example/g00050/laws.FnDescends", spec := "fnDescends", unfollowed := true, recurses := true, apart := false, narrowed := true }
def FnDescendsUptoSaid : Prop := fnDescendsUptoRow.holds Try.pinned (OpenSpec.upto fnDescendsSpec)

/-- 'laws.FnDoses', WHERE WHAT IT READS IS OF BULK AT MOST 1048576: true; the input reads as it did. -/
def fnDosesUptoRow : OpenClaim := { program := "ytakoiionehfipaa", sum := "c4dc1d56c64e68f5a4b061cee9d4a7774ed27e64dfee6cd553de76f711666c76", func := "loop.example/g00050/laws.FnDoses", spec := "fnDoses", unfollowed := true, recurses := true, apart := false, narrowed := true }
def FnDosesUptoSaid : Prop := fnDosesUptoRow.holds Try.pinned (OpenSpec.upto fnDosesSpec)

/-- 'laws.FnLinesOfPhantom', WHERE WHAT IT READS IS OF BULK AT MOST 1048576: true; the input reads as it did. -/
def fnLinesOfPhantomUptoRow : OpenClaim := { program := "ytakoiionehfipaa", sum := "c4dc1d56c64e68f5a4b061cee9d4a7774ed27e64dfee6cd553de76f711666c76", func := "loop.example/g00050/laws.FnLinesOfPhantom", spec := "fnLinesOfPhantom", unfollowed := true, recurses := true, apart := false, narrowed := true }
def FnLinesOfPhantomUptoSaid : Prop := fnLinesOfPhantomUptoRow.holds Try.pinned (OpenSpec.upto fnLinesOfPhantomSpec)

/-- 'laws.FnExactLines', WHERE WHAT IT READS IS OF BULK AT MOST 1048576: true; the input reads as it did. -/
def fnExactLinesUptoRow : OpenClaim := { program := "ytakoiionehfipaa", sum := "c4dc1d56c64e68f5a4b061cee9d4a7774ed27e64dfee6cd553de76f711666c76", func := "loop.example/g00050/laws.FnExactLines", spec := "fnExactLines", unfollowed := true, recurses := true, apart := false, narrowed := true }
def FnExactLinesUptoSaid : Prop := fnExactLinesUptoRow.holds Try.pinned (OpenSpec.upto fnExactLinesSpec)

/-- 'laws.FnExactSideOf', WHERE WHAT IT READS IS OF BULK AT MOST 1048576: true; the input reads as it did. -/
def fnExactSideOfUptoRow : OpenClaim := { program := "ytakoiionehfipaa", sum := "c4dc1d56c64e68f5a4b061cee9d4a7774ed27e64dfee6cd553de76f711666c76", func := "loop.example/g00050/laws.FnExactSideOf", spec := "fnExactSideOf", apart := false, narrowed := true }
def FnExactSideOfUptoSaid : Prop := fnExactSideOfUptoRow.holds Try.pinned (OpenSpec.upto fnExactSideOfSpec)

/-- 'laws.FnExactFromLines', WHERE WHAT IT READS IS OF BULK AT MOST 1048576: true; the input reads as it did. -/
def fnExactFromLinesUptoRow : OpenClaim := { program := "ytakoiionehfipaa", sum := "c4dc1d56c64e68f5a4b061cee9d4a7774ed27e64dfee6cd553de76f711666c76", func := "loop.example/g00050/laws.FnExactFromLines", spec := "fnExactFromLines", unfollowed := true, recurses := true, apart := false, narrowed := true }
def FnExactFromLinesUptoSaid : Prop := fnExactFromLinesUptoRow.holds Try.pinned (OpenSpec.upto fnExactFromLinesSpec)

/-- 'laws.FnExactMisfit', WHERE WHAT IT READS IS OF BULK AT MOST 1048576: true; the input reads as it did. -/
def fnExactMisfitUptoRow : OpenClaim := { program := "ytakoiionehfipaa", sum := "c4dc1d56c64e68f5a4b061cee9d4a7774ed27e64dfee6cd553de76f711666c76", func := "loop.example/g00050/laws.FnExactMisfit", spec := "fnExactMisfit", unfollowed := true, recurses := true, apart := false, narrowed := true }
def FnExactMisfitUptoSaid : Prop := fnExactMisfitUptoRow.holds Try.pinned (OpenSpec.upto fnExactMisfitSpec)

/-- 'laws.FnExactDescend', WHERE WHAT IT READS IS OF BULK AT MOST 1048576: true; the input reads as it did. -/
def fnExactDescendUptoRow : OpenClaim := { program := "ytakoiionehfipaa", sum := "c4dc1d56c64e68f5a4b061cee9d4a7774ed27e64dfee6cd553de76f711666c76", func := "loop.example/g00050/laws.FnExactDescend", spec := "fnExactDescend", unfollowed := true, recurses := true, apart := false, narrowed := true }
def FnExactDescendUptoSaid : Prop := fnExactDescendUptoRow.holds Try.pinned (OpenSpec.upto fnExactDescendSpec)

/-- 'laws.FnExactDoseBook', WHERE WHAT IT READS IS OF BULK AT MOST 1048576: true; the input reads as it did. -/
def fnExactDoseBookUptoRow : OpenClaim := { program := "ytakoiionehfipaa", sum := "c4dc1d56c64e68f5a4b061cee9d4a7774ed27e64dfee6cd553de76f711666c76", func := "loop.example/g00050/laws.FnExactDoseBook", spec := "fnExactDoseBook", unfollowed := true, recurses := true, apart := false, narrowed := true }
def FnExactDoseBookUptoSaid : Prop := fnExactDoseBookUptoRow.holds Try.pinned (OpenSpec.upto fnExactDoseBookSpec)

/-- 'laws.FnExactFits', WHERE WHAT IT READS IS OF BULK AT MOST 1048576: true; the input reads as it did. -/
def fnExactFitsUptoRow : OpenClaim := { program := "ytakoiionehfipaa", sum := "c4dc1d56c64e68f5a4b061cee9d4a7774ed27e64dfee6cd553de76f711666c76", func := "loop.example/g00050/laws.FnExactFits", spec := "fnExactFits", apart := false, narrowed := true }
def FnExactFitsUptoSaid : Prop := fnExactFitsUptoRow.holds Try.pinned (OpenSpec.upto fnExactFitsSpec)

end Rows
end Go.Proofs.Ytakoiionehfipaa
