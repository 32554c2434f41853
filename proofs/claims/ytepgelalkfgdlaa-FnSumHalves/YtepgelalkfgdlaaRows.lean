/-
  No cell of these rows narrows 'for every input' (looked for: loops, veiled, ifaces, maps, wideKeys, modest, calm, conditions, laid).
  DERIVED. THE GIVEN ROWS OF THIS SEAT. 15 by the template 'for every input the law returns true; each argument reads behind the call as it read before'; 0 by the template 'total and deterministic' (their statements: YtepgelalkfgdlaaTotals.lean).
  GIVEN WITH THE SEED: the statements are not yours to turn. If you find one false, say at which input.
  Laid BY PROGRAM, IN A SANDBOX (cutbox-rows.mjs): the forced cells as the released guide's own fill.sh prints them over the translation 5cb5b247c05142da… (all of the seat's roots in one cut). By AI agents, Wed Nov 11 2026. No macro, syntax, notation, axiom, sorry.
-/
import Derived.Test.YtepgelalkfgdlaaChecked
import GoSem.Claim
import GoSem.ClaimJoined
import GoSem.ClaimMapViews
import Derived.JoinedTies
import Derived.KernelRfl
namespace Go.Proofs.Ytepgelalkfgdlaa
/- THE CELL 'sum', in the pinned program and in every row, IS THE sha256 OF THE DUMP (.gsa) THAT YtepgelalkfgdlaaProg.lean LOADS. Nothing in Lean hashes anything: it is a label: what it is worth is what the hold of that sum in a sandbox is worth. -/
noncomputable def Try.pinned : Pinned := { name := "ytepgelalkfgdlaa", sum := "5cb5b247c05142dad5d6551e1d3633e99cfa23e3649ff652e37fe54e4ef5842b", checked := Try.checked }
namespace Rows
def none {H : Type} : Left H := { results := [], args := [] }

/-- 'laws.FnBitsBack': WHATEVER THE INPUT: true; the input reads as it did. -/
def fnBitsBackSpec : ChangeSpec := { name := "fnBitsBack", fn := fun _ => fun
  | [d] => { results := [.lit (.bool true)], args := [d] }
  | _ => none }
def fnBitsBackRow : OpenClaim := { program := "ytepgelalkfgdlaa", sum := "5cb5b247c05142dad5d6551e1d3633e99cfa23e3649ff652e37fe54e4ef5842b", func := "loop.example/g00050/laws.FnBitsBack", spec := "fnBitsBack", inPlace := ["math.Float64frombits"], apart := false }
def FnBitsBackSaid : Prop := fnBitsBackRow.holds Try.pinned (OpenSpec.ofChange fnBitsBackSpec)

/-- ITS FALSE NEIGHBOUR: 'it returns false'. Refute it at one input. -/
def fnBitsBackWrong : ChangeSpec := { name := "fnBitsBack", fn := fun _ => fun
  | [d] => { results := [.lit (.bool false)], args := [d] }
  | _ => none }
def FnBitsBackWrongFalsely : Prop := fnBitsBackRow.holds Try.pinned (OpenSpec.ofChange fnBitsBackWrong)

/-- 'laws.FnOrder': WHATEVER THE INPUT: true; the input reads as it did. -/
def fnOrderSpec : ChangeSpec := { name := "fnOrder", fn := fun _ => fun
  | [d1, d2] => { results := [.lit (.bool true)], args := [d1, d2] }
  | _ => none }
def fnOrderRow : OpenClaim := { program := "ytepgelalkfgdlaa", sum := "5cb5b247c05142dad5d6551e1d3633e99cfa23e3649ff652e37fe54e4ef5842b", func := "loop.example/g00050/laws.FnOrder", spec := "fnOrder", apart := false }
def FnOrderSaid : Prop := fnOrderRow.holds Try.pinned (OpenSpec.ofChange fnOrderSpec)

/-- ITS FALSE NEIGHBOUR: 'it returns false'. Refute it at one input. -/
def fnOrderWrong : ChangeSpec := { name := "fnOrder", fn := fun _ => fun
  | [d1, d2] => { results := [.lit (.bool false)], args := [d1, d2] }
  | _ => none }
def FnOrderWrongFalsely : Prop := fnOrderRow.holds Try.pinned (OpenSpec.ofChange fnOrderWrong)

/-- 'laws.FnMulTurns': WHATEVER THE INPUT: true; the input reads as it did. -/
def fnMulTurnsSpec : ChangeSpec := { name := "fnMulTurns", fn := fun _ => fun
  | [d] => { results := [.lit (.bool true)], args := [d] }
  | _ => none }
def fnMulTurnsRow : OpenClaim := { program := "ytepgelalkfgdlaa", sum := "5cb5b247c05142dad5d6551e1d3633e99cfa23e3649ff652e37fe54e4ef5842b", func := "loop.example/g00050/laws.FnMulTurns", spec := "fnMulTurns", apart := false }
def FnMulTurnsSaid : Prop := fnMulTurnsRow.holds Try.pinned (OpenSpec.ofChange fnMulTurnsSpec)

/-- ITS FALSE NEIGHBOUR: 'it returns false'. Refute it at one input. -/
def fnMulTurnsWrong : ChangeSpec := { name := "fnMulTurns", fn := fun _ => fun
  | [d] => { results := [.lit (.bool false)], args := [d] }
  | _ => none }
def FnMulTurnsWrongFalsely : Prop := fnMulTurnsRow.holds Try.pinned (OpenSpec.ofChange fnMulTurnsWrong)

/-- 'laws.FnSumHalves': WHATEVER THE INPUT: true; the input reads as it did. -/
def fnSumHalvesSpec : ChangeSpec := { name := "fnSumHalves", fn := fun _ => fun
  | [d] => { results := [.lit (.bool true)], args := [d] }
  | _ => none }
def fnSumHalvesRow : OpenClaim := { program := "ytepgelalkfgdlaa", sum := "5cb5b247c05142dad5d6551e1d3633e99cfa23e3649ff652e37fe54e4ef5842b", func := "loop.example/g00050/laws.FnSumHalves", spec := "fnSumHalves", recurses := true, apart := false }
def FnSumHalvesSaid : Prop := fnSumHalvesRow.holds Try.pinned (OpenSpec.ofChange fnSumHalvesSpec)

/-- ITS FALSE NEIGHBOUR: 'it returns false'. Refute it at one input. -/
def fnSumHalvesWrong : ChangeSpec := { name := "fnSumHalves", fn := fun _ => fun
  | [d] => { results := [.lit (.bool false)], args := [d] }
  | _ => none }
def FnSumHalvesWrongFalsely : Prop := fnSumHalvesRow.holds Try.pinned (OpenSpec.ofChange fnSumHalvesWrong)

/-- 'laws.FnExactToBits': WHATEVER THE INPUT: true; the input reads as it did. -/
def fnExactToBitsSpec : ChangeSpec := { name := "fnExactToBits", fn := fun _ => fun
  | [d] => { results := [.lit (.bool true)], args := [d] }
  | _ => none }
def fnExactToBitsRow : OpenClaim := { program := "ytepgelalkfgdlaa", sum := "5cb5b247c05142dad5d6551e1d3633e99cfa23e3649ff652e37fe54e4ef5842b", func := "loop.example/g00050/laws.FnExactToBits", spec := "fnExactToBits", apart := false }
def FnExactToBitsSaid : Prop := fnExactToBitsRow.holds Try.pinned (OpenSpec.ofChange fnExactToBitsSpec)

/-- ITS FALSE NEIGHBOUR: 'it returns false'. Refute it at one input. -/
def fnExactToBitsWrong : ChangeSpec := { name := "fnExactToBits", fn := fun _ => fun
  | [d] => { results := [.lit (.bool false)], args := [d] }
  | _ => none }
def FnExactToBitsWrongFalsely : Prop := fnExactToBitsRow.holds Try.pinned (OpenSpec.ofChange fnExactToBitsWrong)

/-- 'laws.FnExactFromBits': WHATEVER THE INPUT: true; the input reads as it did. -/
def fnExactFromBitsSpec : ChangeSpec := { name := "fnExactFromBits", fn := fun _ => fun
  | [d] => { results := [.lit (.bool true)], args := [d] }
  | _ => none }
def fnExactFromBitsRow : OpenClaim := { program := "ytepgelalkfgdlaa", sum := "5cb5b247c05142dad5d6551e1d3633e99cfa23e3649ff652e37fe54e4ef5842b", func := "loop.example/g00050/laws.FnExactFromBits", spec := "fnExactFromBits", inPlace := ["math.Float64frombits"], apart := false }
def FnExactFromBitsSaid : Prop := fnExactFromBitsRow.holds Try.pinned (OpenSpec.ofChange fnExactFromBitsSpec)

/-- ITS FALSE NEIGHBOUR: 'it returns false'. Refute it at one input. -/
def fnExactFromBitsWrong : ChangeSpec := { name := "fnExactFromBits", fn := fun _ => fun
  | [d] => { results := [.lit (.bool false)], args := [d] }
  | _ => none }
def FnExactFromBitsWrongFalsely : Prop := fnExactFromBitsRow.holds Try.pinned (OpenSpec.ofChange fnExactFromBitsWrong)

/-- 'laws.FnExactShortBits': WHATEVER THE INPUT: true; the input reads as it did. -/
def fnExactShortBitsSpec : ChangeSpec := { name := "fnExactShortBits", fn := fun _ => fun
  | [d] => { results := [.lit (.bool true)], args := [d] }
  | _ => none }
def fnExactShortBitsRow : OpenClaim := { program := "ytepgelalkfgdlaa", sum := "5cb5b247c05142dad5d6551e1d3633e99cfa23e3649ff652e37fe54e4ef5842b", func := "loop.example/g00050/laws.FnExactShortBits", spec := "fnExactShortBits", apart := false }
def FnExactShortBitsSaid : Prop := fnExactShortBitsRow.holds Try.pinned (OpenSpec.ofChange fnExactShortBitsSpec)

/-- ITS FALSE NEIGHBOUR: 'it returns false'. Refute it at one input. -/
def fnExactShortBitsWrong : ChangeSpec := { name := "fnExactShortBits", fn := fun _ => fun
  | [d] => { results := [.lit (.bool false)], args := [d] }
  | _ => none }
def FnExactShortBitsWrongFalsely : Prop := fnExactShortBitsRow.holds Try.pinned (OpenSpec.ofChange fnExactShortBitsWrong)

/-- 'laws.FnExactFromShort': WHATEVER THE INPUT: true; the input reads as it did. -/
def fnExactFromShortSpec : ChangeSpec := { name := "fnExactFromShort", fn := fun _ => fun
  | [d] => { results := [.lit (.bool true)], args := [d] }
  | _ => none }
def fnExactFromShortRow : OpenClaim := { program := "ytepgelalkfgdlaa", sum := "5cb5b247c05142dad5d6551e1d3633e99cfa23e3649ff652e37fe54e4ef5842b", func := "loop.example/g00050/laws.FnExactFromShort", spec := "fnExactFromShort", inPlace := ["math.Float64frombits"], apart := false }
def FnExactFromShortSaid : Prop := fnExactFromShortRow.holds Try.pinned (OpenSpec.ofChange fnExactFromShortSpec)

/-- ITS FALSE NEIGHBOUR: 'it returns false'. Refute it at one input. -/
def fnExactFromShortWrong : ChangeSpec := { name := "fnExactFromShort", fn := fun _ => fun
  | [d] => { results := [.lit (.bool false)], args := [d] }
  | _ => none }
def FnExactFromShortWrongFalsely : Prop := fnExactFromShortRow.holds Try.pinned (OpenSpec.ofChange fnExactFromShortWrong)

/-- 'laws.FnExactOrderFloats': WHATEVER THE INPUT: true; the input reads as it did. -/
def fnExactOrderFloatsSpec : ChangeSpec := { name := "fnExactOrderFloats", fn := fun _ => fun
  | [d1, d2] => { results := [.lit (.bool true)], args := [d1, d2] }
  | _ => none }
def fnExactOrderFloatsRow : OpenClaim := { program := "ytepgelalkfgdlaa", sum := "5cb5b247c05142dad5d6551e1d3633e99cfa23e3649ff652e37fe54e4ef5842b", func := "loop.example/g00050/laws.FnExactOrderFloats", spec := "fnExactOrderFloats", apart := false }
def FnExactOrderFloatsSaid : Prop := fnExactOrderFloatsRow.holds Try.pinned (OpenSpec.ofChange fnExactOrderFloatsSpec)

/-- ITS FALSE NEIGHBOUR: 'it returns false'. Refute it at one input. -/
def fnExactOrderFloatsWrong : ChangeSpec := { name := "fnExactOrderFloats", fn := fun _ => fun
  | [d1, d2] => { results := [.lit (.bool false)], args := [d1, d2] }
  | _ => none }
def FnExactOrderFloatsWrongFalsely : Prop := fnExactOrderFloatsRow.holds Try.pinned (OpenSpec.ofChange fnExactOrderFloatsWrong)

/-- 'laws.FnExactCxAdd': WHATEVER THE INPUT: true; the input reads as it did. -/
def fnExactCxAddSpec : ChangeSpec := { name := "fnExactCxAdd", fn := fun _ => fun
  | [d1, d2] => { results := [.lit (.bool true)], args := [d1, d2] }
  | _ => none }
def fnExactCxAddRow : OpenClaim := { program := "ytepgelalkfgdlaa", sum := "5cb5b247c05142dad5d6551e1d3633e99cfa23e3649ff652e37fe54e4ef5842b", func := "loop.example/g00050/laws.FnExactCxAdd", spec := "fnExactCxAdd", apart := false }
def FnExactCxAddSaid : Prop := fnExactCxAddRow.holds Try.pinned (OpenSpec.ofChange fnExactCxAddSpec)

/-- ITS FALSE NEIGHBOUR: 'it returns false'. Refute it at one input. -/
def fnExactCxAddWrong : ChangeSpec := { name := "fnExactCxAdd", fn := fun _ => fun
  | [d1, d2] => { results := [.lit (.bool false)], args := [d1, d2] }
  | _ => none }
def FnExactCxAddWrongFalsely : Prop := fnExactCxAddRow.holds Try.pinned (OpenSpec.ofChange fnExactCxAddWrong)

/-- 'laws.FnExactCxMul': WHATEVER THE INPUT: true; the input reads as it did. -/
def fnExactCxMulSpec : ChangeSpec := { name := "fnExactCxMul", fn := fun _ => fun
  | [d1, d2] => { results := [.lit (.bool true)], args := [d1, d2] }
  | _ => none }
def fnExactCxMulRow : OpenClaim := { program := "ytepgelalkfgdlaa", sum := "5cb5b247c05142dad5d6551e1d3633e99cfa23e3649ff652e37fe54e4ef5842b", func := "loop.example/g00050/laws.FnExactCxMul", spec := "fnExactCxMul", apart := false }
def FnExactCxMulSaid : Prop := fnExactCxMulRow.holds Try.pinned (OpenSpec.ofChange fnExactCxMulSpec)

/-- ITS FALSE NEIGHBOUR: 'it returns false'. Refute it at one input. -/
def fnExactCxMulWrong : ChangeSpec := { name := "fnExactCxMul", fn := fun _ => fun
  | [d1, d2] => { results := [.lit (.bool false)], args := [d1, d2] }
  | _ => none }
def FnExactCxMulWrongFalsely : Prop := fnExactCxMulRow.holds Try.pinned (OpenSpec.ofChange fnExactCxMulWrong)

/-- 'laws.FnExactCxTurn': WHATEVER THE INPUT: true; the input reads as it did. -/
def fnExactCxTurnSpec : ChangeSpec := { name := "fnExactCxTurn", fn := fun _ => fun
  | [d1, d2] => { results := [.lit (.bool true)], args := [d1, d2] }
  | _ => none }
def fnExactCxTurnRow : OpenClaim := { program := "ytepgelalkfgdlaa", sum := "5cb5b247c05142dad5d6551e1d3633e99cfa23e3649ff652e37fe54e4ef5842b", func := "loop.example/g00050/laws.FnExactCxTurn", spec := "fnExactCxTurn", apart := false }
def FnExactCxTurnSaid : Prop := fnExactCxTurnRow.holds Try.pinned (OpenSpec.ofChange fnExactCxTurnSpec)

/-- ITS FALSE NEIGHBOUR: 'it returns false'. Refute it at one input. -/
def fnExactCxTurnWrong : ChangeSpec := { name := "fnExactCxTurn", fn := fun _ => fun
  | [d1, d2] => { results := [.lit (.bool false)], args := [d1, d2] }
  | _ => none }
def FnExactCxTurnWrongFalsely : Prop := fnExactCxTurnRow.holds Try.pinned (OpenSpec.ofChange fnExactCxTurnWrong)

/-- 'laws.FnExactCxSize': WHATEVER THE INPUT: true; the input reads as it did. -/
def fnExactCxSizeSpec : ChangeSpec := { name := "fnExactCxSize", fn := fun _ => fun
  | [d] => { results := [.lit (.bool true)], args := [d] }
  | _ => none }
def fnExactCxSizeRow : OpenClaim := { program := "ytepgelalkfgdlaa", sum := "5cb5b247c05142dad5d6551e1d3633e99cfa23e3649ff652e37fe54e4ef5842b", func := "loop.example/g00050/laws.FnExactCxSize", spec := "fnExactCxSize", apart := false }
def FnExactCxSizeSaid : Prop := fnExactCxSizeRow.holds Try.pinned (OpenSpec.ofChange fnExactCxSizeSpec)

/-- ITS FALSE NEIGHBOUR: 'it returns false'. Refute it at one input. -/
def fnExactCxSizeWrong : ChangeSpec := { name := "fnExactCxSize", fn := fun _ => fun
  | [d] => { results := [.lit (.bool false)], args := [d] }
  | _ => none }
def FnExactCxSizeWrongFalsely : Prop := fnExactCxSizeRow.holds Try.pinned (OpenSpec.ofChange fnExactCxSizeWrong)

/-- 'laws.FnExactCxSum': WHATEVER THE INPUT: true; the input reads as it did. -/
def fnExactCxSumSpec : ChangeSpec := { name := "fnExactCxSum", fn := fun _ => fun
  | [d] => { results := [.lit (.bool true)], args := [d] }
  | _ => none }
def fnExactCxSumRow : OpenClaim := { program := "ytepgelalkfgdlaa", sum := "5cb5b247c05142dad5d6551e1d3633e99cfa23e3649ff652e37fe54e4ef5842b", func := "loop.example/g00050/laws.FnExactCxSum", spec := "fnExactCxSum", recurses := true, apart := false }
def FnExactCxSumSaid : Prop := fnExactCxSumRow.holds Try.pinned (OpenSpec.ofChange fnExactCxSumSpec)

/-- ITS FALSE NEIGHBOUR: 'it returns false'. Refute it at one input. -/
def fnExactCxSumWrong : ChangeSpec := { name := "fnExactCxSum", fn := fun _ => fun
  | [d] => { results := [.lit (.bool false)], args := [d] }
  | _ => none }
def FnExactCxSumWrongFalsely : Prop := fnExactCxSumRow.holds Try.pinned (OpenSpec.ofChange fnExactCxSumWrong)

/-- 'laws.FnExactCxSame': WHATEVER THE INPUT: true; the input reads as it did. -/
def fnExactCxSameSpec : ChangeSpec := { name := "fnExactCxSame", fn := fun _ => fun
  | [d1, d2] => { results := [.lit (.bool true)], args := [d1, d2] }
  | _ => none }
def fnExactCxSameRow : OpenClaim := { program := "ytepgelalkfgdlaa", sum := "5cb5b247c05142dad5d6551e1d3633e99cfa23e3649ff652e37fe54e4ef5842b", func := "loop.example/g00050/laws.FnExactCxSame", spec := "fnExactCxSame", apart := false }
def FnExactCxSameSaid : Prop := fnExactCxSameRow.holds Try.pinned (OpenSpec.ofChange fnExactCxSameSpec)

/-- ITS FALSE NEIGHBOUR: 'it returns false'. Refute it at one input. -/
def fnExactCxSameWrong : ChangeSpec := { name := "fnExactCxSame", fn := fun _ => fun
  | [d1, d2] => { results := [.lit (.bool false)], args := [d1, d2] }
  | _ => none }
def FnExactCxSameWrongFalsely : Prop := fnExactCxSameRow.holds Try.pinned (OpenSpec.ofChange fnExactCxSameWrong)

/- THE SECOND FORM. 'bulk': how many values and letters a reading holds, each counted each time it is reached (what is shared counts as often as it is met; a slice's spare places count too). A statement '..UptoSaid' is the law's where the arguments, and the package variables that the reading takes, are together of bulk at most 1048576: NARROWER than '..Said'. Prove '..Said' where nothing that the law and all that it calls make is longer than what came in: it says more and counts as full. Else prove '..UptoSaid'. A law counts once. -/
mutual
def uptoBulk {H : Type} : DataW H → Nat
  | .lit (.string bytes) => bytes.length + 1
  | .lit _ => 1
  | .nil => 1
  | .ptr d => uptoBulk d + 1
  | .slice elems spare => uptoBulkAll elems + uptoBulkAll spare + 1
  | .agg parts => uptoBulkAll parts + 1
  | .iface _ d => uptoBulk d + 1
  | .map entries => uptoBulkEntries entries + 1
  | .held _ => 1
def uptoBulkAll {H : Type} : List (DataW H) → Nat
  | [] => 0
  | d :: r => uptoBulk d + uptoBulkAll r
def uptoBulkEntries {H : Type} : List (Lit × DataW H) → Nat
  | [] => 0
  | x :: r => uptoBulkEntry x + uptoBulkEntries r
def uptoBulkEntry {H : Type} : Lit × DataW H → Nat
  | (.string bytes, d) => bytes.length + uptoBulk d + 1
  | (_, d) => uptoBulk d + 1
 end
def uptoSmall : (H : Type) → List (DataW H) → Bool := fun _ ds => decide (uptoBulkAll ds ≤ 1048576)
def OpenSpec.upto (s : _root_.Go.ChangeSpec) : _root_.Go.OpenSpec := { _root_.Go.OpenSpec.ofChange s with cond := some uptoSmall }

/-- 'laws.FnBitsBack', WHERE WHAT IT READS IS OF BULK AT MOST 1048576: true; the input reads as it did. -/
def fnBitsBackUptoRow : OpenClaim := { program := "ytepgelalkfgdlaa", sum := "5cb5b247c05142dad5d6551e1d3633e99cfa23e3649ff652e37fe54e4ef5842b", func := "loop.example/g00050/laws.FnBitsBack", spec := "fnBitsBack", inPlace := ["math.Float64frombits"], apart := false, narrowed := true }
def FnBitsBackUptoSaid : Prop := fnBitsBackUptoRow.holds Try.pinned (OpenSpec.upto fnBitsBackSpec)

/-- 'laws.FnOrder', WHERE WHAT IT READS IS OF BULK AT MOST 1048576: true; the input reads as it did. -/
def fnOrderUptoRow : OpenClaim := { program := "ytepgelalkfgdlaa", sum := "5cb5b247c05142dad5d6551e1d3633e99cfa23e3649ff652e37fe54e4ef5842b", func := "loop.example/g00050/laws.FnOrder", spec := "fnOrder", apart := false, narrowed := true }
def FnOrderUptoSaid : Prop := fnOrderUptoRow.holds Try.pinned (OpenSpec.upto fnOrderSpec)

/-- 'laws.FnMulTurns', WHERE WHAT IT READS IS OF BULK AT MOST 1048576: true; the input reads as it did. -/
def fnMulTurnsUptoRow : OpenClaim := { program := "ytepgelalkfgdlaa", sum := "5cb5b247c05142dad5d6551e1d3633e99cfa23e3649ff652e37fe54e4ef5842b", func := "loop.example/g00050/laws.FnMulTurns", spec := "fnMulTurns", apart := false, narrowed := true }
def FnMulTurnsUptoSaid : Prop := fnMulTurnsUptoRow.holds Try.pinned (OpenSpec.upto fnMulTurnsSpec)

/-- 'laws.FnSumHalves', WHERE WHAT IT READS IS OF BULK AT MOST 1048576: true; the input reads as it did. -/
def fnSumHalvesUptoRow : OpenClaim := { program := "ytepgelalkfgdlaa", sum := "5cb5b247c05142dad5d6551e1d3633e99cfa23e3649ff652e37fe54e4ef5842b", func := "loop.example/g00050/laws.FnSumHalves", spec := "fnSumHalves", recurses := true, apart := false, narrowed := true }
def FnSumHalvesUptoSaid : Prop := fnSumHalvesUptoRow.holds Try.pinned (OpenSpec.upto fnSumHalvesSpec)

/-- 'laws.FnExactToBits', WHERE WHAT IT READS IS OF BULK AT MOST 1048576: true; the input reads as it did. -/
def fnExactToBitsUptoRow : OpenClaim := { program := "ytepgelalkfgdlaa", sum := "5cb5b247c05142dad5d6551e1d3633e99cfa23e3649ff652e37fe54e4ef5842b", func := "loop.example/g00050/laws.FnExactToBits", spec := "fnExactToBits", apart := false, narrowed := true }
def FnExactToBitsUptoSaid : Prop := fnExactToBitsUptoRow.holds Try.pinned (OpenSpec.upto fnExactToBitsSpec)

/-- 'laws.FnExactFromBits', WHERE WHAT IT READS IS OF BULK AT MOST 1048576: true; the input reads as it did. -/
def fnExactFromBitsUptoRow : OpenClaim := { program := "ytepgelalkfgdlaa", sum := "5cb5b247c05142dad5d6551e1d3633e99cfa23e3649ff652e37fe54e4ef5842b", func := "loop.example/g00050/laws.FnExactFromBits", spec := "fnExactFromBits", inPlace := ["math.Float64frombits"], apart := false, narrowed := true }
def FnExactFromBitsUptoSaid : Prop := fnExactFromBitsUptoRow.holds Try.pinned (OpenSpec.upto fnExactFromBitsSpec)

/-- 'laws.FnExactShortBits', WHERE WHAT IT READS IS OF BULK AT MOST 1048576: true; the input reads as it did. -/
def fnExactShortBitsUptoRow : OpenClaim := { program := "ytepgelalkfgdlaa", sum := "5cb5b247c05142dad5d6551e1d3633e99cfa23e3649ff652e37fe54e4ef5842b", func := "loop.example/g00050/laws.FnExactShortBits", spec := "fnExactShortBits", apart := false, narrowed := true }
def FnExactShortBitsUptoSaid : Prop := fnExactShortBitsUptoRow.holds Try.pinned (OpenSpec.upto fnExactShortBitsSpec)

/-- 'laws.FnExactFromShort', WHERE WHAT IT READS IS OF BULK AT MOST 1048576: true; the input reads as it did. -/
def fnExactFromShortUptoRow : OpenClaim := { program := "ytepgelalkfgdlaa", sum := "5cb5b247c05142dad5d6551e1d3633e99cfa23e3649ff652e37fe54e4ef5842b", func := "loop.example/g00050/laws.FnExactFromShort", spec := "fnExactFromShort", inPlace := ["math.Float64frombits"], apart := false, narrowed := true }
def FnExactFromShortUptoSaid : Prop := fnExactFromShortUptoRow.holds Try.pinned (OpenSpec.upto fnExactFromShortSpec)

/-- 'laws.FnExactOrderFloats', WHERE WHAT IT READS IS OF BULK AT MOST 1048576: true; the input reads as it did. -/
def fnExactOrderFloatsUptoRow : OpenClaim := { program := "ytepgelalkfgdlaa", sum := "5cb5b247c05142dad5d6551e1d3633e99cfa23e3649ff652e37fe54e4ef5842b", func := "loop.example/g00050/laws.FnExactOrderFloats", spec := "fnExactOrderFloats", apart := false, narrowed := true }
def FnExactOrderFloatsUptoSaid : Prop := fnExactOrderFloatsUptoRow.holds Try.pinned (OpenSpec.upto fnExactOrderFloatsSpec)

/-- 'laws.FnExactCxAdd', WHERE WHAT IT READS IS OF BULK AT MOST 1048576: true; the input reads as it did. -/
def fnExactCxAddUptoRow : OpenClaim := { program := "ytepgelalkfgdlaa", sum := "5cb5b247c05142dad5d6551e1d3633e99cfa23e3649ff652e37fe54e4ef5842b", func := "loop.example/g00050/laws.FnExactCxAdd", spec := "fnExactCxAdd", apart := false, narrowed := true }
def FnExactCxAddUptoSaid : Prop := fnExactCxAddUptoRow.holds Try.pinned (OpenSpec.upto fnExactCxAddSpec)

/-- 'laws.FnExactCxMul', WHERE WHAT IT READS IS OF BULK AT MOST 1048576: true; the input reads as it did. -/
def fnExactCxMulUptoRow : OpenClaim := { program := "ytepgelalkfgdlaa", sum := "5cb5b247c05142dad5d6551e1d3633e99cfa23e3649ff652e37fe54e4ef5842b", func := "loop.example/g00050/laws.FnExactCxMul", spec := "fnExactCxMul", apart := false, narrowed := true }
def FnExactCxMulUptoSaid : Prop := fnExactCxMulUptoRow.holds Try.pinned (OpenSpec.upto fnExactCxMulSpec)

/-- 'laws.FnExactCxTurn', WHERE WHAT IT READS IS OF BULK AT MOST 1048576: true; the input reads as it did. -/
def fnExactCxTurnUptoRow : OpenClaim := { program := "ytepgelalkfgdlaa", sum := "5cb5b247c05142dad5d6551e1d3633e99cfa23e3649ff652e37fe54e4ef5842b", func := "loop.example/g00050/laws.FnExactCxTurn", spec := "fnExactCxTurn", apart := false, narrowed := true }
def FnExactCxTurnUptoSaid : Prop := fnExactCxTurnUptoRow.holds Try.pinned (OpenSpec.upto fnExactCxTurnSpec)

/-- 'laws.FnExactCxSize', WHERE WHAT IT READS IS OF BULK AT MOST 1048576: true; the input reads as it did. -/
def fnExactCxSizeUptoRow : OpenClaim := { program := "ytepgelalkfgdlaa", sum := "5cb5b247c05142dad5d6551e1d3633e99cfa23e3649ff652e37fe54e4ef5842b", func := "loop.example/g00050/laws.FnExactCxSize", spec := "fnExactCxSize", apart := false, narrowed := true }
def FnExactCxSizeUptoSaid : Prop := fnExactCxSizeUptoRow.holds Try.pinned (OpenSpec.upto fnExactCxSizeSpec)

/-- 'laws.FnExactCxSum', WHERE WHAT IT READS IS OF BULK AT MOST 1048576: true; the input reads as it did. -/
def fnExactCxSumUptoRow : OpenClaim := { program := "ytepgelalkfgdlaa", sum := "5cb5b247c05142dad5d6551e1d3633e99cfa23e3649ff652e37fe54e4ef5842b", func := "loop.example/g00050/laws.FnExactCxSum", spec := "fnExactCxSum", recurses := true, apart := false, narrowed := true }
def FnExactCxSumUptoSaid : Prop := fnExactCxSumUptoRow.holds Try.pinned (OpenSpec.upto fnExactCxSumSpec)

/-- 'laws.FnExactCxSame', WHERE WHAT IT READS IS OF BULK AT MOST 1048576: true; the input reads as it did. -/
def fnExactCxSameUptoRow : OpenClaim := { program := "ytepgelalkfgdlaa", sum := "5cb5b247c05142dad5d6551e1d3633e99cfa23e3649ff652e37fe54e4ef5842b", func := "loop.example/g00050/laws.FnExactCxSame", spec := "fnExactCxSame", apart := false, narrowed := true }
def FnExactCxSameUptoSaid : Prop := fnExactCxSameUptoRow.holds Try.pinned (OpenSpec.upto fnExactCxSameSpec)

end Rows
end Go.Proofs.Ytepgelalkfgdlaa
