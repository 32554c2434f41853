/-
  NARROWER THAN 'FOR EVERY INPUT', by the rows' own cells (each row's printed sentence says how): FnLoopTimes: laid · FnRaster: laid · FnExactPulseOk: laid · FnExactParseSeq: laid · FnExactSeqOk: laid · FnExactShowSeq: laid · FnExactUnroll: laid · FnExactPath: laid.
  DERIVED. THE GIVEN ROWS OF THIS SEAT. 8 by the template 'for every input the law returns true; each argument reads behind the call as it read before'; 0 by the template 'total and deterministic' (their statements: YtbfpfpoodoflpaaDoorTotals.lean).
  GIVEN WITH THE SEED: the statements are not yours to turn. If you find one false, say at which input.
  Laid BY PROGRAM, IN A SANDBOX (cutbox-rows.mjs): the forced cells as the released guide's own fill.sh prints them over the translation 01d96497bde8c908… (all of the seat's roots in one cut). By AI agents, Wed Nov 11 2026. No macro, syntax, notation, axiom, sorry.
-/
import Derived.Test.YtbfpfpoodoflpaaDoorChecked
import GoSem.PinnedTables
import GoSem.Claim
import GoSem.ClaimJoined
import GoSem.ClaimMapViews
import Derived.JoinedTies
import Derived.KernelRfl
namespace Go.Proofs.YtbfpfpoodoflpaaDoor
/- THE CELL 'sum', in the pinned program and in every row, IS THE sha256 OF THE DUMP (.gsa) THAT YtbfpfpoodoflpaaDoorProg.lean LOADS. Nothing in Lean hashes anything: it is a label: what it is worth is what the hold of that sum in a sandbox is worth. -/
noncomputable def Tryd.pinned : Pinned := { name := "ytbfpfpoodoflpaadoor", sum := "01d96497bde8c908c934c26c1ebf287749291700feca7532dc3c5d63be5e00e3", checked := Tryd.checked }
namespace Rows
def none {H : Type} : Left H := { results := [], args := [] }

/- WHAT THE LISTED PACKAGE-LEVEL VARIABLES READ AS WHEN THE CALL BEGINS. Each datum BY PROGRAM (the guide's laid-datum.mjs) off the statement by which the dump's own 'gosem.cut.vars' lays the variable. In a bare row this is a premise. The card (YtbfpfpoodoflpaaDoorCards.lean) ties it to the program's text. -/
def laid_loop_example_g00050_impl_orderForms {H : Type} : DataW H := .agg [.agg [.lit (.string []), .lit (.int .i64 0), .lit (.int .i64 0), .lit (.int .i64 0), .lit (.int .i64 0), .lit (.int .i64 0), .lit (.int .i64 0)], .agg [.lit (.string [114, 102]), .lit (.int .i64 1), .lit (.int .i64 3), .lit (.int .i64 1), .lit (.int .i64 3), .lit (.int .i64 0), .lit (.int .i64 0)], .agg [.lit (.string [103, 114, 97, 100]), .lit (.int .i64 1), .lit (.int .i64 2), .lit (.int .i64 (-1000)), .lit (.int .i64 1000), .lit (.int .i64 1), .lit (.int .i64 10000)], .agg [.lit (.string [114, 101, 97, 100]), .lit (.int .i64 0), .lit (.int .i64 0), .lit (.int .i64 1), .lit (.int .i64 256), .lit (.int .i64 0), .lit (.int .i64 0)], .agg [.lit (.string [119, 97, 105, 116]), .lit (.int .i64 0), .lit (.int .i64 0), .lit (.int .i64 1), .lit (.int .i64 10000), .lit (.int .i64 0), .lit (.int .i64 0)], .agg [.lit (.string [97, 116]), .lit (.int .i64 0), .lit (.int .i64 0), .lit (.int .i64 0), .lit (.int .i64 100000), .lit (.int .i64 0), .lit (.int .i64 0)], .agg [.lit (.string [108, 111, 111, 112]), .lit (.int .i64 0), .lit (.int .i64 0), .lit (.int .i64 1), .lit (.int .i64 64), .lit (.int .i64 0), .lit (.int .i64 0)], .agg [.lit (.string [101, 110, 100]), .lit (.int .i64 0), .lit (.int .i64 0), .lit (.int .i64 0), .lit (.int .i64 0), .lit (.int .i64 0), .lit (.int .i64 0)]]
def laid_math_bits_deBruijn32tab {H : Type} : DataW H := .agg [.lit (.int .u8 0), .lit (.int .u8 1), .lit (.int .u8 28), .lit (.int .u8 2), .lit (.int .u8 29), .lit (.int .u8 14), .lit (.int .u8 24), .lit (.int .u8 3), .lit (.int .u8 30), .lit (.int .u8 22), .lit (.int .u8 20), .lit (.int .u8 15), .lit (.int .u8 25), .lit (.int .u8 17), .lit (.int .u8 4), .lit (.int .u8 8), .lit (.int .u8 31), .lit (.int .u8 27), .lit (.int .u8 13), .lit (.int .u8 23), .lit (.int .u8 21), .lit (.int .u8 19), .lit (.int .u8 16), .lit (.int .u8 7), .lit (.int .u8 26), .lit (.int .u8 12), .lit (.int .u8 18), .lit (.int .u8 6), .lit (.int .u8 11), .lit (.int .u8 5), .lit (.int .u8 10), .lit (.int .u8 9)]
def laid_math_bits_deBruijn64tab {H : Type} : DataW H := .agg [.lit (.int .u8 0), .lit (.int .u8 1), .lit (.int .u8 56), .lit (.int .u8 2), .lit (.int .u8 57), .lit (.int .u8 49), .lit (.int .u8 28), .lit (.int .u8 3), .lit (.int .u8 61), .lit (.int .u8 58), .lit (.int .u8 42), .lit (.int .u8 50), .lit (.int .u8 38), .lit (.int .u8 29), .lit (.int .u8 17), .lit (.int .u8 4), .lit (.int .u8 62), .lit (.int .u8 47), .lit (.int .u8 59), .lit (.int .u8 36), .lit (.int .u8 45), .lit (.int .u8 43), .lit (.int .u8 51), .lit (.int .u8 22), .lit (.int .u8 53), .lit (.int .u8 39), .lit (.int .u8 33), .lit (.int .u8 30), .lit (.int .u8 24), .lit (.int .u8 18), .lit (.int .u8 12), .lit (.int .u8 5), .lit (.int .u8 63), .lit (.int .u8 55), .lit (.int .u8 48), .lit (.int .u8 27), .lit (.int .u8 60), .lit (.int .u8 41), .lit (.int .u8 37), .lit (.int .u8 16), .lit (.int .u8 46), .lit (.int .u8 35), .lit (.int .u8 44), .lit (.int .u8 21), .lit (.int .u8 52), .lit (.int .u8 32), .lit (.int .u8 23), .lit (.int .u8 11), .lit (.int .u8 54), .lit (.int .u8 26), .lit (.int .u8 40), .lit (.int .u8 15), .lit (.int .u8 34), .lit (.int .u8 20), .lit (.int .u8 31), .lit (.int .u8 10), .lit (.int .u8 25), .lit (.int .u8 14), .lit (.int .u8 19), .lit (.int .u8 9), .lit (.int .u8 13), .lit (.int .u8 8), .lit (.int .u8 7), .lit (.int .u8 6)]
def laid_internal_strconv_uint64pow10 {H : Type} : DataW H := .agg [.lit (.int .u64 1), .lit (.int .u64 10), .lit (.int .u64 100), .lit (.int .u64 1000), .lit (.int .u64 10000), .lit (.int .u64 100000), .lit (.int .u64 1000000), .lit (.int .u64 10000000), .lit (.int .u64 100000000), .lit (.int .u64 1000000000), .lit (.int .u64 10000000000), .lit (.int .u64 100000000000), .lit (.int .u64 1000000000000), .lit (.int .u64 10000000000000), .lit (.int .u64 100000000000000), .lit (.int .u64 1000000000000000), .lit (.int .u64 10000000000000000), .lit (.int .u64 100000000000000000), .lit (.int .u64 1000000000000000000), .lit (.int .u64 10000000000000000000)]
def laid_unicode_utf8_acceptRanges {H : Type} : DataW H := .agg [.agg [.lit (.int .u8 128), .lit (.int .u8 191)], .agg [.lit (.int .u8 160), .lit (.int .u8 191)], .agg [.lit (.int .u8 128), .lit (.int .u8 159)], .agg [.lit (.int .u8 144), .lit (.int .u8 191)], .agg [.lit (.int .u8 128), .lit (.int .u8 143)], .agg [.lit (.int .u8 0), .lit (.int .u8 0)], .agg [.lit (.int .u8 0), .lit (.int .u8 0)], .agg [.lit (.int .u8 0), .lit (.int .u8 0)], .agg [.lit (.int .u8 0), .lit (.int .u8 0)], .agg [.lit (.int .u8 0), .lit (.int .u8 0)], .agg [.lit (.int .u8 0), .lit (.int .u8 0)], .agg [.lit (.int .u8 0), .lit (.int .u8 0)], .agg [.lit (.int .u8 0), .lit (.int .u8 0)], .agg [.lit (.int .u8 0), .lit (.int .u8 0)], .agg [.lit (.int .u8 0), .lit (.int .u8 0)], .agg [.lit (.int .u8 0), .lit (.int .u8 0)]]
def laid_strconv_ErrRange {H : Type} : DataW H := .iface "*errors.errorString" (.ptr (.agg [.lit (.string [118, 97, 108, 117, 101, 32, 111, 117, 116, 32, 111, 102, 32, 114, 97, 110, 103, 101])]))
def laid_strconv_ErrSyntax {H : Type} : DataW H := .iface "*errors.errorString" (.ptr (.agg [.lit (.string [105, 110, 118, 97, 108, 105, 100, 32, 115, 121, 110, 116, 97, 120])]))
/-- One of Go's own tables, pinned by name: the form's constant. -/
def laid_unicode_utf8_first : DataW Unit := Go.Pinned.utf8First

/-- 'laws.FnLoopTimes': WHATEVER THE INPUT: true; the input reads as it did. -/
def fnLoopTimesSpec : ChangeSpec := { name := "fnLoopTimes", vars := ["loop.example/g00050/impl.orderForms"], fn := fun _ => fun
  | [d, g1] => { results := [.lit (.bool true)], args := [d], vars := [g1] }
  | _ => none }
def fnLoopTimesRow : OpenClaim := { program := "ytbfpfpoodoflpaadoor", sum := "01d96497bde8c908c934c26c1ebf287749291700feca7532dc3c5d63be5e00e3", func := "loop.example/g00050/laws.FnLoopTimes", spec := "fnLoopTimes", unfollowed := true, recurses := true, named := ["loop.example/g00050/impl.orderForms"], apart := false, laid := [("loop.example/g00050/impl.orderForms", laid_loop_example_g00050_impl_orderForms)] }
def FnLoopTimesSaid : Prop := fnLoopTimesRow.holds Tryd.pinned (OpenSpec.ofChange fnLoopTimesSpec)

/-- ITS FALSE NEIGHBOUR: 'it returns false'. Refute it at one input. -/
def fnLoopTimesWrong : ChangeSpec := { name := "fnLoopTimes", vars := ["loop.example/g00050/impl.orderForms"], fn := fun _ => fun
  | [d, g1] => { results := [.lit (.bool false)], args := [d], vars := [g1] }
  | _ => none }
def FnLoopTimesWrongFalsely : Prop := fnLoopTimesRow.holds Tryd.pinned (OpenSpec.ofChange fnLoopTimesWrong)

/-- 'laws.FnRaster': WHATEVER THE INPUT: true; the input reads as it did. -/
def fnRasterSpec : ChangeSpec := { name := "fnRaster", vars := ["loop.example/g00050/impl.orderForms"], fn := fun _ => fun
  | [d, g1] => { results := [.lit (.bool true)], args := [d], vars := [g1] }
  | _ => none }
def fnRasterRow : OpenClaim := { program := "ytbfpfpoodoflpaadoor", sum := "01d96497bde8c908c934c26c1ebf287749291700feca7532dc3c5d63be5e00e3", func := "loop.example/g00050/laws.FnRaster", spec := "fnRaster", unfollowed := true, recurses := true, named := ["loop.example/g00050/impl.orderForms"], apart := false, laid := [("loop.example/g00050/impl.orderForms", laid_loop_example_g00050_impl_orderForms)] }
def FnRasterSaid : Prop := fnRasterRow.holds Tryd.pinned (OpenSpec.ofChange fnRasterSpec)

/-- ITS FALSE NEIGHBOUR: 'it returns false'. Refute it at one input. -/
def fnRasterWrong : ChangeSpec := { name := "fnRaster", vars := ["loop.example/g00050/impl.orderForms"], fn := fun _ => fun
  | [d, g1] => { results := [.lit (.bool false)], args := [d], vars := [g1] }
  | _ => none }
def FnRasterWrongFalsely : Prop := fnRasterRow.holds Tryd.pinned (OpenSpec.ofChange fnRasterWrong)

/-- 'laws.FnExactPulseOk': WHATEVER THE INPUT: true; the input reads as it did. -/
def fnExactPulseOkSpec : ChangeSpec := { name := "fnExactPulseOk", vars := ["loop.example/g00050/impl.orderForms"], fn := fun _ => fun
  | [d, g1] => { results := [.lit (.bool true)], args := [d], vars := [g1] }
  | _ => none }
def fnExactPulseOkRow : OpenClaim := { program := "ytbfpfpoodoflpaadoor", sum := "01d96497bde8c908c934c26c1ebf287749291700feca7532dc3c5d63be5e00e3", func := "loop.example/g00050/laws.FnExactPulseOk", spec := "fnExactPulseOk", named := ["loop.example/g00050/impl.orderForms"], apart := false, laid := [("loop.example/g00050/impl.orderForms", laid_loop_example_g00050_impl_orderForms)] }
def FnExactPulseOkSaid : Prop := fnExactPulseOkRow.holds Tryd.pinned (OpenSpec.ofChange fnExactPulseOkSpec)

/-- ITS FALSE NEIGHBOUR: 'it returns false'. Refute it at one input. -/
def fnExactPulseOkWrong : ChangeSpec := { name := "fnExactPulseOk", vars := ["loop.example/g00050/impl.orderForms"], fn := fun _ => fun
  | [d, g1] => { results := [.lit (.bool false)], args := [d], vars := [g1] }
  | _ => none }
def FnExactPulseOkWrongFalsely : Prop := fnExactPulseOkRow.holds Tryd.pinned (OpenSpec.ofChange fnExactPulseOkWrong)

/-- 'laws.FnExactParseSeq': WHATEVER THE INPUT: true; the input reads as it did. -/
def fnExactParseSeqSpec : ChangeSpec := { name := "fnExactParseSeq", vars := ["loop.example/g00050/impl.orderForms"], fn := fun _ => fun
  | [d, g1] => { results := [.lit (.bool true)], args := [d], vars := [g1] }
  | _ => none }
def fnExactParseSeqRow : OpenClaim := { program := "ytbfpfpoodoflpaadoor", sum := "01d96497bde8c908c934c26c1ebf287749291700feca7532dc3c5d63be5e00e3", func := "loop.example/g00050/laws.FnExactParseSeq", spec := "fnExactParseSeq", inPlace := ["internal/bytealg.IndexByteString", "internal/bytealg.IndexString"], named := ["unicode/utf8.first", "unicode/utf8.acceptRanges", "loop.example/g00050/impl.orderForms", "strconv.ErrSyntax", "strconv.ErrRange", "internal/strconv.uint64pow10", "math/bits.deBruijn32tab", "math/bits.deBruijn64tab", "internal/bytealg.MaxLen"], apart := false, laid := [("math/bits.deBruijn32tab", laid_math_bits_deBruijn32tab), ("math/bits.deBruijn64tab", laid_math_bits_deBruijn64tab), ("internal/strconv.uint64pow10", laid_internal_strconv_uint64pow10), ("unicode/utf8.acceptRanges", laid_unicode_utf8_acceptRanges), ("strconv.ErrRange", laid_strconv_ErrRange), ("strconv.ErrSyntax", laid_strconv_ErrSyntax), ("loop.example/g00050/impl.orderForms", laid_loop_example_g00050_impl_orderForms), ("unicode/utf8.first", laid_unicode_utf8_first)] }
def FnExactParseSeqSaid : Prop := fnExactParseSeqRow.holds Tryd.pinned (OpenSpec.ofChange fnExactParseSeqSpec)

/-- ITS FALSE NEIGHBOUR: 'it returns false'. Refute it at one input. -/
def fnExactParseSeqWrong : ChangeSpec := { name := "fnExactParseSeq", vars := ["loop.example/g00050/impl.orderForms"], fn := fun _ => fun
  | [d, g1] => { results := [.lit (.bool false)], args := [d], vars := [g1] }
  | _ => none }
def FnExactParseSeqWrongFalsely : Prop := fnExactParseSeqRow.holds Tryd.pinned (OpenSpec.ofChange fnExactParseSeqWrong)

/-- 'laws.FnExactSeqOk': WHATEVER THE INPUT: true; the input reads as it did. -/
def fnExactSeqOkSpec : ChangeSpec := { name := "fnExactSeqOk", vars := ["loop.example/g00050/impl.orderForms"], fn := fun _ => fun
  | [d, g1] => { results := [.lit (.bool true)], args := [d], vars := [g1] }
  | _ => none }
def fnExactSeqOkRow : OpenClaim := { program := "ytbfpfpoodoflpaadoor", sum := "01d96497bde8c908c934c26c1ebf287749291700feca7532dc3c5d63be5e00e3", func := "loop.example/g00050/laws.FnExactSeqOk", spec := "fnExactSeqOk", named := ["loop.example/g00050/impl.orderForms"], apart := false, laid := [("loop.example/g00050/impl.orderForms", laid_loop_example_g00050_impl_orderForms)] }
def FnExactSeqOkSaid : Prop := fnExactSeqOkRow.holds Tryd.pinned (OpenSpec.ofChange fnExactSeqOkSpec)

/-- ITS FALSE NEIGHBOUR: 'it returns false'. Refute it at one input. -/
def fnExactSeqOkWrong : ChangeSpec := { name := "fnExactSeqOk", vars := ["loop.example/g00050/impl.orderForms"], fn := fun _ => fun
  | [d, g1] => { results := [.lit (.bool false)], args := [d], vars := [g1] }
  | _ => none }
def FnExactSeqOkWrongFalsely : Prop := fnExactSeqOkRow.holds Tryd.pinned (OpenSpec.ofChange fnExactSeqOkWrong)

/-- 'laws.FnExactShowSeq': WHATEVER THE INPUT: true; the input reads as it did. -/
def fnExactShowSeqSpec : ChangeSpec := { name := "fnExactShowSeq", vars := ["loop.example/g00050/impl.orderForms"], fn := fun _ => fun
  | [d, g1] => { results := [.lit (.bool true)], args := [d], vars := [g1] }
  | _ => none }
def fnExactShowSeqRow : OpenClaim := { program := "ytbfpfpoodoflpaadoor", sum := "01d96497bde8c908c934c26c1ebf287749291700feca7532dc3c5d63be5e00e3", func := "loop.example/g00050/laws.FnExactShowSeq", spec := "fnExactShowSeq", inPlace := ["internal/abi.NoEscape", "internal/bytealg.MakeNoZero"], recurses := true, named := ["loop.example/g00050/impl.orderForms", "internal/strconv.uint64pow10", "math/bits.deBruijn32tab", "math/bits.deBruijn64tab"], apart := false, laid := [("math/bits.deBruijn32tab", laid_math_bits_deBruijn32tab), ("math/bits.deBruijn64tab", laid_math_bits_deBruijn64tab), ("internal/strconv.uint64pow10", laid_internal_strconv_uint64pow10), ("loop.example/g00050/impl.orderForms", laid_loop_example_g00050_impl_orderForms)] }
def FnExactShowSeqSaid : Prop := fnExactShowSeqRow.holds Tryd.pinned (OpenSpec.ofChange fnExactShowSeqSpec)

/-- ITS FALSE NEIGHBOUR: 'it returns false'. Refute it at one input. -/
def fnExactShowSeqWrong : ChangeSpec := { name := "fnExactShowSeq", vars := ["loop.example/g00050/impl.orderForms"], fn := fun _ => fun
  | [d, g1] => { results := [.lit (.bool false)], args := [d], vars := [g1] }
  | _ => none }
def FnExactShowSeqWrongFalsely : Prop := fnExactShowSeqRow.holds Tryd.pinned (OpenSpec.ofChange fnExactShowSeqWrong)

/-- 'laws.FnExactUnroll': WHATEVER THE INPUT: true; the input reads as it did. -/
def fnExactUnrollSpec : ChangeSpec := { name := "fnExactUnroll", vars := ["loop.example/g00050/impl.orderForms"], fn := fun _ => fun
  | [d, g1] => { results := [.lit (.bool true)], args := [d], vars := [g1] }
  | _ => none }
def fnExactUnrollRow : OpenClaim := { program := "ytbfpfpoodoflpaadoor", sum := "01d96497bde8c908c934c26c1ebf287749291700feca7532dc3c5d63be5e00e3", func := "loop.example/g00050/laws.FnExactUnroll", spec := "fnExactUnroll", unfollowed := true, recurses := true, named := ["loop.example/g00050/impl.orderForms"], apart := false, laid := [("loop.example/g00050/impl.orderForms", laid_loop_example_g00050_impl_orderForms)] }
def FnExactUnrollSaid : Prop := fnExactUnrollRow.holds Tryd.pinned (OpenSpec.ofChange fnExactUnrollSpec)

/-- ITS FALSE NEIGHBOUR: 'it returns false'. Refute it at one input. -/
def fnExactUnrollWrong : ChangeSpec := { name := "fnExactUnroll", vars := ["loop.example/g00050/impl.orderForms"], fn := fun _ => fun
  | [d, g1] => { results := [.lit (.bool false)], args := [d], vars := [g1] }
  | _ => none }
def FnExactUnrollWrongFalsely : Prop := fnExactUnrollRow.holds Tryd.pinned (OpenSpec.ofChange fnExactUnrollWrong)

/-- 'laws.FnExactPath': WHATEVER THE INPUT: true; the input reads as it did. -/
def fnExactPathSpec : ChangeSpec := { name := "fnExactPath", vars := ["loop.example/g00050/impl.orderForms"], fn := fun _ => fun
  | [d, g1] => { results := [.lit (.bool true)], args := [d], vars := [g1] }
  | _ => none }
def fnExactPathRow : OpenClaim := { program := "ytbfpfpoodoflpaadoor", sum := "01d96497bde8c908c934c26c1ebf287749291700feca7532dc3c5d63be5e00e3", func := "loop.example/g00050/laws.FnExactPath", spec := "fnExactPath", unfollowed := true, recurses := true, named := ["loop.example/g00050/impl.orderForms"], apart := false, laid := [("loop.example/g00050/impl.orderForms", laid_loop_example_g00050_impl_orderForms)] }
def FnExactPathSaid : Prop := fnExactPathRow.holds Tryd.pinned (OpenSpec.ofChange fnExactPathSpec)

/-- ITS FALSE NEIGHBOUR: 'it returns false'. Refute it at one input. -/
def fnExactPathWrong : ChangeSpec := { name := "fnExactPath", vars := ["loop.example/g00050/impl.orderForms"], fn := fun _ => fun
  | [d, g1] => { results := [.lit (.bool false)], args := [d], vars := [g1] }
  | _ => none }
def FnExactPathWrongFalsely : Prop := fnExactPathRow.holds Tryd.pinned (OpenSpec.ofChange fnExactPathWrong)

/- THE SECOND FORM. 'bulk': how many values and letters a reading holds, each counted each time it is reached (what is shared counts as often as it is met; a slice's spare places count too). A statement '..UptoSaid' is the law's where the arguments, and the package variables that the reading takes, are together of bulk at most 1048576: NARROWER than '..Said'. Prove '..Said' where nothing that the law and all that it calls make is longer than what came in: it says more and counts as full. Else prove '..UptoSaid'. A law counts once. -/
mutual
def uptoBulk {H : Type} : DataW H → Nat
  | .lit (.string bytes) => bytes.length + 1
  | .lit _ => 1
  | .nil => 1
  | .ptr d => uptoBulk d + 1
  | .slice elems spare => uptoBulkAll elems + uptoBulkAll spare + 1
  | .agg parts => uptoBulkAll parts + 1
  | .iface _ d => uptoBulk d + 1
  | .map entries => uptoBulkEntries entries + 1
  | .held _ => 1
def uptoBulkAll {H : Type} : List (DataW H) → Nat
  | [] => 0
  | d :: r => uptoBulk d + uptoBulkAll r
def uptoBulkEntries {H : Type} : List (Lit × DataW H) → Nat
  | [] => 0
  | x :: r => uptoBulkEntry x + uptoBulkEntries r
def uptoBulkEntry {H : Type} : Lit × DataW H → Nat
  | (.string bytes, d) => bytes.length + uptoBulk d + 1
  | (_, d) => uptoBulk d + 1
 end
def uptoSmall : (H : Type) → List (DataW H) → Bool := fun _ ds => decide (uptoBulkAll ds ≤ 1048576)
def OpenSpec.upto (s : _root_.Go.ChangeSpec) : _root_.Go.OpenSpec := { _root_.Go.OpenSpec.ofChange s with cond := some uptoSmall }

/-- 'laws.FnLoopTimes', WHERE WHAT IT READS IS OF BULK AT MOST 1048576: true; the input reads as it did. -/
def fnLoopTimesUptoRow : OpenClaim := { program := "ytbfpfpoodoflpaadoor", sum := "01d96497bde8c908c934c26c1ebf287749291700feca7532dc3c5d63be5e00e3", func := "loop.example/g00050/laws.FnLoopTimes", spec := "fnLoopTimes", unfollowed := true, recurses := true, named := ["loop.example/g00050/impl.orderForms"], apart := false, laid := [("loop.example/g00050/impl.orderForms", laid_loop_example_g00050_impl_orderForms)], narrowed := true }
def FnLoopTimesUptoSaid : Prop := fnLoopTimesUptoRow.holds Tryd.pinned (OpenSpec.upto fnLoopTimesSpec)

/-- 'laws.FnRaster', WHERE WHAT IT READS IS OF BULK AT MOST 1048576: true; the input reads as it did. -/
def fnRasterUptoRow : OpenClaim := { program := "ytbfpfpoodoflpaadoor", sum := "01d96497bde8c908c934c26c1ebf287749291700feca7532dc3c5d63be5e00e3", func := "loop.example/g00050/laws.FnRaster", spec := "fnRaster", unfollowed := true, recurses := true, named := ["loop.example/g00050/impl.orderForms"], apart := false, laid := [("loop.example/g00050/impl.orderForms", laid_loop_example_g00050_impl_orderForms)], narrowed := true }
def FnRasterUptoSaid : Prop := fnRasterUptoRow.holds Tryd.pinned (OpenSpec.upto fnRasterSpec)

/-- 'laws.FnExactPulseOk', WHERE WHAT IT READS IS OF BULK AT MOST 1048576: true; the input reads as it did. -/
def fnExactPulseOkUptoRow : OpenClaim := { program := "ytbfpfpoodoflpaadoor", sum := "01d96497bde8c908c934c26c1ebf287749291700feca7532dc3c5d63be5e00e3", func := "loop.example/g00050/laws.FnExactPulseOk", spec := "fnExactPulseOk", named := ["loop.example/g00050/impl.orderForms"], apart := false, laid := [("loop.example/g00050/impl.orderForms", laid_loop_example_g00050_impl_orderForms)], narrowed := true }
def FnExactPulseOkUptoSaid : Prop := fnExactPulseOkUptoRow.holds Tryd.pinned (OpenSpec.upto fnExactPulseOkSpec)

/-- 'laws.FnExactParseSeq', WHERE WHAT IT READS IS OF BULK AT MOST 1048576: true; the input reads as it did. -/
def fnExactParseSeqUptoRow : OpenClaim := { program := "ytbfpfpoodoflpaadoor", sum := "01d96497bde8c908c934c26c1ebf287749291700feca7532dc3c5d63be5e00e3", func := "loop.example/g00050/laws.FnExactParseSeq", spec := "fnExactParseSeq", inPlace := ["internal/bytealg.IndexByteString", "internal/bytealg.IndexString"], named := ["unicode/utf8.first", "unicode/utf8.acceptRanges", "loop.example/g00050/impl.orderForms", "strconv.ErrSyntax", "strconv.ErrRange", "internal/strconv.uint64pow10", "math/bits.deBruijn32tab", "math/bits.deBruijn64tab", "internal/bytealg.MaxLen"], apart := false, laid := [("math/bits.deBruijn32tab", laid_math_bits_deBruijn32tab), ("math/bits.deBruijn64tab", laid_math_bits_deBruijn64tab), ("internal/strconv.uint64pow10", laid_internal_strconv_uint64pow10), ("unicode/utf8.acceptRanges", laid_unicode_utf8_acceptRanges), ("strconv.ErrRange", laid_strconv_ErrRange), ("strconv.ErrSyntax", laid_strconv_ErrSyntax), ("loop.example/g00050/impl.orderForms", laid_loop_example_g00050_impl_orderForms), ("unicode/utf8.first", laid_unicode_utf8_first)], narrowed := true }
def FnExactParseSeqUptoSaid : Prop := fnExactParseSeqUptoRow.holds Tryd.pinned (OpenSpec.upto fnExactParseSeqSpec)

/-- 'laws.FnExactSeqOk', WHERE WHAT IT READS IS OF BULK AT MOST 1048576: true; the input reads as it did. -/
def fnExactSeqOkUptoRow : OpenClaim := { program := "ytbfpfpoodoflpaadoor", sum := "01d96497bde8c908c934c26c1ebf287749291700feca7532dc3c5d63be5e00e3", func := "loop.example/g00050/laws.FnExactSeqOk", spec := "fnExactSeqOk", named := ["loop.example/g00050/impl.orderForms"], apart := false, laid := [("loop.example/g00050/impl.orderForms", laid_loop_example_g00050_impl_orderForms)], narrowed := true }
def FnExactSeqOkUptoSaid : Prop := fnExactSeqOkUptoRow.holds Tryd.pinned (OpenSpec.upto fnExactSeqOkSpec)

/-- 'laws.FnExactShowSeq', WHERE WHAT IT READS IS OF BULK AT MOST 1048576: true; the input reads as it did. -/
def fnExactShowSeqUptoRow : OpenClaim := { program := "ytbfpfpoodoflpaadoor", sum := "01d96497bde8c908c934c26c1ebf287749291700feca7532dc3c5d63be5e00e3", func := "loop.example/g00050/laws.FnExactShowSeq", spec := "fnExactShowSeq", inPlace := ["internal/abi.NoEscape", "internal/bytealg.MakeNoZero"], recurses := true, named := ["loop.example/g00050/impl.orderForms", "internal/strconv.uint64pow10", "math/bits.deBruijn32tab", "math/bits.deBruijn64tab"], apart := false, laid := [("math/bits.deBruijn32tab", laid_math_bits_deBruijn32tab), ("math/bits.deBruijn64tab", laid_math_bits_deBruijn64tab), ("internal/strconv.uint64pow10", laid_internal_strconv_uint64pow10), ("loop.example/g00050/impl.orderForms", laid_loop_example_g00050_impl_orderForms)], narrowed := true }
def FnExactShowSeqUptoSaid : Prop := fnExactShowSeqUptoRow.holds Tryd.pinned (OpenSpec.upto fnExactShowSeqSpec)

/-- 'laws.FnExactUnroll', WHERE WHAT IT READS IS OF BULK AT MOST 1048576: true; the input reads as it did. -/
def fnExactUnrollUptoRow : OpenClaim := { program := "ytbfpfpoodoflpaadoor", sum := "01d96497bde8c908c934c26c1ebf287749291700feca7532dc3c5d63be5e00e3", func := "loop.example/g00050/laws.FnExactUnroll", spec := "fnExactUnroll", unfollowed := true, recurses := true, named := ["loop.example/g00050/impl.orderForms"], apart := false, laid := [("loop.example/g00050/impl.orderForms", laid_loop_example_g00050_impl_orderForms)], narrowed := true }
def FnExactUnrollUptoSaid : Prop := fnExactUnrollUptoRow.holds Tryd.pinned (OpenSpec.upto fnExactUnrollSpec)

/-- 'laws.FnExactPath', WHERE WHAT IT READS IS OF BULK AT MOST 1048576: true; the input reads as it did. -/
def fnExactPathUptoRow : OpenClaim := { program := "ytbfpfpoodoflpaadoor", sum := "01d96497bde8c908c934c26c1ebf287749291700feca7532dc3c5d63be5e00e3", func := "loop.example/g00050/laws.FnExactPath", spec := "fnExactPath", unfollowed := true, recurses := true, named := ["loop.example/g00050/impl.orderForms"], apart := false, laid := [("loop.example/g00050/impl.orderForms", laid_loop_example_g00050_impl_orderForms)], narrowed := true }
def FnExactPathUptoSaid : Prop := fnExactPathUptoRow.holds Tryd.pinned (OpenSpec.upto fnExactPathSpec)

end Rows
end Go.Proofs.YtbfpfpoodoflpaaDoor
