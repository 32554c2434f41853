/-
  NARROWER THAN 'FOR EVERY INPUT', by the rows' own cells (each row's printed sentence says how): FnFilesBack: laid · FnNobody: laid · FnExactKindOf: laid · FnExactWriteFile: laid · FnExactReadFile: laid · FnExactAnonymous: laid.
  DERIVED. THE GIVEN ROWS OF THIS SEAT. 6 by the template 'for every input the law returns true; each argument reads behind the call as it read before'; 0 by the template 'total and deterministic' (their statements: YteadhhhhnihoaaaDoorTotals.lean).
  GIVEN WITH THE SEED: the statements are not yours to turn. If you find one false, say at which input.
  Laid BY PROGRAM, IN A SANDBOX (cutbox-rows.mjs): the forced cells as the released guide's own fill.sh prints them over the translation eb530221dcb1c0ca… (all of the seat's roots in one cut). By AI agents, Wed Nov 11 2026. No macro, syntax, notation, axiom, sorry.
-/
import Derived.Test.YteadhhhhnihoaaaDoorChecked
import GoSem.Claim
import GoSem.ClaimJoined
import GoSem.ClaimMapViews
import Derived.JoinedTies
import Derived.KernelRfl
namespace Go.Proofs.YteadhhhhnihoaaaDoor
/- THE CELL 'sum', in the pinned program and in every row, IS THE sha256 OF THE DUMP (.gsa) THAT YteadhhhhnihoaaaDoorProg.lean LOADS. Nothing in Lean hashes anything: it is a label: what it is worth is what the hold of that sum in a sandbox is worth. -/
noncomputable def Tryd.pinned : Pinned := { name := "yteadhhhhnihoaaadoor", sum := "eb530221dcb1c0ca4421c97ee6c2873801ac5efdba675e717c089650e6b5e7bf", checked := Tryd.checked }
namespace Rows
def none {H : Type} : Left H := { results := [], args := [] }

/- WHAT THE LISTED PACKAGE-LEVEL VARIABLES READ AS WHEN THE CALL BEGINS. Each datum BY PROGRAM (the guide's laid-datum.mjs) off the statement by which the dump's own 'gosem.cut.vars' lays the variable. In a bare row this is a premise. The card (YteadhhhhnihoaaaDoorCards.lean) ties it to the program's text. -/
def laid_loop_example_g00050_impl_kindsByNum {H : Type} : DataW H := .agg [.lit (.int .i64 1), .lit (.int .i64 3), .lit (.int .i64 4), .lit (.int .i64 5), .lit (.int .i64 2)]
def laid_math_bits_deBruijn32tab {H : Type} : DataW H := .agg [.lit (.int .u8 0), .lit (.int .u8 1), .lit (.int .u8 28), .lit (.int .u8 2), .lit (.int .u8 29), .lit (.int .u8 14), .lit (.int .u8 24), .lit (.int .u8 3), .lit (.int .u8 30), .lit (.int .u8 22), .lit (.int .u8 20), .lit (.int .u8 15), .lit (.int .u8 25), .lit (.int .u8 17), .lit (.int .u8 4), .lit (.int .u8 8), .lit (.int .u8 31), .lit (.int .u8 27), .lit (.int .u8 13), .lit (.int .u8 23), .lit (.int .u8 21), .lit (.int .u8 19), .lit (.int .u8 16), .lit (.int .u8 7), .lit (.int .u8 26), .lit (.int .u8 12), .lit (.int .u8 18), .lit (.int .u8 6), .lit (.int .u8 11), .lit (.int .u8 5), .lit (.int .u8 10), .lit (.int .u8 9)]
def laid_math_bits_deBruijn64tab {H : Type} : DataW H := .agg [.lit (.int .u8 0), .lit (.int .u8 1), .lit (.int .u8 56), .lit (.int .u8 2), .lit (.int .u8 57), .lit (.int .u8 49), .lit (.int .u8 28), .lit (.int .u8 3), .lit (.int .u8 61), .lit (.int .u8 58), .lit (.int .u8 42), .lit (.int .u8 50), .lit (.int .u8 38), .lit (.int .u8 29), .lit (.int .u8 17), .lit (.int .u8 4), .lit (.int .u8 62), .lit (.int .u8 47), .lit (.int .u8 59), .lit (.int .u8 36), .lit (.int .u8 45), .lit (.int .u8 43), .lit (.int .u8 51), .lit (.int .u8 22), .lit (.int .u8 53), .lit (.int .u8 39), .lit (.int .u8 33), .lit (.int .u8 30), .lit (.int .u8 24), .lit (.int .u8 18), .lit (.int .u8 12), .lit (.int .u8 5), .lit (.int .u8 63), .lit (.int .u8 55), .lit (.int .u8 48), .lit (.int .u8 27), .lit (.int .u8 60), .lit (.int .u8 41), .lit (.int .u8 37), .lit (.int .u8 16), .lit (.int .u8 46), .lit (.int .u8 35), .lit (.int .u8 44), .lit (.int .u8 21), .lit (.int .u8 52), .lit (.int .u8 32), .lit (.int .u8 23), .lit (.int .u8 11), .lit (.int .u8 54), .lit (.int .u8 26), .lit (.int .u8 40), .lit (.int .u8 15), .lit (.int .u8 34), .lit (.int .u8 20), .lit (.int .u8 31), .lit (.int .u8 10), .lit (.int .u8 25), .lit (.int .u8 14), .lit (.int .u8 19), .lit (.int .u8 9), .lit (.int .u8 13), .lit (.int .u8 8), .lit (.int .u8 7), .lit (.int .u8 6)]
def laid_internal_strconv_uint64pow10 {H : Type} : DataW H := .agg [.lit (.int .u64 1), .lit (.int .u64 10), .lit (.int .u64 100), .lit (.int .u64 1000), .lit (.int .u64 10000), .lit (.int .u64 100000), .lit (.int .u64 1000000), .lit (.int .u64 10000000), .lit (.int .u64 100000000), .lit (.int .u64 1000000000), .lit (.int .u64 10000000000), .lit (.int .u64 100000000000), .lit (.int .u64 1000000000000), .lit (.int .u64 10000000000000), .lit (.int .u64 100000000000000), .lit (.int .u64 1000000000000000), .lit (.int .u64 10000000000000000), .lit (.int .u64 100000000000000000), .lit (.int .u64 1000000000000000000), .lit (.int .u64 10000000000000000000)]

/-- 'laws.FnFilesBack': WHATEVER THE INPUT: true; the input reads as it did. -/
def fnFilesBackSpec : ChangeSpec := { name := "fnFilesBack", vars := ["loop.example/g00050/impl.kindsByNum"], fn := fun _ => fun
  | [d, g1] => { results := [.lit (.bool true)], args := [d], vars := [g1] }
  | _ => none }
def fnFilesBackRow : OpenClaim := { program := "yteadhhhhnihoaaadoor", sum := "eb530221dcb1c0ca4421c97ee6c2873801ac5efdba675e717c089650e6b5e7bf", func := "loop.example/g00050/laws.FnFilesBack", spec := "fnFilesBack", unfollowed := true, recurses := true, named := ["loop.example/g00050/impl.kindsByNum"], apart := false, laid := [("loop.example/g00050/impl.kindsByNum", laid_loop_example_g00050_impl_kindsByNum)] }
def FnFilesBackSaid : Prop := fnFilesBackRow.holds Tryd.pinned (OpenSpec.ofChange fnFilesBackSpec)

/-- ITS FALSE NEIGHBOUR: 'it returns false'. Refute it at one input. -/
def fnFilesBackWrong : ChangeSpec := { name := "fnFilesBack", vars := ["loop.example/g00050/impl.kindsByNum"], fn := fun _ => fun
  | [d, g1] => { results := [.lit (.bool false)], args := [d], vars := [g1] }
  | _ => none }
def FnFilesBackWrongFalsely : Prop := fnFilesBackRow.holds Tryd.pinned (OpenSpec.ofChange fnFilesBackWrong)

/-- 'laws.FnNobody': WHATEVER THE INPUT: true; the input reads as it did. -/
def fnNobodySpec : ChangeSpec := { name := "fnNobody", fn := fun _ => fun
  | [d] => { results := [.lit (.bool true)], args := [d] }
  | _ => none }
def fnNobodyRow : OpenClaim := { program := "yteadhhhhnihoaaadoor", sum := "eb530221dcb1c0ca4421c97ee6c2873801ac5efdba675e717c089650e6b5e7bf", func := "loop.example/g00050/laws.FnNobody", spec := "fnNobody", unfollowed := true, recurses := true, named := ["internal/strconv.uint64pow10", "math/bits.deBruijn32tab", "math/bits.deBruijn64tab"], apart := false, laid := [("math/bits.deBruijn32tab", laid_math_bits_deBruijn32tab), ("math/bits.deBruijn64tab", laid_math_bits_deBruijn64tab), ("internal/strconv.uint64pow10", laid_internal_strconv_uint64pow10)] }
def FnNobodySaid : Prop := fnNobodyRow.holds Tryd.pinned (OpenSpec.ofChange fnNobodySpec)

/-- ITS FALSE NEIGHBOUR: 'it returns false'. Refute it at one input. -/
def fnNobodyWrong : ChangeSpec := { name := "fnNobody", fn := fun _ => fun
  | [d] => { results := [.lit (.bool false)], args := [d] }
  | _ => none }
def FnNobodyWrongFalsely : Prop := fnNobodyRow.holds Tryd.pinned (OpenSpec.ofChange fnNobodyWrong)

/-- 'laws.FnExactKindOf': WHATEVER THE INPUT: true; the input reads as it did. -/
def fnExactKindOfSpec : ChangeSpec := { name := "fnExactKindOf", vars := ["loop.example/g00050/impl.kindsByNum"], fn := fun _ => fun
  | [d1, d2, g1] => { results := [.lit (.bool true)], args := [d1, d2], vars := [g1] }
  | _ => none }
def fnExactKindOfRow : OpenClaim := { program := "yteadhhhhnihoaaadoor", sum := "eb530221dcb1c0ca4421c97ee6c2873801ac5efdba675e717c089650e6b5e7bf", func := "loop.example/g00050/laws.FnExactKindOf", spec := "fnExactKindOf", named := ["loop.example/g00050/impl.kindsByNum"], apart := false, laid := [("loop.example/g00050/impl.kindsByNum", laid_loop_example_g00050_impl_kindsByNum)] }
def FnExactKindOfSaid : Prop := fnExactKindOfRow.holds Tryd.pinned (OpenSpec.ofChange fnExactKindOfSpec)

/-- ITS FALSE NEIGHBOUR: 'it returns false'. Refute it at one input. -/
def fnExactKindOfWrong : ChangeSpec := { name := "fnExactKindOf", vars := ["loop.example/g00050/impl.kindsByNum"], fn := fun _ => fun
  | [d1, d2, g1] => { results := [.lit (.bool false)], args := [d1, d2], vars := [g1] }
  | _ => none }
def FnExactKindOfWrongFalsely : Prop := fnExactKindOfRow.holds Tryd.pinned (OpenSpec.ofChange fnExactKindOfWrong)

/-- 'laws.FnExactWriteFile': WHATEVER THE INPUT: true; the input reads as it did. -/
def fnExactWriteFileSpec : ChangeSpec := { name := "fnExactWriteFile", vars := ["loop.example/g00050/impl.kindsByNum"], fn := fun _ => fun
  | [d1, d2, g1] => { results := [.lit (.bool true)], args := [d1, d2], vars := [g1] }
  | _ => none }
def fnExactWriteFileRow : OpenClaim := { program := "yteadhhhhnihoaaadoor", sum := "eb530221dcb1c0ca4421c97ee6c2873801ac5efdba675e717c089650e6b5e7bf", func := "loop.example/g00050/laws.FnExactWriteFile", spec := "fnExactWriteFile", unfollowed := true, recurses := true, named := ["loop.example/g00050/impl.kindsByNum"], apart := false, laid := [("loop.example/g00050/impl.kindsByNum", laid_loop_example_g00050_impl_kindsByNum)] }
def FnExactWriteFileSaid : Prop := fnExactWriteFileRow.holds Tryd.pinned (OpenSpec.ofChange fnExactWriteFileSpec)

/-- ITS FALSE NEIGHBOUR: 'it returns false'. Refute it at one input. -/
def fnExactWriteFileWrong : ChangeSpec := { name := "fnExactWriteFile", vars := ["loop.example/g00050/impl.kindsByNum"], fn := fun _ => fun
  | [d1, d2, g1] => { results := [.lit (.bool false)], args := [d1, d2], vars := [g1] }
  | _ => none }
def FnExactWriteFileWrongFalsely : Prop := fnExactWriteFileRow.holds Tryd.pinned (OpenSpec.ofChange fnExactWriteFileWrong)

/-- 'laws.FnExactReadFile': WHATEVER THE INPUT: true; the input reads as it did. -/
def fnExactReadFileSpec : ChangeSpec := { name := "fnExactReadFile", vars := ["loop.example/g00050/impl.kindsByNum"], fn := fun _ => fun
  | [d, g1] => { results := [.lit (.bool true)], args := [d], vars := [g1] }
  | _ => none }
def fnExactReadFileRow : OpenClaim := { program := "yteadhhhhnihoaaadoor", sum := "eb530221dcb1c0ca4421c97ee6c2873801ac5efdba675e717c089650e6b5e7bf", func := "loop.example/g00050/laws.FnExactReadFile", spec := "fnExactReadFile", unfollowed := true, recurses := true, named := ["loop.example/g00050/impl.kindsByNum"], apart := false, laid := [("loop.example/g00050/impl.kindsByNum", laid_loop_example_g00050_impl_kindsByNum)] }
def FnExactReadFileSaid : Prop := fnExactReadFileRow.holds Tryd.pinned (OpenSpec.ofChange fnExactReadFileSpec)

/-- ITS FALSE NEIGHBOUR: 'it returns false'. Refute it at one input. -/
def fnExactReadFileWrong : ChangeSpec := { name := "fnExactReadFile", vars := ["loop.example/g00050/impl.kindsByNum"], fn := fun _ => fun
  | [d, g1] => { results := [.lit (.bool false)], args := [d], vars := [g1] }
  | _ => none }
def FnExactReadFileWrongFalsely : Prop := fnExactReadFileRow.holds Tryd.pinned (OpenSpec.ofChange fnExactReadFileWrong)

/-- 'laws.FnExactAnonymous': WHATEVER THE INPUT: true; the input reads as it did. -/
def fnExactAnonymousSpec : ChangeSpec := { name := "fnExactAnonymous", fn := fun _ => fun
  | [d1, d2] => { results := [.lit (.bool true)], args := [d1, d2] }
  | _ => none }
def fnExactAnonymousRow : OpenClaim := { program := "yteadhhhhnihoaaadoor", sum := "eb530221dcb1c0ca4421c97ee6c2873801ac5efdba675e717c089650e6b5e7bf", func := "loop.example/g00050/laws.FnExactAnonymous", spec := "fnExactAnonymous", unfollowed := true, recurses := true, named := ["internal/strconv.uint64pow10", "math/bits.deBruijn32tab", "math/bits.deBruijn64tab"], apart := false, laid := [("math/bits.deBruijn32tab", laid_math_bits_deBruijn32tab), ("math/bits.deBruijn64tab", laid_math_bits_deBruijn64tab), ("internal/strconv.uint64pow10", laid_internal_strconv_uint64pow10)] }
def FnExactAnonymousSaid : Prop := fnExactAnonymousRow.holds Tryd.pinned (OpenSpec.ofChange fnExactAnonymousSpec)

/-- ITS FALSE NEIGHBOUR: 'it returns false'. Refute it at one input. -/
def fnExactAnonymousWrong : ChangeSpec := { name := "fnExactAnonymous", fn := fun _ => fun
  | [d1, d2] => { results := [.lit (.bool false)], args := [d1, d2] }
  | _ => none }
def FnExactAnonymousWrongFalsely : Prop := fnExactAnonymousRow.holds Tryd.pinned (OpenSpec.ofChange fnExactAnonymousWrong)

/- THE SECOND FORM. 'bulk': how many values and letters a reading holds, each counted each time it is reached (what is shared counts as often as it is met; a slice's spare places count too). A statement '..UptoSaid' is the law's where the arguments, and the package variables that the reading takes, are together of bulk at most 1048576: NARROWER than '..Said'. Prove '..Said' where nothing that the law and all that it calls make is longer than what came in: it says more and counts as full. Else prove '..UptoSaid'. A law counts once. -/
mutual
def uptoBulk {H : Type} : DataW H → Nat
  | .lit (.string bytes) => bytes.length + 1
  | .lit _ => 1
  | .nil => 1
  | .ptr d => uptoBulk d + 1
  | .slice elems spare => uptoBulkAll elems + uptoBulkAll spare + 1
  | .agg parts => uptoBulkAll parts + 1
  | .iface _ d => uptoBulk d + 1
  | .map entries => uptoBulkEntries entries + 1
  | .held _ => 1
def uptoBulkAll {H : Type} : List (DataW H) → Nat
  | [] => 0
  | d :: r => uptoBulk d + uptoBulkAll r
def uptoBulkEntries {H : Type} : List (Lit × DataW H) → Nat
  | [] => 0
  | x :: r => uptoBulkEntry x + uptoBulkEntries r
def uptoBulkEntry {H : Type} : Lit × DataW H → Nat
  | (.string bytes, d) => bytes.length + uptoBulk d + 1
  | (_, d) => uptoBulk d + 1
 end
def uptoSmall : (H : Type) → List (DataW H) → Bool := fun _ ds => decide (uptoBulkAll ds ≤ 1048576)
def OpenSpec.upto (s : _root_.Go.ChangeSpec) : _root_.Go.OpenSpec := { _root_.Go.OpenSpec.ofChange s with cond := some uptoSmall }

/-- 'laws.FnFilesBack', WHERE WHAT IT READS IS OF BULK AT MOST 1048576: true; the input reads as it did. -/
def fnFilesBackUptoRow : OpenClaim := { program := "yteadhhhhnihoaaadoor", sum := "eb530221dcb1c0ca4421c97ee6c2873801ac5efdba675e717c089650e6b5e7bf", func := "loop.example/g00050/laws.FnFilesBack", spec := "fnFilesBack", unfollowed := true, recurses := true, named := ["loop.example/g00050/impl.kindsByNum"], apart := false, laid := [("loop.example/g00050/impl.kindsByNum", laid_loop_example_g00050_impl_kindsByNum)], narrowed := true }
def FnFilesBackUptoSaid : Prop := fnFilesBackUptoRow.holds Tryd.pinned (OpenSpec.upto fnFilesBackSpec)

/-- 'laws.FnNobody', WHERE WHAT IT READS IS OF BULK AT MOST 1048576: true; the input reads as it did. -/
def fnNobodyUptoRow : OpenClaim := { program := "yteadhhhhnihoaaadoor", sum := "eb530221dcb1c0ca4421c97ee6c2873801ac5efdba675e717c089650e6b5e7bf", func := "loop.example/g00050/laws.FnNobody", spec := "fnNobody", unfollowed := true, recurses := true, named := ["internal/strconv.uint64pow10", "math/bits.deBruijn32tab", "math/bits.deBruijn64tab"], apart := false, laid := [("math/bits.deBruijn32tab", laid_math_bits_deBruijn32tab), ("math/bits.deBruijn64tab", laid_math_bits_deBruijn64tab), ("internal/strconv.uint64pow10", laid_internal_strconv_uint64pow10)], narrowed := true }
def FnNobodyUptoSaid : Prop := fnNobodyUptoRow.holds Tryd.pinned (OpenSpec.upto fnNobodySpec)

/-- 'laws.FnExactKindOf', WHERE WHAT IT READS IS OF BULK AT MOST 1048576: true; the input reads as it did. -/
def fnExactKindOfUptoRow : OpenClaim := { program := "yteadhhhhnihoaaadoor", sum := "eb530221dcb1c0ca4421c97ee6c2873801ac5efdba675e717c089650e6b5e7bf", func := "loop.example/g00050/laws.FnExactKindOf", spec := "fnExactKindOf", named := ["loop.example/g00050/impl.kindsByNum"], apart := false, laid := [("loop.example/g00050/impl.kindsByNum", laid_loop_example_g00050_impl_kindsByNum)], narrowed := true }
def FnExactKindOfUptoSaid : Prop := fnExactKindOfUptoRow.holds Tryd.pinned (OpenSpec.upto fnExactKindOfSpec)

/-- 'laws.FnExactWriteFile', WHERE WHAT IT READS IS OF BULK AT MOST 1048576: true; the input reads as it did. -/
def fnExactWriteFileUptoRow : OpenClaim := { program := "yteadhhhhnihoaaadoor", sum := "eb530221dcb1c0ca4421c97ee6c2873801ac5efdba675e717c089650e6b5e7bf", func := "loop.example/g00050/laws.FnExactWriteFile", spec := "fnExactWriteFile", unfollowed := true, recurses := true, named := ["loop.example/g00050/impl.kindsByNum"], apart := false, laid := [("loop.example/g00050/impl.kindsByNum", laid_loop_example_g00050_impl_kindsByNum)], narrowed := true }
def FnExactWriteFileUptoSaid : Prop := fnExactWriteFileUptoRow.holds Tryd.pinned (OpenSpec.upto fnExactWriteFileSpec)

/-- 'laws.FnExactReadFile', WHERE WHAT IT READS IS OF BULK AT MOST 1048576: true; the input reads as it did. -/
def fnExactReadFileUptoRow : OpenClaim := { program := "yteadhhhhnihoaaadoor", sum := "eb530221dcb1c0ca4421c97ee6c2873801ac5efdba675e717c089650e6b5e7bf", func := "loop.example/g00050/laws.FnExactReadFile", spec := "fnExactReadFile", unfollowed := true, recurses := true, named := ["loop.example/g00050/impl.kindsByNum"], apart := false, laid := [("loop.example/g00050/impl.kindsByNum", laid_loop_example_g00050_impl_kindsByNum)], narrowed := true }
def FnExactReadFileUptoSaid : Prop := fnExactReadFileUptoRow.holds Tryd.pinned (OpenSpec.upto fnExactReadFileSpec)

/-- 'laws.FnExactAnonymous', WHERE WHAT IT READS IS OF BULK AT MOST 1048576: true; the input reads as it did. -/
def fnExactAnonymousUptoRow : OpenClaim := { program := "yteadhhhhnihoaaadoor", sum := "eb530221dcb1c0ca4421c97ee6c2873801ac5efdba675e717c089650e6b5e7bf", func := "loop.example/g00050/laws.FnExactAnonymous", spec := "fnExactAnonymous", unfollowed := true, recurses := true, named := ["internal/strconv.uint64pow10", "math/bits.deBruijn32tab", "math/bits.deBruijn64tab"], apart := false, laid := [("math/bits.deBruijn32tab", laid_math_bits_deBruijn32tab), ("math/bits.deBruijn64tab", laid_math_bits_deBruijn64tab), ("internal/strconv.uint64pow10", laid_internal_strconv_uint64pow10)], narrowed := true }
def FnExactAnonymousUptoSaid : Prop := fnExactAnonymousUptoRow.holds Tryd.pinned (OpenSpec.upto fnExactAnonymousSpec)

end Rows
end Go.Proofs.YteadhhhhnihoaaaDoor
