/-
  No cell of these rows narrows 'for every input' (looked for: loops, veiled, ifaces, maps, wideKeys, modest, calm, conditions, laid).
  DERIVED. THE GIVEN ROWS OF THIS SEAT. 11 by the template 'for every input the law returns true; each argument reads behind the call as it read before'; 0 by the template 'total and deterministic' (their statements: YtlpfgmkkbplddaaTotals.lean).
  GIVEN WITH THE SEED: the statements are not yours to turn. If you find one false, say at which input.
  Laid BY PROGRAM, IN A SANDBOX (cutbox-rows.mjs): the forced cells as the released guide's own fill.sh prints them over the translation f1b0b7ec2a325297… (all of the seat's roots in one cut). By AI agents, Wed Nov 11 2026. No macro, syntax, notation, axiom, sorry.
-/
import Derived.Test.YtlpfgmkkbplddaaChecked
import GoSem.Claim
import GoSem.ClaimJoined
import GoSem.ClaimMapViews
import Derived.JoinedTies
import Derived.KernelRfl
namespace Go.Proofs.Ytlpfgmkkbplddaa
/- THE CELL 'sum', in the pinned program and in every row, IS THE sha256 OF THE DUMP (.gsa) THAT YtlpfgmkkbplddaaProg.lean LOADS. Nothing in Lean hashes anything: it is a label: what it is worth is what the hold of that sum in a sandbox is worth. -/
noncomputable def Try.pinned : Pinned := { name := "ytlpfgmkkbplddaa", sum := "f1b0b7ec2a3252977710b064ac2936223eed5fbd06de266adf2599886787122f", checked := Try.checked }
namespace Rows
def none {H : Type} : Left H := { results := [], args := [] }

/-- 'laws.FnAdjoint': WHATEVER THE INPUT: true; the input reads as it did. -/
def fnAdjointSpec : ChangeSpec := { name := "fnAdjoint", fn := fun _ => fun
  | [d1, d2] => { results := [.lit (.bool true)], args := [d1, d2] }
  | _ => none }
def fnAdjointRow : OpenClaim := { program := "ytlpfgmkkbplddaa", sum := "f1b0b7ec2a3252977710b064ac2936223eed5fbd06de266adf2599886787122f", func := "loop.example/g00050/laws.FnAdjoint", spec := "fnAdjoint", unfollowed := true, recurses := true, apart := false }
def FnAdjointSaid : Prop := fnAdjointRow.holds Try.pinned (OpenSpec.ofChange fnAdjointSpec)

/-- ITS FALSE NEIGHBOUR: 'it returns false'. Refute it at one input. -/
def fnAdjointWrong : ChangeSpec := { name := "fnAdjoint", fn := fun _ => fun
  | [d1, d2] => { results := [.lit (.bool false)], args := [d1, d2] }
  | _ => none }
def FnAdjointWrongFalsely : Prop := fnAdjointRow.holds Try.pinned (OpenSpec.ofChange fnAdjointWrong)

/-- 'laws.FnDistances': WHATEVER THE INPUT: true; the input reads as it did. -/
def fnDistancesSpec : ChangeSpec := { name := "fnDistances", fn := fun _ => fun
  | [d] => { results := [.lit (.bool true)], args := [d] }
  | _ => none }
def fnDistancesRow : OpenClaim := { program := "ytlpfgmkkbplddaa", sum := "f1b0b7ec2a3252977710b064ac2936223eed5fbd06de266adf2599886787122f", func := "loop.example/g00050/laws.FnDistances", spec := "fnDistances", unfollowed := true, recurses := true, apart := false }
def FnDistancesSaid : Prop := fnDistancesRow.holds Try.pinned (OpenSpec.ofChange fnDistancesSpec)

/-- ITS FALSE NEIGHBOUR: 'it returns false'. Refute it at one input. -/
def fnDistancesWrong : ChangeSpec := { name := "fnDistances", fn := fun _ => fun
  | [d] => { results := [.lit (.bool false)], args := [d] }
  | _ => none }
def FnDistancesWrongFalsely : Prop := fnDistancesRow.holds Try.pinned (OpenSpec.ofChange fnDistancesWrong)

/-- 'laws.FnLabels': WHATEVER THE INPUT: true; the input reads as it did. -/
def fnLabelsSpec : ChangeSpec := { name := "fnLabels", fn := fun _ => fun
  | [d] => { results := [.lit (.bool true)], args := [d] }
  | _ => none }
def fnLabelsRow : OpenClaim := { program := "ytlpfgmkkbplddaa", sum := "f1b0b7ec2a3252977710b064ac2936223eed5fbd06de266adf2599886787122f", func := "loop.example/g00050/laws.FnLabels", spec := "fnLabels", unfollowed := true, recurses := true, apart := false }
def FnLabelsSaid : Prop := fnLabelsRow.holds Try.pinned (OpenSpec.ofChange fnLabelsSpec)

/-- ITS FALSE NEIGHBOUR: 'it returns false'. Refute it at one input. -/
def fnLabelsWrong : ChangeSpec := { name := "fnLabels", fn := fun _ => fun
  | [d] => { results := [.lit (.bool false)], args := [d] }
  | _ => none }
def FnLabelsWrongFalsely : Prop := fnLabelsRow.holds Try.pinned (OpenSpec.ofChange fnLabelsWrong)

/-- 'laws.FnExactBrushOk': WHATEVER THE INPUT: true; the input reads as it did. -/
def fnExactBrushOkSpec : ChangeSpec := { name := "fnExactBrushOk", fn := fun _ => fun
  | [d] => { results := [.lit (.bool true)], args := [d] }
  | _ => none }
def fnExactBrushOkRow : OpenClaim := { program := "ytlpfgmkkbplddaa", sum := "f1b0b7ec2a3252977710b064ac2936223eed5fbd06de266adf2599886787122f", func := "loop.example/g00050/laws.FnExactBrushOk", spec := "fnExactBrushOk", apart := false }
def FnExactBrushOkSaid : Prop := fnExactBrushOkRow.holds Try.pinned (OpenSpec.ofChange fnExactBrushOkSpec)

/-- ITS FALSE NEIGHBOUR: 'it returns false'. Refute it at one input. -/
def fnExactBrushOkWrong : ChangeSpec := { name := "fnExactBrushOk", fn := fun _ => fun
  | [d] => { results := [.lit (.bool false)], args := [d] }
  | _ => none }
def FnExactBrushOkWrongFalsely : Prop := fnExactBrushOkRow.holds Try.pinned (OpenSpec.ofChange fnExactBrushOkWrong)

/-- 'laws.FnExactDilate': WHATEVER THE INPUT: true; the input reads as it did. -/
def fnExactDilateSpec : ChangeSpec := { name := "fnExactDilate", fn := fun _ => fun
  | [d1, d2] => { results := [.lit (.bool true)], args := [d1, d2] }
  | _ => none }
def fnExactDilateRow : OpenClaim := { program := "ytlpfgmkkbplddaa", sum := "f1b0b7ec2a3252977710b064ac2936223eed5fbd06de266adf2599886787122f", func := "loop.example/g00050/laws.FnExactDilate", spec := "fnExactDilate", unfollowed := true, recurses := true, apart := false }
def FnExactDilateSaid : Prop := fnExactDilateRow.holds Try.pinned (OpenSpec.ofChange fnExactDilateSpec)

/-- ITS FALSE NEIGHBOUR: 'it returns false'. Refute it at one input. -/
def fnExactDilateWrong : ChangeSpec := { name := "fnExactDilate", fn := fun _ => fun
  | [d1, d2] => { results := [.lit (.bool false)], args := [d1, d2] }
  | _ => none }
def FnExactDilateWrongFalsely : Prop := fnExactDilateRow.holds Try.pinned (OpenSpec.ofChange fnExactDilateWrong)

/-- 'laws.FnExactErode': WHATEVER THE INPUT: true; the input reads as it did. -/
def fnExactErodeSpec : ChangeSpec := { name := "fnExactErode", fn := fun _ => fun
  | [d1, d2] => { results := [.lit (.bool true)], args := [d1, d2] }
  | _ => none }
def fnExactErodeRow : OpenClaim := { program := "ytlpfgmkkbplddaa", sum := "f1b0b7ec2a3252977710b064ac2936223eed5fbd06de266adf2599886787122f", func := "loop.example/g00050/laws.FnExactErode", spec := "fnExactErode", unfollowed := true, recurses := true, apart := false }
def FnExactErodeSaid : Prop := fnExactErodeRow.holds Try.pinned (OpenSpec.ofChange fnExactErodeSpec)

/-- ITS FALSE NEIGHBOUR: 'it returns false'. Refute it at one input. -/
def fnExactErodeWrong : ChangeSpec := { name := "fnExactErode", fn := fun _ => fun
  | [d1, d2] => { results := [.lit (.bool false)], args := [d1, d2] }
  | _ => none }
def FnExactErodeWrongFalsely : Prop := fnExactErodeRow.holds Try.pinned (OpenSpec.ofChange fnExactErodeWrong)

/-- 'laws.FnExactDistance': WHATEVER THE INPUT: true; the input reads as it did. -/
def fnExactDistanceSpec : ChangeSpec := { name := "fnExactDistance", fn := fun _ => fun
  | [d] => { results := [.lit (.bool true)], args := [d] }
  | _ => none }
def fnExactDistanceRow : OpenClaim := { program := "ytlpfgmkkbplddaa", sum := "f1b0b7ec2a3252977710b064ac2936223eed5fbd06de266adf2599886787122f", func := "loop.example/g00050/laws.FnExactDistance", spec := "fnExactDistance", unfollowed := true, recurses := true, apart := false }
def FnExactDistanceSaid : Prop := fnExactDistanceRow.holds Try.pinned (OpenSpec.ofChange fnExactDistanceSpec)

/-- ITS FALSE NEIGHBOUR: 'it returns false'. Refute it at one input. -/
def fnExactDistanceWrong : ChangeSpec := { name := "fnExactDistance", fn := fun _ => fun
  | [d] => { results := [.lit (.bool false)], args := [d] }
  | _ => none }
def FnExactDistanceWrongFalsely : Prop := fnExactDistanceRow.holds Try.pinned (OpenSpec.ofChange fnExactDistanceWrong)

/-- 'laws.FnExactLabel': WHATEVER THE INPUT: true; the input reads as it did. -/
def fnExactLabelSpec : ChangeSpec := { name := "fnExactLabel", fn := fun _ => fun
  | [d] => { results := [.lit (.bool true)], args := [d] }
  | _ => none }
def fnExactLabelRow : OpenClaim := { program := "ytlpfgmkkbplddaa", sum := "f1b0b7ec2a3252977710b064ac2936223eed5fbd06de266adf2599886787122f", func := "loop.example/g00050/laws.FnExactLabel", spec := "fnExactLabel", unfollowed := true, recurses := true, apart := false }
def FnExactLabelSaid : Prop := fnExactLabelRow.holds Try.pinned (OpenSpec.ofChange fnExactLabelSpec)

/-- ITS FALSE NEIGHBOUR: 'it returns false'. Refute it at one input. -/
def fnExactLabelWrong : ChangeSpec := { name := "fnExactLabel", fn := fun _ => fun
  | [d] => { results := [.lit (.bool false)], args := [d] }
  | _ => none }
def FnExactLabelWrongFalsely : Prop := fnExactLabelRow.holds Try.pinned (OpenSpec.ofChange fnExactLabelWrong)

/-- 'laws.FnExactMedian': WHATEVER THE INPUT: true; the input reads as it did. -/
def fnExactMedianSpec : ChangeSpec := { name := "fnExactMedian", fn := fun _ => fun
  | [d1, d2] => { results := [.lit (.bool true)], args := [d1, d2] }
  | _ => none }
def fnExactMedianRow : OpenClaim := { program := "ytlpfgmkkbplddaa", sum := "f1b0b7ec2a3252977710b064ac2936223eed5fbd06de266adf2599886787122f", func := "loop.example/g00050/laws.FnExactMedian", spec := "fnExactMedian", unfollowed := true, recurses := true, apart := false }
def FnExactMedianSaid : Prop := fnExactMedianRow.holds Try.pinned (OpenSpec.ofChange fnExactMedianSpec)

/-- ITS FALSE NEIGHBOUR: 'it returns false'. Refute it at one input. -/
def fnExactMedianWrong : ChangeSpec := { name := "fnExactMedian", fn := fun _ => fun
  | [d1, d2] => { results := [.lit (.bool false)], args := [d1, d2] }
  | _ => none }
def FnExactMedianWrongFalsely : Prop := fnExactMedianRow.holds Try.pinned (OpenSpec.ofChange fnExactMedianWrong)

/-- 'laws.FnExactSlope': WHATEVER THE INPUT: true; the input reads as it did. -/
def fnExactSlopeSpec : ChangeSpec := { name := "fnExactSlope", fn := fun _ => fun
  | [d] => { results := [.lit (.bool true)], args := [d] }
  | _ => none }
def fnExactSlopeRow : OpenClaim := { program := "ytlpfgmkkbplddaa", sum := "f1b0b7ec2a3252977710b064ac2936223eed5fbd06de266adf2599886787122f", func := "loop.example/g00050/laws.FnExactSlope", spec := "fnExactSlope", unfollowed := true, recurses := true, apart := false }
def FnExactSlopeSaid : Prop := fnExactSlopeRow.holds Try.pinned (OpenSpec.ofChange fnExactSlopeSpec)

/-- ITS FALSE NEIGHBOUR: 'it returns false'. Refute it at one input. -/
def fnExactSlopeWrong : ChangeSpec := { name := "fnExactSlope", fn := fun _ => fun
  | [d] => { results := [.lit (.bool false)], args := [d] }
  | _ => none }
def FnExactSlopeWrongFalsely : Prop := fnExactSlopeRow.holds Try.pinned (OpenSpec.ofChange fnExactSlopeWrong)

/-- 'laws.FnExactBlur': WHATEVER THE INPUT: true; the input reads as it did. -/
def fnExactBlurSpec : ChangeSpec := { name := "fnExactBlur", fn := fun _ => fun
  | [d1, d2, d3] => { results := [.lit (.bool true)], args := [d1, d2, d3] }
  | _ => none }
def fnExactBlurRow : OpenClaim := { program := "ytlpfgmkkbplddaa", sum := "f1b0b7ec2a3252977710b064ac2936223eed5fbd06de266adf2599886787122f", func := "loop.example/g00050/laws.FnExactBlur", spec := "fnExactBlur", unfollowed := true, recurses := true, apart := false }
def FnExactBlurSaid : Prop := fnExactBlurRow.holds Try.pinned (OpenSpec.ofChange fnExactBlurSpec)

/-- ITS FALSE NEIGHBOUR: 'it returns false'. Refute it at one input. -/
def fnExactBlurWrong : ChangeSpec := { name := "fnExactBlur", fn := fun _ => fun
  | [d1, d2, d3] => { results := [.lit (.bool false)], args := [d1, d2, d3] }
  | _ => none }
def FnExactBlurWrongFalsely : Prop := fnExactBlurRow.holds Try.pinned (OpenSpec.ofChange fnExactBlurWrong)

/- THE SECOND FORM. 'bulk': how many values and letters a reading holds, each counted each time it is reached (what is shared counts as often as it is met; a slice's spare places count too). A statement '..UptoSaid' is the law's where the arguments, and the package variables that the reading takes, are together of bulk at most 1048576: NARROWER than '..Said'. Prove '..Said' where nothing that the law and all that it calls make is longer than what came in: it says more and counts as full. Else prove '..UptoSaid'. A law counts once. -/
mutual
def uptoBulk {H : Type} : DataW H → Nat
  | .lit (.string bytes) => bytes.length + 1
  | .lit _ => 1
  | .nil => 1
  | .ptr d => uptoBulk d + 1
  | .slice elems spare => uptoBulkAll elems + uptoBulkAll spare + 1
  | .agg parts => uptoBulkAll parts + 1
  | .iface _ d => uptoBulk d + 1
  | .map entries => uptoBulkEntries entries + 1
  | .held _ => 1
def uptoBulkAll {H : Type} : List (DataW H) → Nat
  | [] => 0
  | d :: r => uptoBulk d + uptoBulkAll r
def uptoBulkEntries {H : Type} : List (Lit × DataW H) → Nat
  | [] => 0
  | x :: r => uptoBulkEntry x + uptoBulkEntries r
def uptoBulkEntry {H : Type} : Lit × DataW H → Nat
  | (.string bytes, d) => bytes.length + uptoBulk d + 1
  | (_, d) => uptoBulk d + 1
 end
def uptoSmall : (H : Type) → List (DataW H) → Bool := fun _ ds => decide (uptoBulkAll ds ≤ 1048576)
def OpenSpec.upto (s : _root_.Go.ChangeSpec) : _root_.Go.OpenSpec := { _root_.Go.OpenSpec.ofChange s with cond := some uptoSmall }

/-- 'laws.FnAdjoint', WHERE WHAT IT READS IS OF BULK AT MOST 1048576: true; the input reads as it did. -/
def fnAdjointUptoRow : OpenClaim := { program := "ytlpfgmkkbplddaa", sum := "f1b0b7ec2a3252977710b064ac2936223eed5fbd06de266adf2599886787122f", func := "loop.example/g00050/laws.FnAdjoint", spec := "fnAdjoint", unfollowed := true, recurses := true, apart := false, narrowed := true }
def FnAdjointUptoSaid : Prop := fnAdjointUptoRow.holds Try.pinned (OpenSpec.upto fnAdjointSpec)

/-- 'laws.FnDistances', WHERE WHAT IT READS IS OF BULK AT MOST 1048576: true; the input reads as it did. -/
def fnDistancesUptoRow : OpenClaim := { program := "ytlpfgmkkbplddaa", sum := "f1b0b7ec2a3252977710b064ac2936223eed5fbd06de266adf2599886787122f", func := "loop.example/g00050/laws.FnDistances", spec := "fnDistances", unfollowed := true, recurses := true, apart := false, narrowed := true }
def FnDistancesUptoSaid : Prop := fnDistancesUptoRow.holds Try.pinned (OpenSpec.upto fnDistancesSpec)

/-- 'laws.FnLabels', WHERE WHAT IT READS IS OF BULK AT MOST 1048576: true; the input reads as it did. -/
def fnLabelsUptoRow : OpenClaim := { program := "ytlpfgmkkbplddaa", sum := "f1b0b7ec2a3252977710b064ac2936223eed5fbd06de266adf2599886787122f", func := "loop.example/g00050/laws.FnLabels", spec := "fnLabels", unfollowed := true, recurses := true, apart := false, narrowed := true }
def FnLabelsUptoSaid : Prop := fnLabelsUptoRow.holds Try.pinned (OpenSpec.upto fnLabelsSpec)

/-- 'laws.FnExactBrushOk', WHERE WHAT IT READS IS OF BULK AT MOST 1048576: true; the input reads as it did. -/
def fnExactBrushOkUptoRow : OpenClaim := { program := "ytlpfgmkkbplddaa", sum := "f1b0b7ec2a3252977710b064ac2936223eed5fbd06de266adf2599886787122f", func := "loop.example/g00050/laws.FnExactBrushOk", spec := "fnExactBrushOk", apart := false, narrowed := true }
def FnExactBrushOkUptoSaid : Prop := fnExactBrushOkUptoRow.holds Try.pinned (OpenSpec.upto fnExactBrushOkSpec)

/-- 'laws.FnExactDilate', WHERE WHAT IT READS IS OF BULK AT MOST 1048576: true; the input reads as it did. -/
def fnExactDilateUptoRow : OpenClaim := { program := "ytlpfgmkkbplddaa", sum := "f1b0b7ec2a3252977710b064ac2936223eed5fbd06de266adf2599886787122f", func := "loop.example/g00050/laws.FnExactDilate", spec := "fnExactDilate", unfollowed := true, recurses := true, apart := false, narrowed := true }
def FnExactDilateUptoSaid : Prop := fnExactDilateUptoRow.holds Try.pinned (OpenSpec.upto fnExactDilateSpec)

/-- 'laws.FnExactErode', WHERE WHAT IT READS IS OF BULK AT MOST 1048576: true; the input reads as it did. -/
def fnExactErodeUptoRow : OpenClaim := { program := "ytlpfgmkkbplddaa", sum := "f1b0b7ec2a3252977710b064ac2936223eed5fbd06de266adf2599886787122f", func := "loop.example/g00050/laws.FnExactErode", spec := "fnExactErode", unfollowed := true, recurses := true, apart := false, narrowed := true }
def FnExactErodeUptoSaid : Prop := fnExactErodeUptoRow.holds Try.pinned (OpenSpec.upto fnExactErodeSpec)

/-- 'laws.FnExactDistance', WHERE WHAT IT READS IS OF BULK AT MOST 1048576: true; the input reads as it did. -/
def fnExactDistanceUptoRow : OpenClaim := { program := "ytlpfgmkkbplddaa", sum := "f1b0b7ec2a3252977710b064ac2936223eed5fbd06de266adf2599886787122f", func := "loop.example/g00050/laws.FnExactDistance", spec := "fnExactDistance", unfollowed := true, recurses := true, apart := false, narrowed := true }
def FnExactDistanceUptoSaid : Prop := fnExactDistanceUptoRow.holds Try.pinned (OpenSpec.upto fnExactDistanceSpec)

/-- 'laws.FnExactLabel', WHERE WHAT IT READS IS OF BULK AT MOST 1048576: true; the input reads as it did. -/
def fnExactLabelUptoRow : OpenClaim := { program := "ytlpfgmkkbplddaa", sum := "f1b0b7ec2a3252977710b064ac2936223eed5fbd06de266adf2599886787122f", func := "loop.example/g00050/laws.FnExactLabel", spec := "fnExactLabel", unfollowed := true, recurses := true, apart := false, narrowed := true }
def FnExactLabelUptoSaid : Prop := fnExactLabelUptoRow.holds Try.pinned (OpenSpec.upto fnExactLabelSpec)

/-- 'laws.FnExactMedian', WHERE WHAT IT READS IS OF BULK AT MOST 1048576: true; the input reads as it did. -/
def fnExactMedianUptoRow : OpenClaim := { program := "ytlpfgmkkbplddaa", sum := "f1b0b7ec2a3252977710b064ac2936223eed5fbd06de266adf2599886787122f", func := "loop.example/g00050/laws.FnExactMedian", spec := "fnExactMedian", unfollowed := true, recurses := true, apart := false, narrowed := true }
def FnExactMedianUptoSaid : Prop := fnExactMedianUptoRow.holds Try.pinned (OpenSpec.upto fnExactMedianSpec)

/-- 'laws.FnExactSlope', WHERE WHAT IT READS IS OF BULK AT MOST 1048576: true; the input reads as it did. -/
def fnExactSlopeUptoRow : OpenClaim := { program := "ytlpfgmkkbplddaa", sum := "f1b0b7ec2a3252977710b064ac2936223eed5fbd06de266adf2599886787122f", func := "loop.example/g00050/laws.FnExactSlope", spec := "fnExactSlope", unfollowed := true, recurses := true, apart := false, narrowed := true }
def FnExactSlopeUptoSaid : Prop := fnExactSlopeUptoRow.holds Try.pinned (OpenSpec.upto fnExactSlopeSpec)

/-- 'laws.FnExactBlur', WHERE WHAT IT READS IS OF BULK AT MOST 1048576: true; the input reads as it did. -/
def fnExactBlurUptoRow : OpenClaim := { program := "ytlpfgmkkbplddaa", sum := "f1b0b7ec2a3252977710b064ac2936223eed5fbd06de266adf2599886787122f", func := "loop.example/g00050/laws.FnExactBlur", spec := "fnExactBlur", unfollowed := true, recurses := true, apart := false, narrowed := true }
def FnExactBlurUptoSaid : Prop := fnExactBlurUptoRow.holds Try.pinned (OpenSpec.upto fnExactBlurSpec)

end Rows
end Go.Proofs.Ytlpfgmkkbplddaa
