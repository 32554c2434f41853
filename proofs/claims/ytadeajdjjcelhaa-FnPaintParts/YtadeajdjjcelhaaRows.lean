/-
  No cell of these rows narrows 'for every input' (looked for: loops, veiled, ifaces, maps, wideKeys, modest, calm, conditions, laid).
  DERIVED. THE GIVEN ROWS OF THIS SEAT. 7 by the template 'for every input the law returns true; each argument reads behind the call as it read before'; 0 by the template 'total and deterministic' (their statements: YtadeajdjjcelhaaTotals.lean).
  GIVEN WITH THE SEED: the statements are not yours to turn. If you find one false, say at which input.
  Laid BY PROGRAM, IN A SANDBOX (cutbox-rows.mjs): the forced cells as the released guide's own fill.sh prints them over the translation d2db11b47838915d… (all of the seat's roots in one cut). By AI agents, Wed Nov 11 2026. No macro, syntax, notation, axiom, sorry.
-/
import Derived.Test.YtadeajdjjcelhaaChecked
import GoSem.Claim
import GoSem.ClaimJoined
import GoSem.ClaimMapViews
import Derived.JoinedTies
import Derived.KernelRfl
namespace Go.Proofs.Ytadeajdjjcelhaa
/- THE CELL 'sum', in the pinned program and in every row, IS THE sha256 OF THE DUMP (.gsa) THAT YtadeajdjjcelhaaProg.lean LOADS. Nothing in Lean hashes anything: it is a label: what it is worth is what the hold of that sum in a sandbox is worth. -/
noncomputable def Try.pinned : Pinned := { name := "ytadeajdjjcelhaa", sum := "d2db11b47838915d604347a3393a05cfbeaeec0eafab66c962e75bc35a603acd", checked := Try.checked }
namespace Rows
def none {H : Type} : Left H := { results := [], args := [] }

/-- 'laws.FnPaintParts': WHATEVER THE INPUT: true; the input reads as it did. -/
def fnPaintPartsSpec : ChangeSpec := { name := "fnPaintParts", fn := fun _ => fun
  | [d1, d2] => { results := [.lit (.bool true)], args := [d1, d2] }
  | _ => none }
def fnPaintPartsRow : OpenClaim := { program := "ytadeajdjjcelhaa", sum := "d2db11b47838915d604347a3393a05cfbeaeec0eafab66c962e75bc35a603acd", func := "loop.example/g00050/laws.FnPaintParts", spec := "fnPaintParts", unfollowed := true, recurses := true, apart := false }
def FnPaintPartsSaid : Prop := fnPaintPartsRow.holds Try.pinned (OpenSpec.ofChange fnPaintPartsSpec)

/-- ITS FALSE NEIGHBOUR: 'it returns false'. Refute it at one input. -/
def fnPaintPartsWrong : ChangeSpec := { name := "fnPaintParts", fn := fun _ => fun
  | [d1, d2] => { results := [.lit (.bool false)], args := [d1, d2] }
  | _ => none }
def FnPaintPartsWrongFalsely : Prop := fnPaintPartsRow.holds Try.pinned (OpenSpec.ofChange fnPaintPartsWrong)

/-- 'laws.FnExactInside': WHATEVER THE INPUT: true; the input reads as it did. -/
def fnExactInsideSpec : ChangeSpec := { name := "fnExactInside", fn := fun _ => fun
  | [d1, d2, d3] => { results := [.lit (.bool true)], args := [d1, d2, d3] }
  | _ => none }
def fnExactInsideRow : OpenClaim := { program := "ytadeajdjjcelhaa", sum := "d2db11b47838915d604347a3393a05cfbeaeec0eafab66c962e75bc35a603acd", func := "loop.example/g00050/laws.FnExactInside", spec := "fnExactInside", unfollowed := true, recurses := true, apart := false }
def FnExactInsideSaid : Prop := fnExactInsideRow.holds Try.pinned (OpenSpec.ofChange fnExactInsideSpec)

/-- ITS FALSE NEIGHBOUR: 'it returns false'. Refute it at one input. -/
def fnExactInsideWrong : ChangeSpec := { name := "fnExactInside", fn := fun _ => fun
  | [d1, d2, d3] => { results := [.lit (.bool false)], args := [d1, d2, d3] }
  | _ => none }
def FnExactInsideWrongFalsely : Prop := fnExactInsideRow.holds Try.pinned (OpenSpec.ofChange fnExactInsideWrong)

/-- 'laws.FnExactDensity': WHATEVER THE INPUT: true; the input reads as it did. -/
def fnExactDensitySpec : ChangeSpec := { name := "fnExactDensity", fn := fun _ => fun
  | [d1, d2, d3] => { results := [.lit (.bool true)], args := [d1, d2, d3] }
  | _ => none }
def fnExactDensityRow : OpenClaim := { program := "ytadeajdjjcelhaa", sum := "d2db11b47838915d604347a3393a05cfbeaeec0eafab66c962e75bc35a603acd", func := "loop.example/g00050/laws.FnExactDensity", spec := "fnExactDensity", unfollowed := true, recurses := true, apart := false }
def FnExactDensitySaid : Prop := fnExactDensityRow.holds Try.pinned (OpenSpec.ofChange fnExactDensitySpec)

/-- ITS FALSE NEIGHBOUR: 'it returns false'. Refute it at one input. -/
def fnExactDensityWrong : ChangeSpec := { name := "fnExactDensity", fn := fun _ => fun
  | [d1, d2, d3] => { results := [.lit (.bool false)], args := [d1, d2, d3] }
  | _ => none }
def FnExactDensityWrongFalsely : Prop := fnExactDensityRow.holds Try.pinned (OpenSpec.ofChange fnExactDensityWrong)

/-- 'laws.FnExactImageOk': WHATEVER THE INPUT: true; the input reads as it did. -/
def fnExactImageOkSpec : ChangeSpec := { name := "fnExactImageOk", fn := fun _ => fun
  | [d] => { results := [.lit (.bool true)], args := [d] }
  | _ => none }
def fnExactImageOkRow : OpenClaim := { program := "ytadeajdjjcelhaa", sum := "d2db11b47838915d604347a3393a05cfbeaeec0eafab66c962e75bc35a603acd", func := "loop.example/g00050/laws.FnExactImageOk", spec := "fnExactImageOk", apart := false }
def FnExactImageOkSaid : Prop := fnExactImageOkRow.holds Try.pinned (OpenSpec.ofChange fnExactImageOkSpec)

/-- ITS FALSE NEIGHBOUR: 'it returns false'. Refute it at one input. -/
def fnExactImageOkWrong : ChangeSpec := { name := "fnExactImageOk", fn := fun _ => fun
  | [d] => { results := [.lit (.bool false)], args := [d] }
  | _ => none }
def FnExactImageOkWrongFalsely : Prop := fnExactImageOkRow.holds Try.pinned (OpenSpec.ofChange fnExactImageOkWrong)

/-- 'laws.FnExactPaint': WHATEVER THE INPUT: true; the input reads as it did. -/
def fnExactPaintSpec : ChangeSpec := { name := "fnExactPaint", fn := fun _ => fun
  | [d1, d2, d3] => { results := [.lit (.bool true)], args := [d1, d2, d3] }
  | _ => none }
def fnExactPaintRow : OpenClaim := { program := "ytadeajdjjcelhaa", sum := "d2db11b47838915d604347a3393a05cfbeaeec0eafab66c962e75bc35a603acd", func := "loop.example/g00050/laws.FnExactPaint", spec := "fnExactPaint", unfollowed := true, recurses := true, apart := false }
def FnExactPaintSaid : Prop := fnExactPaintRow.holds Try.pinned (OpenSpec.ofChange fnExactPaintSpec)

/-- ITS FALSE NEIGHBOUR: 'it returns false'. Refute it at one input. -/
def fnExactPaintWrong : ChangeSpec := { name := "fnExactPaint", fn := fun _ => fun
  | [d1, d2, d3] => { results := [.lit (.bool false)], args := [d1, d2, d3] }
  | _ => none }
def FnExactPaintWrongFalsely : Prop := fnExactPaintRow.holds Try.pinned (OpenSpec.ofChange fnExactPaintWrong)

/-- 'laws.FnExactAddImages': WHATEVER THE INPUT: true; the input reads as it did. -/
def fnExactAddImagesSpec : ChangeSpec := { name := "fnExactAddImages", fn := fun _ => fun
  | [d1, d2] => { results := [.lit (.bool true)], args := [d1, d2] }
  | _ => none }
def fnExactAddImagesRow : OpenClaim := { program := "ytadeajdjjcelhaa", sum := "d2db11b47838915d604347a3393a05cfbeaeec0eafab66c962e75bc35a603acd", func := "loop.example/g00050/laws.FnExactAddImages", spec := "fnExactAddImages", apart := false }
def FnExactAddImagesSaid : Prop := fnExactAddImagesRow.holds Try.pinned (OpenSpec.ofChange fnExactAddImagesSpec)

/-- ITS FALSE NEIGHBOUR: 'it returns false'. Refute it at one input. -/
def fnExactAddImagesWrong : ChangeSpec := { name := "fnExactAddImages", fn := fun _ => fun
  | [d1, d2] => { results := [.lit (.bool false)], args := [d1, d2] }
  | _ => none }
def FnExactAddImagesWrongFalsely : Prop := fnExactAddImagesRow.holds Try.pinned (OpenSpec.ofChange fnExactAddImagesWrong)

/-- 'laws.FnExactWeigh': WHATEVER THE INPUT: true; the input reads as it did. -/
def fnExactWeighSpec : ChangeSpec := { name := "fnExactWeigh", fn := fun _ => fun
  | [d] => { results := [.lit (.bool true)], args := [d] }
  | _ => none }
def fnExactWeighRow : OpenClaim := { program := "ytadeajdjjcelhaa", sum := "d2db11b47838915d604347a3393a05cfbeaeec0eafab66c962e75bc35a603acd", func := "loop.example/g00050/laws.FnExactWeigh", spec := "fnExactWeigh", apart := false }
def FnExactWeighSaid : Prop := fnExactWeighRow.holds Try.pinned (OpenSpec.ofChange fnExactWeighSpec)

/-- ITS FALSE NEIGHBOUR: 'it returns false'. Refute it at one input. -/
def fnExactWeighWrong : ChangeSpec := { name := "fnExactWeigh", fn := fun _ => fun
  | [d] => { results := [.lit (.bool false)], args := [d] }
  | _ => none }
def FnExactWeighWrongFalsely : Prop := fnExactWeighRow.holds Try.pinned (OpenSpec.ofChange fnExactWeighWrong)

/- THE SECOND FORM. 'bulk': how many values and letters a reading holds, each counted each time it is reached (what is shared counts as often as it is met; a slice's spare places count too). A statement '..UptoSaid' is the law's where the arguments, and the package variables that the reading takes, are together of bulk at most 1048576: NARROWER than '..Said'. Prove '..Said' where nothing that the law and all that it calls make is longer than what came in: it says more and counts as full. Else prove '..UptoSaid'. A law counts once. -/
mutual
def uptoBulk {H : Type} : DataW H → Nat
  | .lit (.string bytes) => bytes.length + 1
  | .lit _ => 1
  | .nil => 1
  | .ptr d => uptoBulk d + 1
  | .slice elems spare => uptoBulkAll elems + uptoBulkAll spare + 1
  | .agg parts => uptoBulkAll parts + 1
  | .iface _ d => uptoBulk d + 1
  | .map entries => uptoBulkEntries entries + 1
  | .held _ => 1
def uptoBulkAll {H : Type} : List (DataW H) → Nat
  | [] => 0
  | d :: r => uptoBulk d + uptoBulkAll r
def uptoBulkEntries {H : Type} : List (Lit × DataW H) → Nat
  | [] => 0
  | x :: r => uptoBulkEntry x + uptoBulkEntries r
def uptoBulkEntry {H : Type} : Lit × DataW H → Nat
  | (.string bytes, d) => bytes.length + uptoBulk d + 1
  | (_, d) => uptoBulk d + 1
 end
def uptoSmall : (H : Type) → List (DataW H) → Bool := fun _ ds => decide (uptoBulkAll ds ≤ 1048576)
def OpenSpec.upto (s : _root_.Go.ChangeSpec) : _root_.Go.OpenSpec := { _root_.Go.OpenSpec.ofChange s with cond := some uptoSmall }

/-- 'laws.FnPaintParts', WHERE WHAT IT READS IS OF BULK AT MOST 1048576: true; the input reads as it did. -/
def fnPaintPartsUptoRow : OpenClaim := { program := "ytadeajdjjcelhaa", sum := "d2db11b47838915d604347a3393a05cfbeaeec0eafab66c962e75bc35a603acd", func := "loop.example/g00050/laws.FnPaintParts", spec := "fnPaintParts", unfollowed := true, recurses := true, apart := false, narrowed := true }
def FnPaintPartsUptoSaid : Prop := fnPaintPartsUptoRow.holds Try.pinned (OpenSpec.upto fnPaintPartsSpec)

/-- 'laws.FnExactInside', WHERE WHAT IT READS IS OF BULK AT MOST 1048576: true; the input reads as it did. -/
def fnExactInsideUptoRow : OpenClaim := { program := "ytadeajdjjcelhaa", sum := "d2db11b47838915d604347a3393a05cfbeaeec0eafab66c962e75bc35a603acd", func := "loop.example/g00050/laws.FnExactInside", spec := "fnExactInside", unfollowed := true, recurses := true, apart := false, narrowed := true }
def FnExactInsideUptoSaid : Prop := fnExactInsideUptoRow.holds Try.pinned (OpenSpec.upto fnExactInsideSpec)

/-- 'laws.FnExactDensity', WHERE WHAT IT READS IS OF BULK AT MOST 1048576: true; the input reads as it did. -/
def fnExactDensityUptoRow : OpenClaim := { program := "ytadeajdjjcelhaa", sum := "d2db11b47838915d604347a3393a05cfbeaeec0eafab66c962e75bc35a603acd", func := "loop.example/g00050/laws.FnExactDensity", spec := "fnExactDensity", unfollowed := true, recurses := true, apart := false, narrowed := true }
def FnExactDensityUptoSaid : Prop := fnExactDensityUptoRow.holds Try.pinned (OpenSpec.upto fnExactDensitySpec)

/-- 'laws.FnExactImageOk', WHERE WHAT IT READS IS OF BULK AT MOST 1048576: true; the input reads as it did. -/
def fnExactImageOkUptoRow : OpenClaim := { program := "ytadeajdjjcelhaa", sum := "d2db11b47838915d604347a3393a05cfbeaeec0eafab66c962e75bc35a603acd", func := "loop.example/g00050/laws.FnExactImageOk", spec := "fnExactImageOk", apart := false, narrowed := true }
def FnExactImageOkUptoSaid : Prop := fnExactImageOkUptoRow.holds Try.pinned (OpenSpec.upto fnExactImageOkSpec)

/-- 'laws.FnExactPaint', WHERE WHAT IT READS IS OF BULK AT MOST 1048576: true; the input reads as it did. -/
def fnExactPaintUptoRow : OpenClaim := { program := "ytadeajdjjcelhaa", sum := "d2db11b47838915d604347a3393a05cfbeaeec0eafab66c962e75bc35a603acd", func := "loop.example/g00050/laws.FnExactPaint", spec := "fnExactPaint", unfollowed := true, recurses := true, apart := false, narrowed := true }
def FnExactPaintUptoSaid : Prop := fnExactPaintUptoRow.holds Try.pinned (OpenSpec.upto fnExactPaintSpec)

/-- 'laws.FnExactAddImages', WHERE WHAT IT READS IS OF BULK AT MOST 1048576: true; the input reads as it did. -/
def fnExactAddImagesUptoRow : OpenClaim := { program := "ytadeajdjjcelhaa", sum := "d2db11b47838915d604347a3393a05cfbeaeec0eafab66c962e75bc35a603acd", func := "loop.example/g00050/laws.FnExactAddImages", spec := "fnExactAddImages", apart := false, narrowed := true }
def FnExactAddImagesUptoSaid : Prop := fnExactAddImagesUptoRow.holds Try.pinned (OpenSpec.upto fnExactAddImagesSpec)

/-- 'laws.FnExactWeigh', WHERE WHAT IT READS IS OF BULK AT MOST 1048576: true; the input reads as it did. -/
def fnExactWeighUptoRow : OpenClaim := { program := "ytadeajdjjcelhaa", sum := "d2db11b47838915d604347a3393a05cfbeaeec0eafab66c962e75bc35a603acd", func := "loop.example/g00050/laws.FnExactWeigh", spec := "fnExactWeigh", apart := false, narrowed := true }
def FnExactWeighUptoSaid : Prop := fnExactWeighUptoRow.holds Try.pinned (OpenSpec.upto fnExactWeighSpec)

end Rows
end Go.Proofs.Ytadeajdjjcelhaa
