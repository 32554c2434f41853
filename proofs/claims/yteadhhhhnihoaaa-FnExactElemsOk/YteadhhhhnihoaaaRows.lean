/-
  No cell of these rows narrows 'for every input' (looked for: loops, veiled, ifaces, maps, wideKeys, modest, calm, conditions, laid).
  DERIVED. THE GIVEN ROWS OF THIS SEAT. 5 by the template 'for every input the law returns true; each argument reads behind the call as it read before'; 0 by the template 'total and deterministic' (their statements: YteadhhhhnihoaaaTotals.lean).
  GIVEN WITH THE SEED: the statements are not yours to turn. If you find one false, say at which input.
  Laid BY PROGRAM, IN A SANDBOX (cutbox-rows.mjs): the forced cells as the released guide's own fill.sh prints them over the translation d4bc3c1904f4109f… (all of the seat's roots in one cut). By AI agents, Wed Nov 11 2026. No macro, syntax, notation, axiom, sorry.
-/
import Derived.Test.YteadhhhhnihoaaaChecked
import GoSem.Claim
import GoSem.ClaimJoined
import GoSem.ClaimMapViews
import Derived.JoinedTies
import Derived.KernelRfl
namespace Go.Proofs.Yteadhhhhnihoaaa
/- THE CELL 'sum', in the pinned program and in every row, IS THE sha256 OF THE DUMP (.gsa) THAT YteadhhhhnihoaaaProg.lean LOADS. Nothing in Lean hashes anything: it is a label: what it is worth is what the hold of that sum in a sandbox is worth. -/
noncomputable def Try.pinned : Pinned := { name := "yteadhhhhnihoaaa", sum := "d4bc3c1904f4109f707f99c4b04640ceb66d9be9b19dd9a202a7081e52259bbd", checked := Try.checked }
namespace Rows
def none {H : Type} : Left H := { results := [], args := [] }

/-- 'laws.FnNames': WHATEVER THE INPUT: true; the input reads as it did. -/
def fnNamesSpec : ChangeSpec := { name := "fnNames", fn := fun _ => fun
  | [d] => { results := [.lit (.bool true)], args := [d] }
  | _ => none }
def fnNamesRow : OpenClaim := { program := "yteadhhhhnihoaaa", sum := "d4bc3c1904f4109f707f99c4b04640ceb66d9be9b19dd9a202a7081e52259bbd", func := "loop.example/g00050/laws.FnNames", spec := "fnNames", apart := false }
def FnNamesSaid : Prop := fnNamesRow.holds Try.pinned (OpenSpec.ofChange fnNamesSpec)

/-- ITS FALSE NEIGHBOUR: 'it returns false'. Refute it at one input. -/
def fnNamesWrong : ChangeSpec := { name := "fnNames", fn := fun _ => fun
  | [d] => { results := [.lit (.bool false)], args := [d] }
  | _ => none }
def FnNamesWrongFalsely : Prop := fnNamesRow.holds Try.pinned (OpenSpec.ofChange fnNamesWrong)

/-- 'laws.FnExactElemsOk': WHATEVER THE INPUT: true; the input reads as it did. -/
def fnExactElemsOkSpec : ChangeSpec := { name := "fnExactElemsOk", fn := fun _ => fun
  | [d] => { results := [.lit (.bool true)], args := [d] }
  | _ => none }
def fnExactElemsOkRow : OpenClaim := { program := "yteadhhhhnihoaaa", sum := "d4bc3c1904f4109f707f99c4b04640ceb66d9be9b19dd9a202a7081e52259bbd", func := "loop.example/g00050/laws.FnExactElemsOk", spec := "fnExactElemsOk", recurses := true, apart := false }
def FnExactElemsOkSaid : Prop := fnExactElemsOkRow.holds Try.pinned (OpenSpec.ofChange fnExactElemsOkSpec)

/-- ITS FALSE NEIGHBOUR: 'it returns false'. Refute it at one input. -/
def fnExactElemsOkWrong : ChangeSpec := { name := "fnExactElemsOk", fn := fun _ => fun
  | [d] => { results := [.lit (.bool false)], args := [d] }
  | _ => none }
def FnExactElemsOkWrongFalsely : Prop := fnExactElemsOkRow.holds Try.pinned (OpenSpec.ofChange fnExactElemsOkWrong)

/-- 'laws.FnExactSigns': WHATEVER THE INPUT: true; the input reads as it did. -/
def fnExactSignsSpec : ChangeSpec := { name := "fnExactSigns", fn := fun _ => fun
  | [d] => { results := [.lit (.bool true)], args := [d] }
  | _ => none }
def fnExactSignsRow : OpenClaim := { program := "yteadhhhhnihoaaa", sum := "d4bc3c1904f4109f707f99c4b04640ceb66d9be9b19dd9a202a7081e52259bbd", func := "loop.example/g00050/laws.FnExactSigns", spec := "fnExactSigns", apart := false }
def FnExactSignsSaid : Prop := fnExactSignsRow.holds Try.pinned (OpenSpec.ofChange fnExactSignsSpec)

/-- ITS FALSE NEIGHBOUR: 'it returns false'. Refute it at one input. -/
def fnExactSignsWrong : ChangeSpec := { name := "fnExactSigns", fn := fun _ => fun
  | [d] => { results := [.lit (.bool false)], args := [d] }
  | _ => none }
def FnExactSignsWrongFalsely : Prop := fnExactSignsRow.holds Try.pinned (OpenSpec.ofChange fnExactSignsWrong)

/-- 'laws.FnExactNameOf': WHATEVER THE INPUT: true; the input reads as it did. -/
def fnExactNameOfSpec : ChangeSpec := { name := "fnExactNameOf", fn := fun _ => fun
  | [d] => { results := [.lit (.bool true)], args := [d] }
  | _ => none }
def fnExactNameOfRow : OpenClaim := { program := "yteadhhhhnihoaaa", sum := "d4bc3c1904f4109f707f99c4b04640ceb66d9be9b19dd9a202a7081e52259bbd", func := "loop.example/g00050/laws.FnExactNameOf", spec := "fnExactNameOf", apart := false }
def FnExactNameOfSaid : Prop := fnExactNameOfRow.holds Try.pinned (OpenSpec.ofChange fnExactNameOfSpec)

/-- ITS FALSE NEIGHBOUR: 'it returns false'. Refute it at one input. -/
def fnExactNameOfWrong : ChangeSpec := { name := "fnExactNameOf", fn := fun _ => fun
  | [d] => { results := [.lit (.bool false)], args := [d] }
  | _ => none }
def FnExactNameOfWrongFalsely : Prop := fnExactNameOfRow.holds Try.pinned (OpenSpec.ofChange fnExactNameOfWrong)

/-- 'laws.FnExactIdentifies': WHATEVER THE INPUT: true; the input reads as it did. -/
def fnExactIdentifiesSpec : ChangeSpec := { name := "fnExactIdentifies", fn := fun _ => fun
  | [d1, d2] => { results := [.lit (.bool true)], args := [d1, d2] }
  | _ => none }
def fnExactIdentifiesRow : OpenClaim := { program := "yteadhhhhnihoaaa", sum := "d4bc3c1904f4109f707f99c4b04640ceb66d9be9b19dd9a202a7081e52259bbd", func := "loop.example/g00050/laws.FnExactIdentifies", spec := "fnExactIdentifies", apart := false }
def FnExactIdentifiesSaid : Prop := fnExactIdentifiesRow.holds Try.pinned (OpenSpec.ofChange fnExactIdentifiesSpec)

/-- ITS FALSE NEIGHBOUR: 'it returns false'. Refute it at one input. -/
def fnExactIdentifiesWrong : ChangeSpec := { name := "fnExactIdentifies", fn := fun _ => fun
  | [d1, d2] => { results := [.lit (.bool false)], args := [d1, d2] }
  | _ => none }
def FnExactIdentifiesWrongFalsely : Prop := fnExactIdentifiesRow.holds Try.pinned (OpenSpec.ofChange fnExactIdentifiesWrong)

/- THE SECOND FORM. 'bulk': how many values and letters a reading holds, each counted each time it is reached (what is shared counts as often as it is met; a slice's spare places count too). A statement '..UptoSaid' is the law's where the arguments, and the package variables that the reading takes, are together of bulk at most 1048576: NARROWER than '..Said'. Prove '..Said' where nothing that the law and all that it calls make is longer than what came in: it says more and counts as full. Else prove '..UptoSaid'. A law counts once. -/
mutual
def uptoBulk {H : Type} : DataW H → Nat
  | .lit (.string bytes) => bytes.length + 1
  | .lit _ => 1
  | .nil => 1
  | .ptr d => uptoBulk d + 1
  | .slice elems spare => uptoBulkAll elems + uptoBulkAll spare + 1
  | .agg parts => uptoBulkAll parts + 1
  | .iface _ d => uptoBulk d + 1
  | .map entries => uptoBulkEntries entries + 1
  | .held _ => 1
def uptoBulkAll {H : Type} : List (DataW H) → Nat
  | [] => 0
  | d :: r => uptoBulk d + uptoBulkAll r
def uptoBulkEntries {H : Type} : List (Lit × DataW H) → Nat
  | [] => 0
  | x :: r => uptoBulkEntry x + uptoBulkEntries r
def uptoBulkEntry {H : Type} : Lit × DataW H → Nat
  | (.string bytes, d) => bytes.length + uptoBulk d + 1
  | (_, d) => uptoBulk d + 1
 end
def uptoSmall : (H : Type) → List (DataW H) → Bool := fun _ ds => decide (uptoBulkAll ds ≤ 1048576)
def OpenSpec.upto (s : _root_.Go.ChangeSpec) : _root_.Go.OpenSpec := { _root_.Go.OpenSpec.ofChange s with cond := some uptoSmall }

/-- 'laws.FnNames', WHERE WHAT IT READS IS OF BULK AT MOST 1048576: true; the input reads as it did. -/
def fnNamesUptoRow : OpenClaim := { program := "yteadhhhhnihoaaa", sum := "d4bc3c1904f4109f707f99c4b04640ceb66d9be9b19dd9a202a7081e52259bbd", func := "loop.example/g00050/laws.FnNames", spec := "fnNames", apart := false, narrowed := true }
def FnNamesUptoSaid : Prop := fnNamesUptoRow.holds Try.pinned (OpenSpec.upto fnNamesSpec)

/-- 'laws.FnExactElemsOk', WHERE WHAT IT READS IS OF BULK AT MOST 1048576: true; the input reads as it did. -/
def fnExactElemsOkUptoRow : OpenClaim := { program := "yteadhhhhnihoaaa", sum := "d4bc3c1904f4109f707f99c4b04640ceb66d9be9b19dd9a202a7081e52259bbd", func := "loop.example/g00050/laws.FnExactElemsOk", spec := "fnExactElemsOk", recurses := true, apart := false, narrowed := true }
def FnExactElemsOkUptoSaid : Prop := fnExactElemsOkUptoRow.holds Try.pinned (OpenSpec.upto fnExactElemsOkSpec)

/-- 'laws.FnExactSigns', WHERE WHAT IT READS IS OF BULK AT MOST 1048576: true; the input reads as it did. -/
def fnExactSignsUptoRow : OpenClaim := { program := "yteadhhhhnihoaaa", sum := "d4bc3c1904f4109f707f99c4b04640ceb66d9be9b19dd9a202a7081e52259bbd", func := "loop.example/g00050/laws.FnExactSigns", spec := "fnExactSigns", apart := false, narrowed := true }
def FnExactSignsUptoSaid : Prop := fnExactSignsUptoRow.holds Try.pinned (OpenSpec.upto fnExactSignsSpec)

/-- 'laws.FnExactNameOf', WHERE WHAT IT READS IS OF BULK AT MOST 1048576: true; the input reads as it did. -/
def fnExactNameOfUptoRow : OpenClaim := { program := "yteadhhhhnihoaaa", sum := "d4bc3c1904f4109f707f99c4b04640ceb66d9be9b19dd9a202a7081e52259bbd", func := "loop.example/g00050/laws.FnExactNameOf", spec := "fnExactNameOf", apart := false, narrowed := true }
def FnExactNameOfUptoSaid : Prop := fnExactNameOfUptoRow.holds Try.pinned (OpenSpec.upto fnExactNameOfSpec)

/-- 'laws.FnExactIdentifies', WHERE WHAT IT READS IS OF BULK AT MOST 1048576: true; the input reads as it did. -/
def fnExactIdentifiesUptoRow : OpenClaim := { program := "yteadhhhhnihoaaa", sum := "d4bc3c1904f4109f707f99c4b04640ceb66d9be9b19dd9a202a7081e52259bbd", func := "loop.example/g00050/laws.FnExactIdentifies", spec := "fnExactIdentifies", apart := false, narrowed := true }
def FnExactIdentifiesUptoSaid : Prop := fnExactIdentifiesUptoRow.holds Try.pinned (OpenSpec.upto fnExactIdentifiesSpec)

end Rows
end Go.Proofs.Yteadhhhhnihoaaa
