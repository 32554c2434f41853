/-
  No cell of these rows narrows 'for every input' (looked for: loops, veiled, ifaces, maps, wideKeys, modest, calm, conditions, laid).
  DERIVED. THE GIVEN ROWS OF THIS SEAT. 3 by the template 'for every input the law returns true; each argument reads behind the call as it read before'; 0 by the template 'total and deterministic' (their statements: YtefgpdfbgkhncaaTotals.lean).
  GIVEN WITH THE SEED: the statements are not yours to turn. If you find one false, say at which input.
  Laid BY PROGRAM, IN A SANDBOX (cutbox-rows.mjs): the forced cells as the released guide's own fill.sh prints them over the translation 16d0dcaec068dc43… (all of the seat's roots in one cut). By AI agents, Wed Nov 11 2026. No macro, syntax, notation, axiom, sorry.
-/
import Derived.Test.YtefgpdfbgkhncaaChecked
import GoSem.Claim
import GoSem.ClaimJoined
import GoSem.ClaimMapViews
import Derived.JoinedTies
import Derived.KernelRfl
namespace Go.Proofs.Ytefgpdfbgkhncaa
/- THE CELL 'sum', in the pinned program and in every row, IS THE sha256 OF THE DUMP (.gsa) THAT YtefgpdfbgkhncaaProg.lean LOADS. Nothing in Lean hashes anything: it is a label: what it is worth is what the hold of that sum in a sandbox is worth. -/
noncomputable def Try.pinned : Pinned := { name := "ytefgpdfbgkhncaa", sum := "16d0dcaec068dc4348b6e758c3c8a2f2093ab483d26f6ea3d9fc5288c1b3e85d", checked := Try.checked }
namespace Rows
def none {H : Type} : Left H := { results := [], args := [] }

/-- 'laws.FnExactFlowOk': WHATEVER THE INPUT: true; the input reads as it did. -/
def fnExactFlowOkSpec : ChangeSpec := { name := "fnExactFlowOk", fn := fun _ => fun
  | [d] => { results := [.lit (.bool true)], args := [d] }
  | _ => none }
def fnExactFlowOkRow : OpenClaim := { program := "ytefgpdfbgkhncaa", sum := "16d0dcaec068dc4348b6e758c3c8a2f2093ab483d26f6ea3d9fc5288c1b3e85d", func := "loop.example/g00050/laws.FnExactFlowOk", spec := "fnExactFlowOk", apart := false }
def FnExactFlowOkSaid : Prop := fnExactFlowOkRow.holds Try.pinned (OpenSpec.ofChange fnExactFlowOkSpec)

/-- ITS FALSE NEIGHBOUR: 'it returns false'. Refute it at one input. -/
def fnExactFlowOkWrong : ChangeSpec := { name := "fnExactFlowOk", fn := fun _ => fun
  | [d] => { results := [.lit (.bool false)], args := [d] }
  | _ => none }
def FnExactFlowOkWrongFalsely : Prop := fnExactFlowOkRow.holds Try.pinned (OpenSpec.ofChange fnExactFlowOkWrong)

/-- 'laws.FnExactFlowDo': WHATEVER THE INPUT: true; the input reads as it did. -/
def fnExactFlowDoSpec : ChangeSpec := { name := "fnExactFlowDo", fn := fun _ => fun
  | [d1, d2] => { results := [.lit (.bool true)], args := [d1, d2] }
  | _ => none }
def fnExactFlowDoRow : OpenClaim := { program := "ytefgpdfbgkhncaa", sum := "16d0dcaec068dc4348b6e758c3c8a2f2093ab483d26f6ea3d9fc5288c1b3e85d", func := "loop.example/g00050/laws.FnExactFlowDo", spec := "fnExactFlowDo", inPlace := ["slices.overlaps[loop.example/g00050/impl.Order]"], unfollowed := true, recurses := true, apart := false }
def FnExactFlowDoSaid : Prop := fnExactFlowDoRow.holds Try.pinned (OpenSpec.ofChange fnExactFlowDoSpec)

/-- ITS FALSE NEIGHBOUR: 'it returns false'. Refute it at one input. -/
def fnExactFlowDoWrong : ChangeSpec := { name := "fnExactFlowDo", fn := fun _ => fun
  | [d1, d2] => { results := [.lit (.bool false)], args := [d1, d2] }
  | _ => none }
def FnExactFlowDoWrongFalsely : Prop := fnExactFlowDoRow.holds Try.pinned (OpenSpec.ofChange fnExactFlowDoWrong)

/-- 'laws.FnExactFlowPlay': WHATEVER THE INPUT: true; the input reads as it did. -/
def fnExactFlowPlaySpec : ChangeSpec := { name := "fnExactFlowPlay", fn := fun _ => fun
  | [d] => { results := [.lit (.bool true)], args := [d] }
  | _ => none }
def fnExactFlowPlayRow : OpenClaim := { program := "ytefgpdfbgkhncaa", sum := "16d0dcaec068dc4348b6e758c3c8a2f2093ab483d26f6ea3d9fc5288c1b3e85d", func := "loop.example/g00050/laws.FnExactFlowPlay", spec := "fnExactFlowPlay", inPlace := ["slices.overlaps[loop.example/g00050/impl.Order]"], unfollowed := true, recurses := true, apart := false }
def FnExactFlowPlaySaid : Prop := fnExactFlowPlayRow.holds Try.pinned (OpenSpec.ofChange fnExactFlowPlaySpec)

/-- ITS FALSE NEIGHBOUR: 'it returns false'. Refute it at one input. -/
def fnExactFlowPlayWrong : ChangeSpec := { name := "fnExactFlowPlay", fn := fun _ => fun
  | [d] => { results := [.lit (.bool false)], args := [d] }
  | _ => none }
def FnExactFlowPlayWrongFalsely : Prop := fnExactFlowPlayRow.holds Try.pinned (OpenSpec.ofChange fnExactFlowPlayWrong)

/- THE SECOND FORM. 'bulk': how many values and letters a reading holds, each counted each time it is reached (what is shared counts as often as it is met; a slice's spare places count too). A statement '..UptoSaid' is the law's where the arguments, and the package variables that the reading takes, are together of bulk at most 1048576: NARROWER than '..Said'. Prove '..Said' where nothing that the law and all that it calls make is longer than what came in: it says more and counts as full. Else prove '..UptoSaid'. A law counts once. -/
mutual
def uptoBulk {H : Type} : DataW H → Nat
  | .lit (.string bytes) => bytes.length + 1
  | .lit _ => 1
  | .nil => 1
  | .ptr d => uptoBulk d + 1
  | .slice elems spare => uptoBulkAll elems + uptoBulkAll spare + 1
  | .agg parts => uptoBulkAll parts + 1
  | .iface _ d => uptoBulk d + 1
  | .map entries => uptoBulkEntries entries + 1
  | .held _ => 1
def uptoBulkAll {H : Type} : List (DataW H) → Nat
  | [] => 0
  | d :: r => uptoBulk d + uptoBulkAll r
def uptoBulkEntries {H : Type} : List (Lit × DataW H) → Nat
  | [] => 0
  | x :: r => uptoBulkEntry x + uptoBulkEntries r
def uptoBulkEntry {H : Type} : Lit × DataW H → Nat
  | (.string bytes, d) => bytes.length + uptoBulk d + 1
  | (_, d) => uptoBulk d + 1
 end
def uptoSmall : (H : Type) → List (DataW H) → Bool := fun _ ds => decide (uptoBulkAll ds ≤ 1048576)
def OpenSpec.upto (s : _root_.Go.ChangeSpec) : _root_.Go.OpenSpec := { _root_.Go.OpenSpec.ofChange s with cond := some uptoSmall }

/-- 'laws.FnExactFlowOk', WHERE WHAT IT READS IS OF BULK AT MOST 1048576: true; the input reads as it did. -/
def fnExactFlowOkUptoRow : OpenClaim := { program := "ytefgpdfbgkhncaa", sum := "16d0dcaec068dc4348b6e758c3c8a2f2093ab483d26f6ea3d9fc5288c1b3e85d", func := "loop.example/g00050/laws.FnExactFlowOk", spec := "fnExactFlowOk", apart := false, narrowed := true }
def FnExactFlowOkUptoSaid : Prop := fnExactFlowOkUptoRow.holds Try.pinned (OpenSpec.upto fnExactFlowOkSpec)

/-- 'laws.FnExactFlowDo', WHERE WHAT IT READS IS OF BULK AT MOST 1048576: true; the input reads as it did. -/
def fnExactFlowDoUptoRow : OpenClaim := { program := "ytefgpdfbgkhncaa", sum := "16d0dcaec068dc4348b6e758c3c8a2f2093ab483d26f6ea3d9fc5288c1b3e85d", func := "loop.example/g00050/laws.FnExactFlowDo", spec := "fnExactFlowDo", inPlace := ["slices.overlaps[loop.example/g00050/impl.Order]"], unfollowed := true, recurses := true, apart := false, narrowed := true }
def FnExactFlowDoUptoSaid : Prop := fnExactFlowDoUptoRow.holds Try.pinned (OpenSpec.upto fnExactFlowDoSpec)

/-- 'laws.FnExactFlowPlay', WHERE WHAT IT READS IS OF BULK AT MOST 1048576: true; the input reads as it did. -/
def fnExactFlowPlayUptoRow : OpenClaim := { program := "ytefgpdfbgkhncaa", sum := "16d0dcaec068dc4348b6e758c3c8a2f2093ab483d26f6ea3d9fc5288c1b3e85d", func := "loop.example/g00050/laws.FnExactFlowPlay", spec := "fnExactFlowPlay", inPlace := ["slices.overlaps[loop.example/g00050/impl.Order]"], unfollowed := true, recurses := true, apart := false, narrowed := true }
def FnExactFlowPlayUptoSaid : Prop := fnExactFlowPlayUptoRow.holds Try.pinned (OpenSpec.upto fnExactFlowPlaySpec)

end Rows
end Go.Proofs.Ytefgpdfbgkhncaa
