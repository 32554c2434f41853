/-
  No cell of these rows narrows 'for every input' (looked for: loops, veiled, ifaces, maps, wideKeys, modest, calm, conditions, laid).
  DERIVED. THE GIVEN ROWS OF THIS SEAT. 10 by the template 'for every input the law returns true; each argument reads behind the call as it read before'; 0 by the template 'total and deterministic' (their statements: YtoomnfjcbdghgaaTotals.lean).
  GIVEN WITH THE SEED: the statements are not yours to turn. If you find one false, say at which input.
  Laid BY PROGRAM, IN A SANDBOX (cutbox-rows.mjs): the forced cells as the released guide's own fill.sh prints them over the translation 4e8166a6ec90b30e… (all of the seat's roots in one cut). By AI agents, Wed Nov 11 2026. No macro, syntax, notation, axiom, sorry.
-/
import Derived.Test.YtoomnfjcbdghgaaChecked
import GoSem.Claim
import GoSem.ClaimJoined
import GoSem.ClaimMapViews
import Derived.JoinedTies
import Derived.KernelRfl
namespace Go.Proofs.Ytoomnfjcbdghgaa
/- THE CELL 'sum', in the pinned program and in every row, IS THE sha256 OF THE DUMP (.gsa) THAT YtoomnfjcbdghgaaProg.lean LOADS. Nothing in Lean hashes anything: it is a label: what it is worth is what the hold of that sum in a sandbox is worth. -/
noncomputable def Try.pinned : Pinned := { name := "ytoomnfjcbdghgaa", sum := "4e8166a6ec90b30eeb4ec49372a405726fe20a02c637e86bbc906beff77a48ba", checked := Try.checked }
namespace Rows
def none {H : Type} : Left H := { results := [], args := [] }

/-- 'laws.FnToldOnce': WHATEVER THE INPUT: true; the input reads as it did. -/
def fnToldOnceSpec : ChangeSpec := { name := "fnToldOnce", fn := fun _ => fun
  | [d] => { results := [.lit (.bool true)], args := [d] }
  | _ => none }
def fnToldOnceRow : OpenClaim := { program := "ytoomnfjcbdghgaa", sum := "4e8166a6ec90b30eeb4ec49372a405726fe20a02c637e86bbc906beff77a48ba", func := "loop.example/g00050/laws.FnToldOnce", spec := "fnToldOnce", inPlace := ["slices.overlaps[loop.example/g00050/impl.Part]"], unfollowed := true, recurses := true, leaving := true, apart := false }
def FnToldOnceSaid : Prop := fnToldOnceRow.holds Try.pinned (OpenSpec.ofChange fnToldOnceSpec)

/-- ITS FALSE NEIGHBOUR: 'it returns false'. Refute it at one input. -/
def fnToldOnceWrong : ChangeSpec := { name := "fnToldOnce", fn := fun _ => fun
  | [d] => { results := [.lit (.bool false)], args := [d] }
  | _ => none }
def FnToldOnceWrongFalsely : Prop := fnToldOnceRow.holds Try.pinned (OpenSpec.ofChange fnToldOnceWrong)

/-- 'laws.FnAllTold': WHATEVER THE INPUT: true; the input reads as it did. -/
def fnAllToldSpec : ChangeSpec := { name := "fnAllTold", fn := fun _ => fun
  | [d] => { results := [.lit (.bool true)], args := [d] }
  | _ => none }
def fnAllToldRow : OpenClaim := { program := "ytoomnfjcbdghgaa", sum := "4e8166a6ec90b30eeb4ec49372a405726fe20a02c637e86bbc906beff77a48ba", func := "loop.example/g00050/laws.FnAllTold", spec := "fnAllTold", inPlace := ["slices.overlaps[loop.example/g00050/impl.Part]"], unfollowed := true, recurses := true, leaving := true, apart := false }
def FnAllToldSaid : Prop := fnAllToldRow.holds Try.pinned (OpenSpec.ofChange fnAllToldSpec)

/-- ITS FALSE NEIGHBOUR: 'it returns false'. Refute it at one input. -/
def fnAllToldWrong : ChangeSpec := { name := "fnAllTold", fn := fun _ => fun
  | [d] => { results := [.lit (.bool false)], args := [d] }
  | _ => none }
def FnAllToldWrongFalsely : Prop := fnAllToldRow.holds Try.pinned (OpenSpec.ofChange fnAllToldWrong)

/-- 'laws.FnReceiver': WHATEVER THE INPUT: true; the input reads as it did. -/
def fnReceiverSpec : ChangeSpec := { name := "fnReceiver", fn := fun _ => fun
  | [d] => { results := [.lit (.bool true)], args := [d] }
  | _ => none }
def fnReceiverRow : OpenClaim := { program := "ytoomnfjcbdghgaa", sum := "4e8166a6ec90b30eeb4ec49372a405726fe20a02c637e86bbc906beff77a48ba", func := "loop.example/g00050/laws.FnReceiver", spec := "fnReceiver", inPlace := ["slices.overlaps[loop.example/g00050/impl.Part]"], unfollowed := true, recurses := true, leaving := true, apart := false }
def FnReceiverSaid : Prop := fnReceiverRow.holds Try.pinned (OpenSpec.ofChange fnReceiverSpec)

/-- ITS FALSE NEIGHBOUR: 'it returns false'. Refute it at one input. -/
def fnReceiverWrong : ChangeSpec := { name := "fnReceiver", fn := fun _ => fun
  | [d] => { results := [.lit (.bool false)], args := [d] }
  | _ => none }
def FnReceiverWrongFalsely : Prop := fnReceiverRow.holds Try.pinned (OpenSpec.ofChange fnReceiverWrong)

/-- 'laws.FnPieces': WHATEVER THE INPUT: true; the input reads as it did. -/
def fnPiecesSpec : ChangeSpec := { name := "fnPieces", fn := fun _ => fun
  | [d] => { results := [.lit (.bool true)], args := [d] }
  | _ => none }
def fnPiecesRow : OpenClaim := { program := "ytoomnfjcbdghgaa", sum := "4e8166a6ec90b30eeb4ec49372a405726fe20a02c637e86bbc906beff77a48ba", func := "loop.example/g00050/laws.FnPieces", spec := "fnPieces", inPlace := ["slices.overlaps[loop.example/g00050/impl.Part]"], unfollowed := true, recurses := true, leaving := true, apart := false }
def FnPiecesSaid : Prop := fnPiecesRow.holds Try.pinned (OpenSpec.ofChange fnPiecesSpec)

/-- ITS FALSE NEIGHBOUR: 'it returns false'. Refute it at one input. -/
def fnPiecesWrong : ChangeSpec := { name := "fnPieces", fn := fun _ => fun
  | [d] => { results := [.lit (.bool false)], args := [d] }
  | _ => none }
def FnPiecesWrongFalsely : Prop := fnPiecesRow.holds Try.pinned (OpenSpec.ofChange fnPiecesWrong)

/-- 'laws.FnAgree': WHATEVER THE INPUT: true; the input reads as it did. -/
def fnAgreeSpec : ChangeSpec := { name := "fnAgree", fn := fun _ => fun
  | [d] => { results := [.lit (.bool true)], args := [d] }
  | _ => none }
def fnAgreeRow : OpenClaim := { program := "ytoomnfjcbdghgaa", sum := "4e8166a6ec90b30eeb4ec49372a405726fe20a02c637e86bbc906beff77a48ba", func := "loop.example/g00050/laws.FnAgree", spec := "fnAgree", unfollowed := true, recurses := true, leaving := true, apart := false }
def FnAgreeSaid : Prop := fnAgreeRow.holds Try.pinned (OpenSpec.ofChange fnAgreeSpec)

/-- ITS FALSE NEIGHBOUR: 'it returns false'. Refute it at one input. -/
def fnAgreeWrong : ChangeSpec := { name := "fnAgree", fn := fun _ => fun
  | [d] => { results := [.lit (.bool false)], args := [d] }
  | _ => none }
def FnAgreeWrongFalsely : Prop := fnAgreeRow.holds Try.pinned (OpenSpec.ofChange fnAgreeWrong)

/-- 'laws.FnExactAgree': WHATEVER THE INPUT: true; the input reads as it did. -/
def fnExactAgreeSpec : ChangeSpec := { name := "fnExactAgree", fn := fun _ => fun
  | [d1, d2] => { results := [.lit (.bool true)], args := [d1, d2] }
  | _ => none }
def fnExactAgreeRow : OpenClaim := { program := "ytoomnfjcbdghgaa", sum := "4e8166a6ec90b30eeb4ec49372a405726fe20a02c637e86bbc906beff77a48ba", func := "loop.example/g00050/laws.FnExactAgree", spec := "fnExactAgree", unfollowed := true, recurses := true, leaving := true, apart := false }
def FnExactAgreeSaid : Prop := fnExactAgreeRow.holds Try.pinned (OpenSpec.ofChange fnExactAgreeSpec)

/-- ITS FALSE NEIGHBOUR: 'it returns false'. Refute it at one input. -/
def fnExactAgreeWrong : ChangeSpec := { name := "fnExactAgree", fn := fun _ => fun
  | [d1, d2] => { results := [.lit (.bool false)], args := [d1, d2] }
  | _ => none }
def FnExactAgreeWrongFalsely : Prop := fnExactAgreeRow.holds Try.pinned (OpenSpec.ofChange fnExactAgreeWrong)

/-- 'laws.FnExactPieces': WHATEVER THE INPUT: true; the input reads as it did. -/
def fnExactPiecesSpec : ChangeSpec := { name := "fnExactPieces", fn := fun _ => fun
  | [d1, d2, d3] => { results := [.lit (.bool true)], args := [d1, d2, d3] }
  | _ => none }
def fnExactPiecesRow : OpenClaim := { program := "ytoomnfjcbdghgaa", sum := "4e8166a6ec90b30eeb4ec49372a405726fe20a02c637e86bbc906beff77a48ba", func := "loop.example/g00050/laws.FnExactPieces", spec := "fnExactPieces", apart := false }
def FnExactPiecesSaid : Prop := fnExactPiecesRow.holds Try.pinned (OpenSpec.ofChange fnExactPiecesSpec)

/-- ITS FALSE NEIGHBOUR: 'it returns false'. Refute it at one input. -/
def fnExactPiecesWrong : ChangeSpec := { name := "fnExactPieces", fn := fun _ => fun
  | [d1, d2, d3] => { results := [.lit (.bool false)], args := [d1, d2, d3] }
  | _ => none }
def FnExactPiecesWrongFalsely : Prop := fnExactPiecesRow.holds Try.pinned (OpenSpec.ofChange fnExactPiecesWrong)

/-- 'laws.FnExactGatherOk': WHATEVER THE INPUT: true; the input reads as it did. -/
def fnExactGatherOkSpec : ChangeSpec := { name := "fnExactGatherOk", fn := fun _ => fun
  | [d] => { results := [.lit (.bool true)], args := [d] }
  | _ => none }
def fnExactGatherOkRow : OpenClaim := { program := "ytoomnfjcbdghgaa", sum := "4e8166a6ec90b30eeb4ec49372a405726fe20a02c637e86bbc906beff77a48ba", func := "loop.example/g00050/laws.FnExactGatherOk", spec := "fnExactGatherOk", recurses := true, apart := false }
def FnExactGatherOkSaid : Prop := fnExactGatherOkRow.holds Try.pinned (OpenSpec.ofChange fnExactGatherOkSpec)

/-- ITS FALSE NEIGHBOUR: 'it returns false'. Refute it at one input. -/
def fnExactGatherOkWrong : ChangeSpec := { name := "fnExactGatherOk", fn := fun _ => fun
  | [d] => { results := [.lit (.bool false)], args := [d] }
  | _ => none }
def FnExactGatherOkWrongFalsely : Prop := fnExactGatherOkRow.holds Try.pinned (OpenSpec.ofChange fnExactGatherOkWrong)

/-- 'laws.FnExactReceive': WHATEVER THE INPUT: true; the input reads as it did. -/
def fnExactReceiveSpec : ChangeSpec := { name := "fnExactReceive", fn := fun _ => fun
  | [d1, d2] => { results := [.lit (.bool true)], args := [d1, d2] }
  | _ => none }
def fnExactReceiveRow : OpenClaim := { program := "ytoomnfjcbdghgaa", sum := "4e8166a6ec90b30eeb4ec49372a405726fe20a02c637e86bbc906beff77a48ba", func := "loop.example/g00050/laws.FnExactReceive", spec := "fnExactReceive", inPlace := ["slices.overlaps[loop.example/g00050/impl.Part]"], unfollowed := true, recurses := true, leaving := true, apart := false }
def FnExactReceiveSaid : Prop := fnExactReceiveRow.holds Try.pinned (OpenSpec.ofChange fnExactReceiveSpec)

/-- ITS FALSE NEIGHBOUR: 'it returns false'. Refute it at one input. -/
def fnExactReceiveWrong : ChangeSpec := { name := "fnExactReceive", fn := fun _ => fun
  | [d1, d2] => { results := [.lit (.bool false)], args := [d1, d2] }
  | _ => none }
def FnExactReceiveWrongFalsely : Prop := fnExactReceiveRow.holds Try.pinned (OpenSpec.ofChange fnExactReceiveWrong)

/-- 'laws.FnExactTransfer': WHATEVER THE INPUT: true; the input reads as it did. -/
def fnExactTransferSpec : ChangeSpec := { name := "fnExactTransfer", fn := fun _ => fun
  | [d1, d2, d3, d4] => { results := [.lit (.bool true)], args := [d1, d2, d3, d4] }
  | _ => none }
def fnExactTransferRow : OpenClaim := { program := "ytoomnfjcbdghgaa", sum := "4e8166a6ec90b30eeb4ec49372a405726fe20a02c637e86bbc906beff77a48ba", func := "loop.example/g00050/laws.FnExactTransfer", spec := "fnExactTransfer", inPlace := ["slices.overlaps[loop.example/g00050/impl.Part]"], unfollowed := true, recurses := true, leaving := true, apart := false }
def FnExactTransferSaid : Prop := fnExactTransferRow.holds Try.pinned (OpenSpec.ofChange fnExactTransferSpec)

/-- ITS FALSE NEIGHBOUR: 'it returns false'. Refute it at one input. -/
def fnExactTransferWrong : ChangeSpec := { name := "fnExactTransfer", fn := fun _ => fun
  | [d1, d2, d3, d4] => { results := [.lit (.bool false)], args := [d1, d2, d3, d4] }
  | _ => none }
def FnExactTransferWrongFalsely : Prop := fnExactTransferRow.holds Try.pinned (OpenSpec.ofChange fnExactTransferWrong)

/- THE SECOND FORM. 'bulk': how many values and letters a reading holds, each counted each time it is reached (what is shared counts as often as it is met; a slice's spare places count too). A statement '..UptoSaid' is the law's where the arguments, and the package variables that the reading takes, are together of bulk at most 1048576: NARROWER than '..Said'. Prove '..Said' where nothing that the law and all that it calls make is longer than what came in: it says more and counts as full. Else prove '..UptoSaid'. A law counts once. -/
mutual
def uptoBulk {H : Type} : DataW H → Nat
  | .lit (.string bytes) => bytes.length + 1
  | .lit _ => 1
  | .nil => 1
  | .ptr d => uptoBulk d + 1
  | .slice elems spare => uptoBulkAll elems + uptoBulkAll spare + 1
  | .agg parts => uptoBulkAll parts + 1
  | .iface _ d => uptoBulk d + 1
  | .map entries => uptoBulkEntries entries + 1
  | .held _ => 1
def uptoBulkAll {H : Type} : List (DataW H) → Nat
  | [] => 0
  | d :: r => uptoBulk d + uptoBulkAll r
def uptoBulkEntries {H : Type} : List (Lit × DataW H) → Nat
  | [] => 0
  | x :: r => uptoBulkEntry x + uptoBulkEntries r
def uptoBulkEntry {H : Type} : Lit × DataW H → Nat
  | (.string bytes, d) => bytes.length + uptoBulk d + 1
  | (_, d) => uptoBulk d + 1
 end
def uptoSmall : (H : Type) → List (DataW H) → Bool := fun _ ds => decide (uptoBulkAll ds ≤ 1048576)
def OpenSpec.upto (s : _root_.Go.ChangeSpec) : _root_.Go.OpenSpec := { _root_.Go.OpenSpec.ofChange s with cond := some uptoSmall }

/-- 'laws.FnToldOnce', WHERE WHAT IT READS IS OF BULK AT MOST 1048576: true; the input reads as it did. -/
def fnToldOnceUptoRow : OpenClaim := { program := "ytoomnfjcbdghgaa", sum := "4e8166a6ec90b30eeb4ec49372a405726fe20a02c637e86bbc906beff77a48ba", func := "loop.example/g00050/laws.FnToldOnce", spec := "fnToldOnce", inPlace := ["slices.overlaps[loop.example/g00050/impl.Part]"], unfollowed := true, recurses := true, leaving := true, apart := false, narrowed := true }
def FnToldOnceUptoSaid : Prop := fnToldOnceUptoRow.holds Try.pinned (OpenSpec.upto fnToldOnceSpec)

/-- 'laws.FnAllTold', WHERE WHAT IT READS IS OF BULK AT MOST 1048576: true; the input reads as it did. -/
def fnAllToldUptoRow : OpenClaim := { program := "ytoomnfjcbdghgaa", sum := "4e8166a6ec90b30eeb4ec49372a405726fe20a02c637e86bbc906beff77a48ba", func := "loop.example/g00050/laws.FnAllTold", spec := "fnAllTold", inPlace := ["slices.overlaps[loop.example/g00050/impl.Part]"], unfollowed := true, recurses := true, leaving := true, apart := false, narrowed := true }
def FnAllToldUptoSaid : Prop := fnAllToldUptoRow.holds Try.pinned (OpenSpec.upto fnAllToldSpec)

/-- 'laws.FnReceiver', WHERE WHAT IT READS IS OF BULK AT MOST 1048576: true; the input reads as it did. -/
def fnReceiverUptoRow : OpenClaim := { program := "ytoomnfjcbdghgaa", sum := "4e8166a6ec90b30eeb4ec49372a405726fe20a02c637e86bbc906beff77a48ba", func := "loop.example/g00050/laws.FnReceiver", spec := "fnReceiver", inPlace := ["slices.overlaps[loop.example/g00050/impl.Part]"], unfollowed := true, recurses := true, leaving := true, apart := false, narrowed := true }
def FnReceiverUptoSaid : Prop := fnReceiverUptoRow.holds Try.pinned (OpenSpec.upto fnReceiverSpec)

/-- 'laws.FnPieces', WHERE WHAT IT READS IS OF BULK AT MOST 1048576: true; the input reads as it did. -/
def fnPiecesUptoRow : OpenClaim := { program := "ytoomnfjcbdghgaa", sum := "4e8166a6ec90b30eeb4ec49372a405726fe20a02c637e86bbc906beff77a48ba", func := "loop.example/g00050/laws.FnPieces", spec := "fnPieces", inPlace := ["slices.overlaps[loop.example/g00050/impl.Part]"], unfollowed := true, recurses := true, leaving := true, apart := false, narrowed := true }
def FnPiecesUptoSaid : Prop := fnPiecesUptoRow.holds Try.pinned (OpenSpec.upto fnPiecesSpec)

/-- 'laws.FnAgree', WHERE WHAT IT READS IS OF BULK AT MOST 1048576: true; the input reads as it did. -/
def fnAgreeUptoRow : OpenClaim := { program := "ytoomnfjcbdghgaa", sum := "4e8166a6ec90b30eeb4ec49372a405726fe20a02c637e86bbc906beff77a48ba", func := "loop.example/g00050/laws.FnAgree", spec := "fnAgree", unfollowed := true, recurses := true, leaving := true, apart := false, narrowed := true }
def FnAgreeUptoSaid : Prop := fnAgreeUptoRow.holds Try.pinned (OpenSpec.upto fnAgreeSpec)

/-- 'laws.FnExactAgree', WHERE WHAT IT READS IS OF BULK AT MOST 1048576: true; the input reads as it did. -/
def fnExactAgreeUptoRow : OpenClaim := { program := "ytoomnfjcbdghgaa", sum := "4e8166a6ec90b30eeb4ec49372a405726fe20a02c637e86bbc906beff77a48ba", func := "loop.example/g00050/laws.FnExactAgree", spec := "fnExactAgree", unfollowed := true, recurses := true, leaving := true, apart := false, narrowed := true }
def FnExactAgreeUptoSaid : Prop := fnExactAgreeUptoRow.holds Try.pinned (OpenSpec.upto fnExactAgreeSpec)

/-- 'laws.FnExactPieces', WHERE WHAT IT READS IS OF BULK AT MOST 1048576: true; the input reads as it did. -/
def fnExactPiecesUptoRow : OpenClaim := { program := "ytoomnfjcbdghgaa", sum := "4e8166a6ec90b30eeb4ec49372a405726fe20a02c637e86bbc906beff77a48ba", func := "loop.example/g00050/laws.FnExactPieces", spec := "fnExactPieces", apart := false, narrowed := true }
def FnExactPiecesUptoSaid : Prop := fnExactPiecesUptoRow.holds Try.pinned (OpenSpec.upto fnExactPiecesSpec)

/-- 'laws.FnExactGatherOk', WHERE WHAT IT READS IS OF BULK AT MOST 1048576: true; the input reads as it did. -/
def fnExactGatherOkUptoRow : OpenClaim := { program := "ytoomnfjcbdghgaa", sum := "4e8166a6ec90b30eeb4ec49372a405726fe20a02c637e86bbc906beff77a48ba", func := "loop.example/g00050/laws.FnExactGatherOk", spec := "fnExactGatherOk", recurses := true, apart := false, narrowed := true }
def FnExactGatherOkUptoSaid : Prop := fnExactGatherOkUptoRow.holds Try.pinned (OpenSpec.upto fnExactGatherOkSpec)

/-- 'laws.FnExactReceive', WHERE WHAT IT READS IS OF BULK AT MOST 1048576: true; the input reads as it did. -/
def fnExactReceiveUptoRow : OpenClaim := { program := "ytoomnfjcbdghgaa", sum := "4e8166a6ec90b30eeb4ec49372a405726fe20a02c637e86bbc906beff77a48ba", func := "loop.example/g00050/laws.FnExactReceive", spec := "fnExactReceive", inPlace := ["slices.overlaps[loop.example/g00050/impl.Part]"], unfollowed := true, recurses := true, leaving := true, apart := false, narrowed := true }
def FnExactReceiveUptoSaid : Prop := fnExactReceiveUptoRow.holds Try.pinned (OpenSpec.upto fnExactReceiveSpec)

/-- 'laws.FnExactTransfer', WHERE WHAT IT READS IS OF BULK AT MOST 1048576: true; the input reads as it did. -/
def fnExactTransferUptoRow : OpenClaim := { program := "ytoomnfjcbdghgaa", sum := "4e8166a6ec90b30eeb4ec49372a405726fe20a02c637e86bbc906beff77a48ba", func := "loop.example/g00050/laws.FnExactTransfer", spec := "fnExactTransfer", inPlace := ["slices.overlaps[loop.example/g00050/impl.Part]"], unfollowed := true, recurses := true, leaving := true, apart := false, narrowed := true }
def FnExactTransferUptoSaid : Prop := fnExactTransferUptoRow.holds Try.pinned (OpenSpec.upto fnExactTransferSpec)

end Rows
end Go.Proofs.Ytoomnfjcbdghgaa
