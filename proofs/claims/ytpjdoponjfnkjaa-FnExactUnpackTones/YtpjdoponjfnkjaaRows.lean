/-
  No cell of these rows narrows 'for every input' (looked for: loops, veiled, ifaces, maps, wideKeys, modest, calm, conditions, laid).
  DERIVED. THE GIVEN ROWS OF THIS SEAT. 3 by the template 'for every input the law returns true; each argument reads behind the call as it read before'; 0 by the template 'total and deterministic' (their statements: YtpjdoponjfnkjaaTotals.lean).
  GIVEN WITH THE SEED: the statements are not yours to turn. If you find one false, say at which input.
  Laid BY PROGRAM, IN A SANDBOX (cutbox-rows.mjs): the forced cells as the released guide's own fill.sh prints them over the translation 4b78a7eaf9426f19… (all of the seat's roots in one cut). By AI agents, Wed Nov 11 2026. No macro, syntax, notation, axiom, sorry.
-/
import Derived.Test.YtpjdoponjfnkjaaChecked
import GoSem.Claim
import GoSem.ClaimJoined
import GoSem.ClaimMapViews
import Derived.JoinedTies
import Derived.KernelRfl
namespace Go.Proofs.Ytpjdoponjfnkjaa
/- THE CELL 'sum', in the pinned program and in every row, IS THE sha256 OF THE DUMP (.gsa) THAT YtpjdoponjfnkjaaProg.lean LOADS. Nothing in Lean hashes anything: it is a label: what it is worth is what the hold of that sum in a sandbox is worth. -/
noncomputable def Try.pinned : Pinned := { name := "ytpjdoponjfnkjaa", sum := "4b78a7eaf9426f195000f6417d9b9b8239cc0eebdb95c5aaa1706e004ab632f1", checked := Try.checked }
namespace Rows
def none {H : Type} : Left H := { results := [], args := [] }

/-- 'laws.FnExactPackTones': WHATEVER THE INPUT: true; the input reads as it did. -/
def fnExactPackTonesSpec : ChangeSpec := { name := "fnExactPackTones", fn := fun _ => fun
  | [d1, d2] => { results := [.lit (.bool true)], args := [d1, d2] }
  | _ => none }
def fnExactPackTonesRow : OpenClaim := { program := "ytpjdoponjfnkjaa", sum := "4b78a7eaf9426f195000f6417d9b9b8239cc0eebdb95c5aaa1706e004ab632f1", func := "loop.example/g00050/laws.FnExactPackTones", spec := "fnExactPackTones", apart := false }
def FnExactPackTonesSaid : Prop := fnExactPackTonesRow.holds Try.pinned (OpenSpec.ofChange fnExactPackTonesSpec)

/-- ITS FALSE NEIGHBOUR: 'it returns false'. Refute it at one input. -/
def fnExactPackTonesWrong : ChangeSpec := { name := "fnExactPackTones", fn := fun _ => fun
  | [d1, d2] => { results := [.lit (.bool false)], args := [d1, d2] }
  | _ => none }
def FnExactPackTonesWrongFalsely : Prop := fnExactPackTonesRow.holds Try.pinned (OpenSpec.ofChange fnExactPackTonesWrong)

/-- 'laws.FnExactUnpackTones': WHATEVER THE INPUT: true; the input reads as it did. -/
def fnExactUnpackTonesSpec : ChangeSpec := { name := "fnExactUnpackTones", fn := fun _ => fun
  | [d1, d2, d3] => { results := [.lit (.bool true)], args := [d1, d2, d3] }
  | _ => none }
def fnExactUnpackTonesRow : OpenClaim := { program := "ytpjdoponjfnkjaa", sum := "4b78a7eaf9426f195000f6417d9b9b8239cc0eebdb95c5aaa1706e004ab632f1", func := "loop.example/g00050/laws.FnExactUnpackTones", spec := "fnExactUnpackTones", unfollowed := true, recurses := true, apart := false }
def FnExactUnpackTonesSaid : Prop := fnExactUnpackTonesRow.holds Try.pinned (OpenSpec.ofChange fnExactUnpackTonesSpec)

/-- ITS FALSE NEIGHBOUR: 'it returns false'. Refute it at one input. -/
def fnExactUnpackTonesWrong : ChangeSpec := { name := "fnExactUnpackTones", fn := fun _ => fun
  | [d1, d2, d3] => { results := [.lit (.bool false)], args := [d1, d2, d3] }
  | _ => none }
def FnExactUnpackTonesWrongFalsely : Prop := fnExactUnpackTonesRow.holds Try.pinned (OpenSpec.ofChange fnExactUnpackTonesWrong)

/-- 'laws.FnExactDigest': WHATEVER THE INPUT: true; the input reads as it did. -/
def fnExactDigestSpec : ChangeSpec := { name := "fnExactDigest", fn := fun _ => fun
  | [d] => { results := [.lit (.bool true)], args := [d] }
  | _ => none }
def fnExactDigestRow : OpenClaim := { program := "ytpjdoponjfnkjaa", sum := "4b78a7eaf9426f195000f6417d9b9b8239cc0eebdb95c5aaa1706e004ab632f1", func := "loop.example/g00050/laws.FnExactDigest", spec := "fnExactDigest", apart := false }
def FnExactDigestSaid : Prop := fnExactDigestRow.holds Try.pinned (OpenSpec.ofChange fnExactDigestSpec)

/-- ITS FALSE NEIGHBOUR: 'it returns false'. Refute it at one input. -/
def fnExactDigestWrong : ChangeSpec := { name := "fnExactDigest", fn := fun _ => fun
  | [d] => { results := [.lit (.bool false)], args := [d] }
  | _ => none }
def FnExactDigestWrongFalsely : Prop := fnExactDigestRow.holds Try.pinned (OpenSpec.ofChange fnExactDigestWrong)

/- THE SECOND FORM. 'bulk': how many values and letters a reading holds, each counted each time it is reached (what is shared counts as often as it is met; a slice's spare places count too). A statement '..UptoSaid' is the law's where the arguments, and the package variables that the reading takes, are together of bulk at most 1048576: NARROWER than '..Said'. Prove '..Said' where nothing that the law and all that it calls make is longer than what came in: it says more and counts as full. Else prove '..UptoSaid'. A law counts once. -/
mutual
def uptoBulk {H : Type} : DataW H → Nat
  | .lit (.string bytes) => bytes.length + 1
  | .lit _ => 1
  | .nil => 1
  | .ptr d => uptoBulk d + 1
  | .slice elems spare => uptoBulkAll elems + uptoBulkAll spare + 1
  | .agg parts => uptoBulkAll parts + 1
  | .iface _ d => uptoBulk d + 1
  | .map entries => uptoBulkEntries entries + 1
  | .held _ => 1
def uptoBulkAll {H : Type} : List (DataW H) → Nat
  | [] => 0
  | d :: r => uptoBulk d + uptoBulkAll r
def uptoBulkEntries {H : Type} : List (Lit × DataW H) → Nat
  | [] => 0
  | x :: r => uptoBulkEntry x + uptoBulkEntries r
def uptoBulkEntry {H : Type} : Lit × DataW H → Nat
  | (.string bytes, d) => bytes.length + uptoBulk d + 1
  | (_, d) => uptoBulk d + 1
 end
def uptoSmall : (H : Type) → List (DataW H) → Bool := fun _ ds => decide (uptoBulkAll ds ≤ 1048576)
def OpenSpec.upto (s : _root_.Go.ChangeSpec) : _root_.Go.OpenSpec := { _root_.Go.OpenSpec.ofChange s with cond := some uptoSmall }

/-- 'laws.FnExactPackTones', WHERE WHAT IT READS IS OF BULK AT MOST 1048576: true; the input reads as it did. -/
def fnExactPackTonesUptoRow : OpenClaim := { program := "ytpjdoponjfnkjaa", sum := "4b78a7eaf9426f195000f6417d9b9b8239cc0eebdb95c5aaa1706e004ab632f1", func := "loop.example/g00050/laws.FnExactPackTones", spec := "fnExactPackTones", apart := false, narrowed := true }
def FnExactPackTonesUptoSaid : Prop := fnExactPackTonesUptoRow.holds Try.pinned (OpenSpec.upto fnExactPackTonesSpec)

/-- 'laws.FnExactUnpackTones', WHERE WHAT IT READS IS OF BULK AT MOST 1048576: true; the input reads as it did. -/
def fnExactUnpackTonesUptoRow : OpenClaim := { program := "ytpjdoponjfnkjaa", sum := "4b78a7eaf9426f195000f6417d9b9b8239cc0eebdb95c5aaa1706e004ab632f1", func := "loop.example/g00050/laws.FnExactUnpackTones", spec := "fnExactUnpackTones", unfollowed := true, recurses := true, apart := false, narrowed := true }
def FnExactUnpackTonesUptoSaid : Prop := fnExactUnpackTonesUptoRow.holds Try.pinned (OpenSpec.upto fnExactUnpackTonesSpec)

/-- 'laws.FnExactDigest', WHERE WHAT IT READS IS OF BULK AT MOST 1048576: true; the input reads as it did. -/
def fnExactDigestUptoRow : OpenClaim := { program := "ytpjdoponjfnkjaa", sum := "4b78a7eaf9426f195000f6417d9b9b8239cc0eebdb95c5aaa1706e004ab632f1", func := "loop.example/g00050/laws.FnExactDigest", spec := "fnExactDigest", apart := false, narrowed := true }
def FnExactDigestUptoSaid : Prop := fnExactDigestUptoRow.holds Try.pinned (OpenSpec.upto fnExactDigestSpec)

end Rows
end Go.Proofs.Ytpjdoponjfnkjaa
