/-
  DERIVED. GIVEN WITH THE SEED: THE CARDS: each row of YtggiegfkmkaaeaaDoorRows.lean that lists a variable, with what it lists TIED to the program's text (the seventh form; the later family's looks); each row that meets fmt, with fmt's text TOLD by the authors' own Lean function (tested against real Go, not proved from fmt's source: count such statements apart). THE CARD IS WHAT COUNTS. Prove the row's statement (the work); the ties are given (YtggiegfkmkaaeaaDoorTie.lean); close each card by the builder's one call (the guide's Derived/Test/ToyasCard.lean, 'card_holds'). Laid BY PROGRAM, IN A SANDBOX (cutbox-door.mjs). By AI agents, Wed Nov 11 2026. No macro, syntax, notation, axiom, sorry.
-/
import Derived.Test.YtggiegfkmkaaeaaDoorRows
import GoSem.ClaimSeven
namespace Go.Proofs.YtggiegfkmkaaeaaDoor
namespace Rows

/-- THE TIED CARD OF 'laws.FnExactTurns'. -/
def fnExactTurnsCard : Claim7 := { stood := { row := fnExactTurnsRow, standIns := [], harness := (true, "a98edb276ed76441fa57cf9cfcf2fd5aaa5f35a4f8b9afe10f447efcb4e08391"), looks := false }, kinds := [], alts := [], laidByText := true, laidKinds := [.data], laidTests := true, laidLooks := .later }
def FnExactTurnsCardSaid : Prop := Claim7.holds Tryd.pinned (.plain (OpenSpec.ofChange fnExactTurnsSpec)) fnExactTurnsCard

/-- THE TIED CARD OF 'laws.FnTurnGroup'. -/
def fnTurnGroupCard : Claim7 := { stood := { row := fnTurnGroupRow, standIns := [], harness := (true, "a98edb276ed76441fa57cf9cfcf2fd5aaa5f35a4f8b9afe10f447efcb4e08391"), looks := false }, kinds := [], alts := [], laidByText := true, laidKinds := [.data], laidTests := true, laidLooks := .later }
def FnTurnGroupCardSaid : Prop := Claim7.holds Tryd.pinned (.plain (OpenSpec.ofChange fnTurnGroupSpec)) fnTurnGroupCard

/-- THE SECOND FORM's CARD OF 'laws.FnExactTurns'. -/
def fnExactTurnsUptoCard : Claim7 := { stood := { row := fnExactTurnsUptoRow, standIns := [], harness := (true, "a98edb276ed76441fa57cf9cfcf2fd5aaa5f35a4f8b9afe10f447efcb4e08391"), looks := false }, kinds := [], alts := [], laidByText := true, laidKinds := [.data], laidTests := true, laidLooks := .later }
def FnExactTurnsUptoCardSaid : Prop := Claim7.holds Tryd.pinned (.plain (OpenSpec.upto fnExactTurnsSpec)) fnExactTurnsUptoCard

/-- THE SECOND FORM's CARD OF 'laws.FnTurnGroup'. -/
def fnTurnGroupUptoCard : Claim7 := { stood := { row := fnTurnGroupUptoRow, standIns := [], harness := (true, "a98edb276ed76441fa57cf9cfcf2fd5aaa5f35a4f8b9afe10f447efcb4e08391"), looks := false }, kinds := [], alts := [], laidByText := true, laidKinds := [.data], laidTests := true, laidLooks := .later }
def FnTurnGroupUptoCardSaid : Prop := Claim7.holds Tryd.pinned (.plain (OpenSpec.upto fnTurnGroupSpec)) fnTurnGroupUptoCard
end Rows
end Go.Proofs.YtggiegfkmkaaeaaDoor
