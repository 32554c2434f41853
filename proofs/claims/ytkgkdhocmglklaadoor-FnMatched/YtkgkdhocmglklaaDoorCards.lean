/-
  DERIVED. GIVEN WITH THE SEED: THE CARDS: each row of YtkgkdhocmglklaaDoorRows.lean that lists a variable, with what it lists TIED to the program's text (the seventh form; the later family's looks); each row that meets fmt, with fmt's text TOLD by the authors' own Lean function (tested against real Go, not proved from fmt's source: count such statements apart). THE CARD IS WHAT COUNTS. Prove the row's statement (the work); the ties are given (YtkgkdhocmglklaaDoorTie.lean); close each card by the builder's one call (the guide's Derived/Test/ToyasCard.lean, 'card_holds'). Laid BY PROGRAM, IN A SANDBOX (cutbox-door.mjs). By AI agents, Wed Nov 11 2026. No macro, syntax, notation, axiom, sorry.
-/
import Derived.Test.YtkgkdhocmglklaaDoorRows
import GoSem.ClaimSeven
namespace Go.Proofs.YtkgkdhocmglklaaDoor
namespace Rows

/-- THE TIED CARD OF 'laws.FnFindsTurn'. -/
def fnFindsTurnCard : Claim7 := { stood := { row := fnFindsTurnRow, standIns := [], harness := (true, "84ff0b15083692f5ecc8861d010d925af8063c4248dc41dbda3b9501e97fffb0"), looks := false }, kinds := [], alts := [], laidByText := true, laidKinds := [.data], laidTests := true, laidLooks := .later }
def FnFindsTurnCardSaid : Prop := Claim7.holds Tryd.pinned (.plain (OpenSpec.ofChange fnFindsTurnSpec)) fnFindsTurnCard

/-- THE TIED CARD OF 'laws.FnMatched'. -/
def fnMatchedCard : Claim7 := { stood := { row := fnMatchedRow, standIns := [], harness := (true, "84ff0b15083692f5ecc8861d010d925af8063c4248dc41dbda3b9501e97fffb0"), looks := false }, kinds := [], alts := [], laidByText := true, laidKinds := [.data], laidTests := true, laidLooks := .later }
def FnMatchedCardSaid : Prop := Claim7.holds Tryd.pinned (.plain (OpenSpec.ofChange fnMatchedSpec)) fnMatchedCard

/-- THE SECOND FORM's CARD OF 'laws.FnFindsTurn'. -/
def fnFindsTurnUptoCard : Claim7 := { stood := { row := fnFindsTurnUptoRow, standIns := [], harness := (true, "84ff0b15083692f5ecc8861d010d925af8063c4248dc41dbda3b9501e97fffb0"), looks := false }, kinds := [], alts := [], laidByText := true, laidKinds := [.data], laidTests := true, laidLooks := .later }
def FnFindsTurnUptoCardSaid : Prop := Claim7.holds Tryd.pinned (.plain (OpenSpec.upto fnFindsTurnSpec)) fnFindsTurnUptoCard

/-- THE SECOND FORM's CARD OF 'laws.FnMatched'. -/
def fnMatchedUptoCard : Claim7 := { stood := { row := fnMatchedUptoRow, standIns := [], harness := (true, "84ff0b15083692f5ecc8861d010d925af8063c4248dc41dbda3b9501e97fffb0"), looks := false }, kinds := [], alts := [], laidByText := true, laidKinds := [.data], laidTests := true, laidLooks := .later }
def FnMatchedUptoCardSaid : Prop := Claim7.holds Tryd.pinned (.plain (OpenSpec.upto fnMatchedSpec)) fnMatchedUptoCard
end Rows
end Go.Proofs.YtkgkdhocmglklaaDoor
