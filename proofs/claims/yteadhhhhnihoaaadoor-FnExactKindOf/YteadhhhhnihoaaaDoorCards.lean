/-
  DERIVED. GIVEN WITH THE SEED: THE CARDS: each row of YteadhhhhnihoaaaDoorRows.lean that lists a variable, with what it lists TIED to the program's text (the seventh form; the later family's looks); each row that meets fmt, with fmt's text TOLD by the authors' own Lean function (tested against real Go, not proved from fmt's source: count such statements apart). THE CARD IS WHAT COUNTS. Prove the row's statement (the work); the ties are given (YteadhhhhnihoaaaDoorTie.lean); close each card by the builder's one call (the guide's Derived/Test/ToyasCard.lean, 'card_holds'). Laid BY PROGRAM, IN A SANDBOX (cutbox-door.mjs). By AI agents, Wed Nov 11 2026. No macro, syntax, notation, axiom, sorry.
-/
import Derived.Test.YteadhhhhnihoaaaDoorRows
import GoSem.ClaimSeven
namespace Go.Proofs.YteadhhhhnihoaaaDoor
namespace Rows

/-- THE TIED CARD OF 'laws.FnFilesBack'. -/
def fnFilesBackCard : Claim7 := { stood := { row := fnFilesBackRow, standIns := [], harness := (true, "de39438dd935a1a4cf43234cbb1eb5435fc63d079fc4bc1a5855b4a7d22981c1"), looks := true }, kinds := [], alts := [], laidByText := true, laidKinds := [.data], laidTests := true, laidLooks := .later }
def FnFilesBackCardSaid : Prop := Claim7.holds Tryd.pinned (.plain (OpenSpec.ofChange fnFilesBackSpec)) fnFilesBackCard

/-- THE TIED CARD OF 'laws.FnNobody'. -/
def fnNobodyCard : Claim7 := { stood := { row := fnNobodyRow, standIns := [], harness := (true, "de39438dd935a1a4cf43234cbb1eb5435fc63d079fc4bc1a5855b4a7d22981c1"), looks := true }, kinds := [], alts := [], laidByText := true, laidKinds := [.data, .data, .data], laidTests := true, laidLooks := .later }
def FnNobodyCardSaid : Prop := Claim7.holds Tryd.pinned (.plain (OpenSpec.ofChange fnNobodySpec)) fnNobodyCard

/-- THE TIED CARD OF 'laws.FnExactKindOf'. -/
def fnExactKindOfCard : Claim7 := { stood := { row := fnExactKindOfRow, standIns := [], harness := (true, "de39438dd935a1a4cf43234cbb1eb5435fc63d079fc4bc1a5855b4a7d22981c1"), looks := true }, kinds := [], alts := [], laidByText := true, laidKinds := [.data], laidTests := true, laidLooks := .later }
def FnExactKindOfCardSaid : Prop := Claim7.holds Tryd.pinned (.plain (OpenSpec.ofChange fnExactKindOfSpec)) fnExactKindOfCard

/-- THE TIED CARD OF 'laws.FnExactWriteFile'. -/
def fnExactWriteFileCard : Claim7 := { stood := { row := fnExactWriteFileRow, standIns := [], harness := (true, "de39438dd935a1a4cf43234cbb1eb5435fc63d079fc4bc1a5855b4a7d22981c1"), looks := true }, kinds := [], alts := [], laidByText := true, laidKinds := [.data], laidTests := true, laidLooks := .later }
def FnExactWriteFileCardSaid : Prop := Claim7.holds Tryd.pinned (.plain (OpenSpec.ofChange fnExactWriteFileSpec)) fnExactWriteFileCard

/-- THE TIED CARD OF 'laws.FnExactReadFile'. -/
def fnExactReadFileCard : Claim7 := { stood := { row := fnExactReadFileRow, standIns := [], harness := (true, "de39438dd935a1a4cf43234cbb1eb5435fc63d079fc4bc1a5855b4a7d22981c1"), looks := true }, kinds := [], alts := [], laidByText := true, laidKinds := [.data], laidTests := true, laidLooks := .later }
def FnExactReadFileCardSaid : Prop := Claim7.holds Tryd.pinned (.plain (OpenSpec.ofChange fnExactReadFileSpec)) fnExactReadFileCard

/-- THE TIED CARD OF 'laws.FnExactAnonymous'. -/
def fnExactAnonymousCard : Claim7 := { stood := { row := fnExactAnonymousRow, standIns := [], harness := (true, "de39438dd935a1a4cf43234cbb1eb5435fc63d079fc4bc1a5855b4a7d22981c1"), looks := true }, kinds := [], alts := [], laidByText := true, laidKinds := [.data, .data, .data], laidTests := true, laidLooks := .later }
def FnExactAnonymousCardSaid : Prop := Claim7.holds Tryd.pinned (.plain (OpenSpec.ofChange fnExactAnonymousSpec)) fnExactAnonymousCard

/-- THE SECOND FORM's CARD OF 'laws.FnFilesBack'. -/
def fnFilesBackUptoCard : Claim7 := { stood := { row := fnFilesBackUptoRow, standIns := [], harness := (true, "de39438dd935a1a4cf43234cbb1eb5435fc63d079fc4bc1a5855b4a7d22981c1"), looks := true }, kinds := [], alts := [], laidByText := true, laidKinds := [.data], laidTests := true, laidLooks := .later }
def FnFilesBackUptoCardSaid : Prop := Claim7.holds Tryd.pinned (.plain (OpenSpec.upto fnFilesBackSpec)) fnFilesBackUptoCard

/-- THE SECOND FORM's CARD OF 'laws.FnNobody'. -/
def fnNobodyUptoCard : Claim7 := { stood := { row := fnNobodyUptoRow, standIns := [], harness := (true, "de39438dd935a1a4cf43234cbb1eb5435fc63d079fc4bc1a5855b4a7d22981c1"), looks := true }, kinds := [], alts := [], laidByText := true, laidKinds := [.data, .data, .data], laidTests := true, laidLooks := .later }
def FnNobodyUptoCardSaid : Prop := Claim7.holds Tryd.pinned (.plain (OpenSpec.upto fnNobodySpec)) fnNobodyUptoCard

/-- THE SECOND FORM's CARD OF 'laws.FnExactKindOf'. -/
def fnExactKindOfUptoCard : Claim7 := { stood := { row := fnExactKindOfUptoRow, standIns := [], harness := (true, "de39438dd935a1a4cf43234cbb1eb5435fc63d079fc4bc1a5855b4a7d22981c1"), looks := true }, kinds := [], alts := [], laidByText := true, laidKinds := [.data], laidTests := true, laidLooks := .later }
def FnExactKindOfUptoCardSaid : Prop := Claim7.holds Tryd.pinned (.plain (OpenSpec.upto fnExactKindOfSpec)) fnExactKindOfUptoCard

/-- THE SECOND FORM's CARD OF 'laws.FnExactWriteFile'. -/
def fnExactWriteFileUptoCard : Claim7 := { stood := { row := fnExactWriteFileUptoRow, standIns := [], harness := (true, "de39438dd935a1a4cf43234cbb1eb5435fc63d079fc4bc1a5855b4a7d22981c1"), looks := true }, kinds := [], alts := [], laidByText := true, laidKinds := [.data], laidTests := true, laidLooks := .later }
def FnExactWriteFileUptoCardSaid : Prop := Claim7.holds Tryd.pinned (.plain (OpenSpec.upto fnExactWriteFileSpec)) fnExactWriteFileUptoCard

/-- THE SECOND FORM's CARD OF 'laws.FnExactReadFile'. -/
def fnExactReadFileUptoCard : Claim7 := { stood := { row := fnExactReadFileUptoRow, standIns := [], harness := (true, "de39438dd935a1a4cf43234cbb1eb5435fc63d079fc4bc1a5855b4a7d22981c1"), looks := true }, kinds := [], alts := [], laidByText := true, laidKinds := [.data], laidTests := true, laidLooks := .later }
def FnExactReadFileUptoCardSaid : Prop := Claim7.holds Tryd.pinned (.plain (OpenSpec.upto fnExactReadFileSpec)) fnExactReadFileUptoCard

/-- THE SECOND FORM's CARD OF 'laws.FnExactAnonymous'. -/
def fnExactAnonymousUptoCard : Claim7 := { stood := { row := fnExactAnonymousUptoRow, standIns := [], harness := (true, "de39438dd935a1a4cf43234cbb1eb5435fc63d079fc4bc1a5855b4a7d22981c1"), looks := true }, kinds := [], alts := [], laidByText := true, laidKinds := [.data, .data, .data], laidTests := true, laidLooks := .later }
def FnExactAnonymousUptoCardSaid : Prop := Claim7.holds Tryd.pinned (.plain (OpenSpec.upto fnExactAnonymousSpec)) fnExactAnonymousUptoCard
end Rows
end Go.Proofs.YteadhhhhnihoaaaDoor
