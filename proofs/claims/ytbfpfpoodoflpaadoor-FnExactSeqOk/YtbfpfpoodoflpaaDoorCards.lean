/-
  DERIVED. GIVEN WITH THE SEED: THE CARDS: each row of YtbfpfpoodoflpaaDoorRows.lean that lists a variable, with what it lists TIED to the program's text (the seventh form; the later family's looks); each row that meets fmt, with fmt's text TOLD by the authors' own Lean function (tested against real Go, not proved from fmt's source: count such statements apart). THE CARD IS WHAT COUNTS. Prove the row's statement (the work); the ties are given (YtbfpfpoodoflpaaDoorTie.lean); close each card by the builder's one call (the guide's Derived/Test/ToyasCard.lean, 'card_holds'). Laid BY PROGRAM, IN A SANDBOX (cutbox-door.mjs). By AI agents, Wed Nov 11 2026. No macro, syntax, notation, axiom, sorry.
-/
import Derived.Test.YtbfpfpoodoflpaaDoorRows
import GoSem.ClaimSeven
namespace Go.Proofs.YtbfpfpoodoflpaaDoor
namespace Rows

/-- THE TIED CARD OF 'laws.FnLoopTimes'. -/
def fnLoopTimesCard : Claim7 := { stood := { row := fnLoopTimesRow, standIns := [], harness := (true, "e94e1b3c5e954d0e2cf84277d22702afffcd856e1e714435ac4ec7d9cdd17368"), looks := true }, kinds := [], alts := [], laidByText := true, laidKinds := [.data], laidTests := true, laidLooks := .later }
def FnLoopTimesCardSaid : Prop := Claim7.holds Tryd.pinned (.plain (OpenSpec.ofChange fnLoopTimesSpec)) fnLoopTimesCard

/-- THE TIED CARD OF 'laws.FnRaster'. -/
def fnRasterCard : Claim7 := { stood := { row := fnRasterRow, standIns := [], harness := (true, "e94e1b3c5e954d0e2cf84277d22702afffcd856e1e714435ac4ec7d9cdd17368"), looks := true }, kinds := [], alts := [], laidByText := true, laidKinds := [.data], laidTests := true, laidLooks := .later }
def FnRasterCardSaid : Prop := Claim7.holds Tryd.pinned (.plain (OpenSpec.ofChange fnRasterSpec)) fnRasterCard

/-- THE TIED CARD OF 'laws.FnExactPulseOk'. -/
def fnExactPulseOkCard : Claim7 := { stood := { row := fnExactPulseOkRow, standIns := [], harness := (true, "e94e1b3c5e954d0e2cf84277d22702afffcd856e1e714435ac4ec7d9cdd17368"), looks := true }, kinds := [], alts := [], laidByText := true, laidKinds := [.data], laidTests := true, laidLooks := .later }
def FnExactPulseOkCardSaid : Prop := Claim7.holds Tryd.pinned (.plain (OpenSpec.ofChange fnExactPulseOkSpec)) fnExactPulseOkCard

/-- THE TIED CARD OF 'laws.FnExactParseSeq'. -/
def fnExactParseSeqCard : Claim7 := { stood := { row := fnExactParseSeqRow, standIns := [], harness := (true, "e94e1b3c5e954d0e2cf84277d22702afffcd856e1e714435ac4ec7d9cdd17368"), looks := true }, kinds := [], alts := [], laidByText := true, laidKinds := [.data, .data, .data, .data, .sentinel, .sentinel, .data, .pinned], laidTests := true, laidLooks := .later }
def FnExactParseSeqCardSaid : Prop := Claim7.holds Tryd.pinned (.plain (OpenSpec.ofChange fnExactParseSeqSpec)) fnExactParseSeqCard

/-- THE TIED CARD OF 'laws.FnExactSeqOk'. -/
def fnExactSeqOkCard : Claim7 := { stood := { row := fnExactSeqOkRow, standIns := [], harness := (true, "e94e1b3c5e954d0e2cf84277d22702afffcd856e1e714435ac4ec7d9cdd17368"), looks := true }, kinds := [], alts := [], laidByText := true, laidKinds := [.data], laidTests := true, laidLooks := .later }
def FnExactSeqOkCardSaid : Prop := Claim7.holds Tryd.pinned (.plain (OpenSpec.ofChange fnExactSeqOkSpec)) fnExactSeqOkCard

/-- THE TIED CARD OF 'laws.FnExactShowSeq'. -/
def fnExactShowSeqCard : Claim7 := { stood := { row := fnExactShowSeqRow, standIns := [], harness := (true, "e94e1b3c5e954d0e2cf84277d22702afffcd856e1e714435ac4ec7d9cdd17368"), looks := true }, kinds := [], alts := [], laidByText := true, laidKinds := [.data, .data, .data, .data], laidTests := true, laidLooks := .later }
def FnExactShowSeqCardSaid : Prop := Claim7.holds Tryd.pinned (.plain (OpenSpec.ofChange fnExactShowSeqSpec)) fnExactShowSeqCard

/-- THE TIED CARD OF 'laws.FnExactUnroll'. -/
def fnExactUnrollCard : Claim7 := { stood := { row := fnExactUnrollRow, standIns := [], harness := (true, "e94e1b3c5e954d0e2cf84277d22702afffcd856e1e714435ac4ec7d9cdd17368"), looks := true }, kinds := [], alts := [], laidByText := true, laidKinds := [.data], laidTests := true, laidLooks := .later }
def FnExactUnrollCardSaid : Prop := Claim7.holds Tryd.pinned (.plain (OpenSpec.ofChange fnExactUnrollSpec)) fnExactUnrollCard

/-- THE TIED CARD OF 'laws.FnExactPath'. -/
def fnExactPathCard : Claim7 := { stood := { row := fnExactPathRow, standIns := [], harness := (true, "e94e1b3c5e954d0e2cf84277d22702afffcd856e1e714435ac4ec7d9cdd17368"), looks := true }, kinds := [], alts := [], laidByText := true, laidKinds := [.data], laidTests := true, laidLooks := .later }
def FnExactPathCardSaid : Prop := Claim7.holds Tryd.pinned (.plain (OpenSpec.ofChange fnExactPathSpec)) fnExactPathCard

/-- THE SECOND FORM's CARD OF 'laws.FnLoopTimes'. -/
def fnLoopTimesUptoCard : Claim7 := { stood := { row := fnLoopTimesUptoRow, standIns := [], harness := (true, "e94e1b3c5e954d0e2cf84277d22702afffcd856e1e714435ac4ec7d9cdd17368"), looks := true }, kinds := [], alts := [], laidByText := true, laidKinds := [.data], laidTests := true, laidLooks := .later }
def FnLoopTimesUptoCardSaid : Prop := Claim7.holds Tryd.pinned (.plain (OpenSpec.upto fnLoopTimesSpec)) fnLoopTimesUptoCard

/-- THE SECOND FORM's CARD OF 'laws.FnRaster'. -/
def fnRasterUptoCard : Claim7 := { stood := { row := fnRasterUptoRow, standIns := [], harness := (true, "e94e1b3c5e954d0e2cf84277d22702afffcd856e1e714435ac4ec7d9cdd17368"), looks := true }, kinds := [], alts := [], laidByText := true, laidKinds := [.data], laidTests := true, laidLooks := .later }
def FnRasterUptoCardSaid : Prop := Claim7.holds Tryd.pinned (.plain (OpenSpec.upto fnRasterSpec)) fnRasterUptoCard

/-- THE SECOND FORM's CARD OF 'laws.FnExactPulseOk'. -/
def fnExactPulseOkUptoCard : Claim7 := { stood := { row := fnExactPulseOkUptoRow, standIns := [], harness := (true, "e94e1b3c5e954d0e2cf84277d22702afffcd856e1e714435ac4ec7d9cdd17368"), looks := true }, kinds := [], alts := [], laidByText := true, laidKinds := [.data], laidTests := true, laidLooks := .later }
def FnExactPulseOkUptoCardSaid : Prop := Claim7.holds Tryd.pinned (.plain (OpenSpec.upto fnExactPulseOkSpec)) fnExactPulseOkUptoCard

/-- THE SECOND FORM's CARD OF 'laws.FnExactParseSeq'. -/
def fnExactParseSeqUptoCard : Claim7 := { stood := { row := fnExactParseSeqUptoRow, standIns := [], harness := (true, "e94e1b3c5e954d0e2cf84277d22702afffcd856e1e714435ac4ec7d9cdd17368"), looks := true }, kinds := [], alts := [], laidByText := true, laidKinds := [.data, .data, .data, .data, .sentinel, .sentinel, .data, .pinned], laidTests := true, laidLooks := .later }
def FnExactParseSeqUptoCardSaid : Prop := Claim7.holds Tryd.pinned (.plain (OpenSpec.upto fnExactParseSeqSpec)) fnExactParseSeqUptoCard

/-- THE SECOND FORM's CARD OF 'laws.FnExactSeqOk'. -/
def fnExactSeqOkUptoCard : Claim7 := { stood := { row := fnExactSeqOkUptoRow, standIns := [], harness := (true, "e94e1b3c5e954d0e2cf84277d22702afffcd856e1e714435ac4ec7d9cdd17368"), looks := true }, kinds := [], alts := [], laidByText := true, laidKinds := [.data], laidTests := true, laidLooks := .later }
def FnExactSeqOkUptoCardSaid : Prop := Claim7.holds Tryd.pinned (.plain (OpenSpec.upto fnExactSeqOkSpec)) fnExactSeqOkUptoCard

/-- THE SECOND FORM's CARD OF 'laws.FnExactShowSeq'. -/
def fnExactShowSeqUptoCard : Claim7 := { stood := { row := fnExactShowSeqUptoRow, standIns := [], harness := (true, "e94e1b3c5e954d0e2cf84277d22702afffcd856e1e714435ac4ec7d9cdd17368"), looks := true }, kinds := [], alts := [], laidByText := true, laidKinds := [.data, .data, .data, .data], laidTests := true, laidLooks := .later }
def FnExactShowSeqUptoCardSaid : Prop := Claim7.holds Tryd.pinned (.plain (OpenSpec.upto fnExactShowSeqSpec)) fnExactShowSeqUptoCard

/-- THE SECOND FORM's CARD OF 'laws.FnExactUnroll'. -/
def fnExactUnrollUptoCard : Claim7 := { stood := { row := fnExactUnrollUptoRow, standIns := [], harness := (true, "e94e1b3c5e954d0e2cf84277d22702afffcd856e1e714435ac4ec7d9cdd17368"), looks := true }, kinds := [], alts := [], laidByText := true, laidKinds := [.data], laidTests := true, laidLooks := .later }
def FnExactUnrollUptoCardSaid : Prop := Claim7.holds Tryd.pinned (.plain (OpenSpec.upto fnExactUnrollSpec)) fnExactUnrollUptoCard

/-- THE SECOND FORM's CARD OF 'laws.FnExactPath'. -/
def fnExactPathUptoCard : Claim7 := { stood := { row := fnExactPathUptoRow, standIns := [], harness := (true, "e94e1b3c5e954d0e2cf84277d22702afffcd856e1e714435ac4ec7d9cdd17368"), looks := true }, kinds := [], alts := [], laidByText := true, laidKinds := [.data], laidTests := true, laidLooks := .later }
def FnExactPathUptoCardSaid : Prop := Claim7.holds Tryd.pinned (.plain (OpenSpec.upto fnExactPathSpec)) fnExactPathUptoCard
end Rows
end Go.Proofs.YtbfpfpoodoflpaaDoor
