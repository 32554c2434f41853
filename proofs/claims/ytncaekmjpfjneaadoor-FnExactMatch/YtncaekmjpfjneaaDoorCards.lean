/-
  DERIVED. GIVEN WITH THE SEED: THE CARDS: each row of YtncaekmjpfjneaaDoorRows.lean that lists a variable, with what it lists TIED to the program's text (the seventh form; the later family's looks); each row that meets fmt, with fmt's text TOLD by the authors' own Lean function (tested against real Go, not proved from fmt's source: count such statements apart). THE CARD IS WHAT COUNTS. Prove the row's statement (the work); the ties are given (YtncaekmjpfjneaaDoorTie.lean); close each card by the builder's one call (the guide's Derived/Test/ToyasCard.lean, 'card_holds'). Laid BY PROGRAM, IN A SANDBOX (cutbox-door.mjs). By AI agents, Wed Nov 11 2026. No macro, syntax, notation, axiom, sorry.
-/
import Derived.Test.YtncaekmjpfjneaaDoorRows
import GoSem.ClaimSeven
namespace Go.Proofs.YtncaekmjpfjneaaDoor
namespace Rows

/-- THE TIED CARD OF 'laws.FnExactFitCost'. -/
def fnExactFitCostCard : Claim7 := { stood := { row := fnExactFitCostRow, standIns := [], harness := (true, "9e4b2a51236657e6f1be2e61f2f957bcc02be56ed195fdd71a477ae48ce2a6f3"), looks := false }, kinds := [], alts := [], laidByText := true, laidKinds := [.data], laidTests := true, laidLooks := .later }
def FnExactFitCostCardSaid : Prop := Claim7.holds Tryd.pinned (.plain (OpenSpec.ofChange fnExactFitCostSpec)) fnExactFitCostCard

/-- THE TIED CARD OF 'laws.FnExactMatch'. -/
def fnExactMatchCard : Claim7 := { stood := { row := fnExactMatchRow, standIns := [], harness := (true, "9e4b2a51236657e6f1be2e61f2f957bcc02be56ed195fdd71a477ae48ce2a6f3"), looks := false }, kinds := [], alts := [], laidByText := true, laidKinds := [.data], laidTests := true, laidLooks := .later }
def FnExactMatchCardSaid : Prop := Claim7.holds Tryd.pinned (.plain (OpenSpec.ofChange fnExactMatchSpec)) fnExactMatchCard

/-- THE SECOND FORM's CARD OF 'laws.FnExactFitCost'. -/
def fnExactFitCostUptoCard : Claim7 := { stood := { row := fnExactFitCostUptoRow, standIns := [], harness := (true, "9e4b2a51236657e6f1be2e61f2f957bcc02be56ed195fdd71a477ae48ce2a6f3"), looks := false }, kinds := [], alts := [], laidByText := true, laidKinds := [.data], laidTests := true, laidLooks := .later }
def FnExactFitCostUptoCardSaid : Prop := Claim7.holds Tryd.pinned (.plain (OpenSpec.upto fnExactFitCostSpec)) fnExactFitCostUptoCard

/-- THE SECOND FORM's CARD OF 'laws.FnExactMatch'. -/
def fnExactMatchUptoCard : Claim7 := { stood := { row := fnExactMatchUptoRow, standIns := [], harness := (true, "9e4b2a51236657e6f1be2e61f2f957bcc02be56ed195fdd71a477ae48ce2a6f3"), looks := false }, kinds := [], alts := [], laidByText := true, laidKinds := [.data], laidTests := true, laidLooks := .later }
def FnExactMatchUptoCardSaid : Prop := Claim7.holds Tryd.pinned (.plain (OpenSpec.upto fnExactMatchSpec)) fnExactMatchUptoCard
end Rows
end Go.Proofs.YtncaekmjpfjneaaDoor
