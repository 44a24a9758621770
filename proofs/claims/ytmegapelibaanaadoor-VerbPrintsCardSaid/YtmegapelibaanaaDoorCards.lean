/-
  DERIVED. GIVEN WITH THE SEED: THE CARDS: each row of YtmegapelibaanaaDoorRows.lean that lists a variable, with what it lists TIED to the program's text (the seventh form; the later family's looks); each row that meets fmt, with fmt's text TOLD by the authors' own Lean function (tested against real Go, not proved from fmt's source: count such statements apart). THE CARD IS WHAT COUNTS. Prove the row's statement (the work); the ties are given (YtmegapelibaanaaDoorTie.lean); close each card by the builder's one call (the guide's Derived/Test/ToyasCard.lean, 'card_holds'). Laid BY PROGRAM, IN A SANDBOX (cutbox-door.mjs). By AI agents, Wed Nov 11 2026. No macro, syntax, notation, axiom, sorry.
-/
import Derived.Test.YtmegapelibaanaaDoorRows
import GoSem.ClaimSeven
namespace Go.Proofs.YtmegapelibaanaaDoor
namespace Rows

/-- THE TIED CARD OF 'jitneylaw27.VerbPrints'. -/
def verbPrintsCard : Claim7 := { stood := { row := verbPrintsRow, standIns := [], harness := (true, "01bd7b11078370d27964470dd2bdd6849a167963f531203c638c752e50bce4f1"), looks := false }, kinds := [], alts := [], laidByText := true, laidKinds := [.data, .data, .data, .data, .data, .data, .pinned], laidTests := true, laidLooks := .later }
def VerbPrintsCardSaid : Prop := Claim7.holds Tryd.pinned (.plain (OpenSpec.ofChange verbPrintsSpec)) verbPrintsCard

/-- THE TIED CARD OF 'jitneylaw27.VerbNames'. -/
def verbNamesCard : Claim7 := { stood := { row := verbNamesRow, standIns := [], harness := (true, "01bd7b11078370d27964470dd2bdd6849a167963f531203c638c752e50bce4f1"), looks := false }, kinds := [], alts := [], laidByText := true, laidKinds := [.data, .data, .data, .data, .data, .data, .pinned], laidTests := true, laidLooks := .later }
def VerbNamesCardSaid : Prop := Claim7.holds Tryd.pinned (.plain (OpenSpec.ofChange verbNamesSpec)) verbNamesCard

/-- THE SECOND FORM's CARD OF 'jitneylaw27.VerbPrints'. -/
def verbPrintsUptoCard : Claim7 := { stood := { row := verbPrintsUptoRow, standIns := [], harness := (true, "01bd7b11078370d27964470dd2bdd6849a167963f531203c638c752e50bce4f1"), looks := false }, kinds := [], alts := [], laidByText := true, laidKinds := [.data, .data, .data, .data, .data, .data, .pinned], laidTests := true, laidLooks := .later }
def VerbPrintsUptoCardSaid : Prop := Claim7.holds Tryd.pinned (.plain (OpenSpec.upto verbPrintsSpec)) verbPrintsUptoCard

/-- THE SECOND FORM's CARD OF 'jitneylaw27.VerbNames'. -/
def verbNamesUptoCard : Claim7 := { stood := { row := verbNamesUptoRow, standIns := [], harness := (true, "01bd7b11078370d27964470dd2bdd6849a167963f531203c638c752e50bce4f1"), looks := false }, kinds := [], alts := [], laidByText := true, laidKinds := [.data, .data, .data, .data, .data, .data, .pinned], laidTests := true, laidLooks := .later }
def VerbNamesUptoCardSaid : Prop := Claim7.holds Tryd.pinned (.plain (OpenSpec.upto verbNamesSpec)) verbNamesUptoCard
end Rows
end Go.Proofs.YtmegapelibaanaaDoor
