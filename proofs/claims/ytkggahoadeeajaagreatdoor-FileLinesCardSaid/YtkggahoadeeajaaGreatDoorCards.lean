/-
  DERIVED. GIVEN WITH THE SEED: THE CARDS: each row of YtkggahoadeeajaaGreatDoorRows.lean that lists a variable, with what it lists TIED to the program's text (the seventh form; the later family's looks); each row that meets fmt, with fmt's text TOLD by the authors' own Lean function (tested against real Go, not proved from fmt's source: count such statements apart). THE CARD IS WHAT COUNTS. Prove the row's statement (the work); the ties are given (YtkggahoadeeajaaGreatDoorTie.lean); close each card by the builder's one call (the guide's Derived/Test/ToyasCard.lean, 'card_holds'). Laid BY PROGRAM, IN A SANDBOX (cutbox-door.mjs). By AI agents, Wed Nov 11 2026. No macro, syntax, notation, axiom, sorry.
-/
import Derived.Test.YtkggahoadeeajaaGreatDoorRows
import GoSem.ClaimSeven
namespace Go.Proofs.YtkggahoadeeajaaGreatDoor
namespace Rows

/-- THE TIED CARD OF 'jitneylaw23.FileParses'. -/
def fileParsesCard : Claim7 := { stood := { row := fileParsesRow, standIns := [], harness := (true, "5ee6980c4ec979d154f46913f24c346335a02c1638dc32d2c491f41a7caa7112"), looks := true }, kinds := [], alts := [], laidByText := true, laidKinds := [.data, .data, .data, .data, .pinned], laidTests := true, laidLooks := .later }
def FileParsesCardSaid : Prop := Claim7.holds Tryz.pinned (.plain (OpenSpec.ofChange fileParsesSpec)) fileParsesCard

/-- THE TIED CARD OF 'jitneylaw23.FilePrints'. -/
def filePrintsCard : Claim7 := { stood := { row := filePrintsRow, standIns := [], harness := (true, "5ee6980c4ec979d154f46913f24c346335a02c1638dc32d2c491f41a7caa7112"), looks := true }, kinds := [], alts := [], laidByText := true, laidKinds := [.data, .data, .data, .data, .pinned], laidTests := true, laidLooks := .later }
def FilePrintsCardSaid : Prop := Claim7.holds Tryz.pinned (.plain (OpenSpec.ofChange filePrintsSpec)) filePrintsCard

/-- THE TIED CARD OF 'jitneylaw23.FileBack'. -/
def fileBackCard : Claim7 := { stood := { row := fileBackRow, standIns := [], harness := (true, "5ee6980c4ec979d154f46913f24c346335a02c1638dc32d2c491f41a7caa7112"), looks := true }, kinds := [], alts := [], laidByText := true, laidKinds := [.data, .data, .data, .data, .pinned], laidTests := true, laidLooks := .later }
def FileBackCardSaid : Prop := Claim7.holds Tryz.pinned (.plain (OpenSpec.ofChange fileBackSpec)) fileBackCard

/-- THE TIED CARD OF 'jitneylaw23.FileTurns'. -/
def fileTurnsCard : Claim7 := { stood := { row := fileTurnsRow, standIns := [], harness := (true, "5ee6980c4ec979d154f46913f24c346335a02c1638dc32d2c491f41a7caa7112"), looks := true }, kinds := [], alts := [], laidByText := true, laidKinds := [.data, .data, .data, .data, .pinned], laidTests := true, laidLooks := .later }
def FileTurnsCardSaid : Prop := Claim7.holds Tryz.pinned (.plain (OpenSpec.ofChange fileTurnsSpec)) fileTurnsCard

/-- THE TIED CARD OF 'jitneylaw23.FileLines'. -/
def fileLinesCard : Claim7 := { stood := { row := fileLinesRow, standIns := [], harness := (true, "5ee6980c4ec979d154f46913f24c346335a02c1638dc32d2c491f41a7caa7112"), looks := true }, kinds := [], alts := [], laidByText := true, laidKinds := [.data, .data, .data, .data, .pinned], laidTests := true, laidLooks := .later }
def FileLinesCardSaid : Prop := Claim7.holds Tryz.pinned (.plain (OpenSpec.ofChange fileLinesSpec)) fileLinesCard

/-- THE SECOND FORM's CARD OF 'jitneylaw23.FileParses'. -/
def fileParsesUptoCard : Claim7 := { stood := { row := fileParsesUptoRow, standIns := [], harness := (true, "5ee6980c4ec979d154f46913f24c346335a02c1638dc32d2c491f41a7caa7112"), looks := true }, kinds := [], alts := [], laidByText := true, laidKinds := [.data, .data, .data, .data, .pinned], laidTests := true, laidLooks := .later }
def FileParsesUptoCardSaid : Prop := Claim7.holds Tryz.pinned (.plain (OpenSpec.upto fileParsesSpec)) fileParsesUptoCard

/-- THE SECOND FORM's CARD OF 'jitneylaw23.FilePrints'. -/
def filePrintsUptoCard : Claim7 := { stood := { row := filePrintsUptoRow, standIns := [], harness := (true, "5ee6980c4ec979d154f46913f24c346335a02c1638dc32d2c491f41a7caa7112"), looks := true }, kinds := [], alts := [], laidByText := true, laidKinds := [.data, .data, .data, .data, .pinned], laidTests := true, laidLooks := .later }
def FilePrintsUptoCardSaid : Prop := Claim7.holds Tryz.pinned (.plain (OpenSpec.upto filePrintsSpec)) filePrintsUptoCard

/-- THE SECOND FORM's CARD OF 'jitneylaw23.FileBack'. -/
def fileBackUptoCard : Claim7 := { stood := { row := fileBackUptoRow, standIns := [], harness := (true, "5ee6980c4ec979d154f46913f24c346335a02c1638dc32d2c491f41a7caa7112"), looks := true }, kinds := [], alts := [], laidByText := true, laidKinds := [.data, .data, .data, .data, .pinned], laidTests := true, laidLooks := .later }
def FileBackUptoCardSaid : Prop := Claim7.holds Tryz.pinned (.plain (OpenSpec.upto fileBackSpec)) fileBackUptoCard

/-- THE SECOND FORM's CARD OF 'jitneylaw23.FileTurns'. -/
def fileTurnsUptoCard : Claim7 := { stood := { row := fileTurnsUptoRow, standIns := [], harness := (true, "5ee6980c4ec979d154f46913f24c346335a02c1638dc32d2c491f41a7caa7112"), looks := true }, kinds := [], alts := [], laidByText := true, laidKinds := [.data, .data, .data, .data, .pinned], laidTests := true, laidLooks := .later }
def FileTurnsUptoCardSaid : Prop := Claim7.holds Tryz.pinned (.plain (OpenSpec.upto fileTurnsSpec)) fileTurnsUptoCard

/-- THE SECOND FORM's CARD OF 'jitneylaw23.FileLines'. -/
def fileLinesUptoCard : Claim7 := { stood := { row := fileLinesUptoRow, standIns := [], harness := (true, "5ee6980c4ec979d154f46913f24c346335a02c1638dc32d2c491f41a7caa7112"), looks := true }, kinds := [], alts := [], laidByText := true, laidKinds := [.data, .data, .data, .data, .pinned], laidTests := true, laidLooks := .later }
def FileLinesUptoCardSaid : Prop := Claim7.holds Tryz.pinned (.plain (OpenSpec.upto fileLinesSpec)) fileLinesUptoCard
end Rows
end Go.Proofs.YtkggahoadeeajaaGreatDoor
