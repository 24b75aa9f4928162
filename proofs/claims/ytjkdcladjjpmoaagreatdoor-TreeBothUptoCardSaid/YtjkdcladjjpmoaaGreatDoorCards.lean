/-
  DERIVED. GIVEN WITH THE SEED: THE CARDS: each row of YtjkdcladjjpmoaaGreatDoorRows.lean that lists a variable, with what it lists TIED to the program's text (the seventh form; the later family's looks); each row that meets fmt, with fmt's text TOLD by the authors' own Lean function (tested against real Go, not proved from fmt's source: count such statements apart). THE CARD IS WHAT COUNTS. Prove the row's statement (the work); the ties are given (YtjkdcladjjpmoaaGreatDoorTie.lean); close each card by the builder's one call (the guide's Derived/Test/ToyasCard.lean, 'card_holds'). Laid BY PROGRAM, IN A SANDBOX (cutbox-door.mjs). By AI agents, Wed Nov 11 2026. No macro, syntax, notation, axiom, sorry.
-/
import Derived.Test.YtjkdcladjjpmoaaGreatDoorRows
import GoSem.ClaimSeven
namespace Go.Proofs.YtjkdcladjjpmoaaGreatDoor
namespace Rows

/-- THE TIED CARD OF 'lienbooklaw02.TreePrints'. -/
def treePrintsCard : Claim7 := { stood := { row := treePrintsRow, standIns := [], harness := (true, "ae0e90f5f913e6a1bd34bdd9cd1b56a62233ea4e40c1475346fa5f47a09ea3b8"), looks := true }, kinds := [], alts := [], laidByText := true, laidKinds := [.data, .data, .data, .data, .handle, .pinned], laidTests := true, laidLooks := .later }
def TreePrintsCardSaid : Prop := Claim7.holds Tryz.pinned (.plain (OpenSpec.ofChange treePrintsSpec)) treePrintsCard

/-- THE TIED CARD OF 'lienbooklaw02.TreeBoth'. -/
def treeBothCard : Claim7 := { stood := { row := treeBothRow, standIns := [], harness := (true, "ae0e90f5f913e6a1bd34bdd9cd1b56a62233ea4e40c1475346fa5f47a09ea3b8"), looks := true }, kinds := [], alts := [], laidByText := true, laidKinds := [.data, .data, .data, .data, .handle, .pinned], laidTests := true, laidLooks := .later }
def TreeBothCardSaid : Prop := Claim7.holds Tryz.pinned (.plain (OpenSpec.ofChange treeBothSpec)) treeBothCard

/-- THE TIED CARD OF 'lienbooklaw03.ParseTells'. -/
def parseTellsCard : Claim7 := { stood := { row := parseTellsRow, standIns := [], harness := (true, "ae0e90f5f913e6a1bd34bdd9cd1b56a62233ea4e40c1475346fa5f47a09ea3b8"), looks := true }, kinds := [], alts := [], laidByText := true, laidKinds := [.data, .data, .data, .data, .handle, .sentinel, .sentinel, .pinned], laidTests := true, laidLooks := .later }
def ParseTellsCardSaid : Prop := Claim7.holds Tryz.pinned (.plain (OpenSpec.ofChange parseTellsSpec)) parseTellsCard

/-- THE TIED CARD OF 'lienbooklaw03.ParseBack'. -/
def parseBackCard : Claim7 := { stood := { row := parseBackRow, standIns := [], harness := (true, "ae0e90f5f913e6a1bd34bdd9cd1b56a62233ea4e40c1475346fa5f47a09ea3b8"), looks := true }, kinds := [], alts := [], laidByText := true, laidKinds := [.data, .data, .data, .data, .handle, .sentinel, .sentinel, .pinned], laidTests := true, laidLooks := .later }
def ParseBackCardSaid : Prop := Claim7.holds Tryz.pinned (.plain (OpenSpec.ofChange parseBackSpec)) parseBackCard

/-- THE TIED CARD OF 'lienbooklaw03.ParseBlank'. -/
def parseBlankCard : Claim7 := { stood := { row := parseBlankRow, standIns := [], harness := (true, "ae0e90f5f913e6a1bd34bdd9cd1b56a62233ea4e40c1475346fa5f47a09ea3b8"), looks := true }, kinds := [], alts := [], laidByText := true, laidKinds := [.data, .data, .data, .data, .handle, .sentinel, .sentinel, .pinned], laidTests := true, laidLooks := .later }
def ParseBlankCardSaid : Prop := Claim7.holds Tryz.pinned (.plain (OpenSpec.ofChange parseBlankSpec)) parseBlankCard

/-- THE TIED CARD OF 'lienbooklaw04.NamesChecks'. -/
def namesChecksCard : Claim7 := { stood := { row := namesChecksRow, standIns := [], harness := (true, "ae0e90f5f913e6a1bd34bdd9cd1b56a62233ea4e40c1475346fa5f47a09ea3b8"), looks := true }, kinds := [], alts := [], laidByText := true, laidKinds := [.data, .handle, .pinned], laidTests := true, laidLooks := .later }
def NamesChecksCardSaid : Prop := Claim7.holds Tryz.pinned (.plain (OpenSpec.ofChange namesChecksSpec)) namesChecksCard

/-- THE TIED CARD OF 'lienbooklaw04.NamesWhole'. -/
def namesWholeCard : Claim7 := { stood := { row := namesWholeRow, standIns := [], harness := (true, "ae0e90f5f913e6a1bd34bdd9cd1b56a62233ea4e40c1475346fa5f47a09ea3b8"), looks := true }, kinds := [], alts := [], laidByText := true, laidKinds := [.data, .handle, .pinned], laidTests := true, laidLooks := .later }
def NamesWholeCardSaid : Prop := Claim7.holds Tryz.pinned (.plain (OpenSpec.ofChange namesWholeSpec)) namesWholeCard

/-- THE TIED CARD OF 'lienbooklaw04.NamesMore'. -/
def namesMoreCard : Claim7 := { stood := { row := namesMoreRow, standIns := [], harness := (true, "ae0e90f5f913e6a1bd34bdd9cd1b56a62233ea4e40c1475346fa5f47a09ea3b8"), looks := true }, kinds := [], alts := [], laidByText := true, laidKinds := [.data, .handle, .pinned], laidTests := true, laidLooks := .later }
def NamesMoreCardSaid : Prop := Claim7.holds Tryz.pinned (.plain (OpenSpec.ofChange namesMoreSpec)) namesMoreCard

/-- THE SECOND FORM's CARD OF 'lienbooklaw02.TreePrints'. -/
def treePrintsUptoCard : Claim7 := { stood := { row := treePrintsUptoRow, standIns := [], harness := (true, "ae0e90f5f913e6a1bd34bdd9cd1b56a62233ea4e40c1475346fa5f47a09ea3b8"), looks := true }, kinds := [], alts := [], laidByText := true, laidKinds := [.data, .data, .data, .data, .handle, .pinned], laidTests := true, laidLooks := .later }
def TreePrintsUptoCardSaid : Prop := Claim7.holds Tryz.pinned (.plain (OpenSpec.upto treePrintsSpec)) treePrintsUptoCard

/-- THE SECOND FORM's CARD OF 'lienbooklaw02.TreeBoth'. -/
def treeBothUptoCard : Claim7 := { stood := { row := treeBothUptoRow, standIns := [], harness := (true, "ae0e90f5f913e6a1bd34bdd9cd1b56a62233ea4e40c1475346fa5f47a09ea3b8"), looks := true }, kinds := [], alts := [], laidByText := true, laidKinds := [.data, .data, .data, .data, .handle, .pinned], laidTests := true, laidLooks := .later }
def TreeBothUptoCardSaid : Prop := Claim7.holds Tryz.pinned (.plain (OpenSpec.upto treeBothSpec)) treeBothUptoCard

/-- THE SECOND FORM's CARD OF 'lienbooklaw03.ParseTells'. -/
def parseTellsUptoCard : Claim7 := { stood := { row := parseTellsUptoRow, standIns := [], harness := (true, "ae0e90f5f913e6a1bd34bdd9cd1b56a62233ea4e40c1475346fa5f47a09ea3b8"), looks := true }, kinds := [], alts := [], laidByText := true, laidKinds := [.data, .data, .data, .data, .handle, .sentinel, .sentinel, .pinned], laidTests := true, laidLooks := .later }
def ParseTellsUptoCardSaid : Prop := Claim7.holds Tryz.pinned (.plain (OpenSpec.upto parseTellsSpec)) parseTellsUptoCard

/-- THE SECOND FORM's CARD OF 'lienbooklaw03.ParseBack'. -/
def parseBackUptoCard : Claim7 := { stood := { row := parseBackUptoRow, standIns := [], harness := (true, "ae0e90f5f913e6a1bd34bdd9cd1b56a62233ea4e40c1475346fa5f47a09ea3b8"), looks := true }, kinds := [], alts := [], laidByText := true, laidKinds := [.data, .data, .data, .data, .handle, .sentinel, .sentinel, .pinned], laidTests := true, laidLooks := .later }
def ParseBackUptoCardSaid : Prop := Claim7.holds Tryz.pinned (.plain (OpenSpec.upto parseBackSpec)) parseBackUptoCard

/-- THE SECOND FORM's CARD OF 'lienbooklaw03.ParseBlank'. -/
def parseBlankUptoCard : Claim7 := { stood := { row := parseBlankUptoRow, standIns := [], harness := (true, "ae0e90f5f913e6a1bd34bdd9cd1b56a62233ea4e40c1475346fa5f47a09ea3b8"), looks := true }, kinds := [], alts := [], laidByText := true, laidKinds := [.data, .data, .data, .data, .handle, .sentinel, .sentinel, .pinned], laidTests := true, laidLooks := .later }
def ParseBlankUptoCardSaid : Prop := Claim7.holds Tryz.pinned (.plain (OpenSpec.upto parseBlankSpec)) parseBlankUptoCard

/-- THE SECOND FORM's CARD OF 'lienbooklaw04.NamesChecks'. -/
def namesChecksUptoCard : Claim7 := { stood := { row := namesChecksUptoRow, standIns := [], harness := (true, "ae0e90f5f913e6a1bd34bdd9cd1b56a62233ea4e40c1475346fa5f47a09ea3b8"), looks := true }, kinds := [], alts := [], laidByText := true, laidKinds := [.data, .handle, .pinned], laidTests := true, laidLooks := .later }
def NamesChecksUptoCardSaid : Prop := Claim7.holds Tryz.pinned (.plain (OpenSpec.upto namesChecksSpec)) namesChecksUptoCard

/-- THE SECOND FORM's CARD OF 'lienbooklaw04.NamesWhole'. -/
def namesWholeUptoCard : Claim7 := { stood := { row := namesWholeUptoRow, standIns := [], harness := (true, "ae0e90f5f913e6a1bd34bdd9cd1b56a62233ea4e40c1475346fa5f47a09ea3b8"), looks := true }, kinds := [], alts := [], laidByText := true, laidKinds := [.data, .handle, .pinned], laidTests := true, laidLooks := .later }
def NamesWholeUptoCardSaid : Prop := Claim7.holds Tryz.pinned (.plain (OpenSpec.upto namesWholeSpec)) namesWholeUptoCard

/-- THE SECOND FORM's CARD OF 'lienbooklaw04.NamesMore'. -/
def namesMoreUptoCard : Claim7 := { stood := { row := namesMoreUptoRow, standIns := [], harness := (true, "ae0e90f5f913e6a1bd34bdd9cd1b56a62233ea4e40c1475346fa5f47a09ea3b8"), looks := true }, kinds := [], alts := [], laidByText := true, laidKinds := [.data, .handle, .pinned], laidTests := true, laidLooks := .later }
def NamesMoreUptoCardSaid : Prop := Claim7.holds Tryz.pinned (.plain (OpenSpec.upto namesMoreSpec)) namesMoreUptoCard
end Rows
end Go.Proofs.YtjkdcladjjpmoaaGreatDoor
