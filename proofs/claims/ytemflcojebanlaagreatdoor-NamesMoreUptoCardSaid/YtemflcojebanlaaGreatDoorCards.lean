/-
  DERIVED. GIVEN WITH THE SEED: THE CARDS: each row of YtemflcojebanlaaGreatDoorRows.lean that lists a variable, with what it lists TIED to the program's text (the seventh form; the later family's looks); each row that meets fmt, with fmt's text TOLD by the authors' own Lean function (tested against real Go, not proved from fmt's source: count such statements apart). THE CARD IS WHAT COUNTS. Prove the row's statement (the work); the ties are given (YtemflcojebanlaaGreatDoorTie.lean); close each card by the builder's one call (the guide's Derived/Test/ToyasCard.lean, 'card_holds'). Laid BY PROGRAM, IN A SANDBOX (cutbox-door.mjs). By AI agents, Wed Nov 11 2026. No macro, syntax, notation, axiom, sorry.
-/
import Derived.Test.YtemflcojebanlaaGreatDoorRows
import GoSem.ClaimSeven
namespace Go.Proofs.YtemflcojebanlaaGreatDoor
namespace Rows

/-- THE TIED CARD OF 'lienbooklaw04.NamesChecks'. -/
def namesChecksCard : Claim7 := { stood := { row := namesChecksRow, standIns := [], harness := (true, "ad9f8ff3f070a0785f5199926dc55d8185094f2ee73c0a4e48d0eb99d5e75d8a"), looks := true }, kinds := [], alts := [], laidByText := true, laidKinds := [.data, .handle, .pinned], laidTests := true, laidLooks := .later }
def NamesChecksCardSaid : Prop := Claim7.holds Tryz.pinned (.plain (OpenSpec.ofChange namesChecksSpec)) namesChecksCard

/-- THE TIED CARD OF 'lienbooklaw04.NamesWhole'. -/
def namesWholeCard : Claim7 := { stood := { row := namesWholeRow, standIns := [], harness := (true, "ad9f8ff3f070a0785f5199926dc55d8185094f2ee73c0a4e48d0eb99d5e75d8a"), looks := true }, kinds := [], alts := [], laidByText := true, laidKinds := [.data, .handle, .pinned], laidTests := true, laidLooks := .later }
def NamesWholeCardSaid : Prop := Claim7.holds Tryz.pinned (.plain (OpenSpec.ofChange namesWholeSpec)) namesWholeCard

/-- THE TIED CARD OF 'lienbooklaw04.NamesMore'. -/
def namesMoreCard : Claim7 := { stood := { row := namesMoreRow, standIns := [], harness := (true, "ad9f8ff3f070a0785f5199926dc55d8185094f2ee73c0a4e48d0eb99d5e75d8a"), looks := true }, kinds := [], alts := [], laidByText := true, laidKinds := [.data, .handle, .pinned], laidTests := true, laidLooks := .later }
def NamesMoreCardSaid : Prop := Claim7.holds Tryz.pinned (.plain (OpenSpec.ofChange namesMoreSpec)) namesMoreCard

/-- THE SECOND FORM's CARD OF 'lienbooklaw04.NamesChecks'. -/
def namesChecksUptoCard : Claim7 := { stood := { row := namesChecksUptoRow, standIns := [], harness := (true, "ad9f8ff3f070a0785f5199926dc55d8185094f2ee73c0a4e48d0eb99d5e75d8a"), looks := true }, kinds := [], alts := [], laidByText := true, laidKinds := [.data, .handle, .pinned], laidTests := true, laidLooks := .later }
def NamesChecksUptoCardSaid : Prop := Claim7.holds Tryz.pinned (.plain (OpenSpec.upto namesChecksSpec)) namesChecksUptoCard

/-- THE SECOND FORM's CARD OF 'lienbooklaw04.NamesWhole'. -/
def namesWholeUptoCard : Claim7 := { stood := { row := namesWholeUptoRow, standIns := [], harness := (true, "ad9f8ff3f070a0785f5199926dc55d8185094f2ee73c0a4e48d0eb99d5e75d8a"), looks := true }, kinds := [], alts := [], laidByText := true, laidKinds := [.data, .handle, .pinned], laidTests := true, laidLooks := .later }
def NamesWholeUptoCardSaid : Prop := Claim7.holds Tryz.pinned (.plain (OpenSpec.upto namesWholeSpec)) namesWholeUptoCard

/-- THE SECOND FORM's CARD OF 'lienbooklaw04.NamesMore'. -/
def namesMoreUptoCard : Claim7 := { stood := { row := namesMoreUptoRow, standIns := [], harness := (true, "ad9f8ff3f070a0785f5199926dc55d8185094f2ee73c0a4e48d0eb99d5e75d8a"), looks := true }, kinds := [], alts := [], laidByText := true, laidKinds := [.data, .handle, .pinned], laidTests := true, laidLooks := .later }
def NamesMoreUptoCardSaid : Prop := Claim7.holds Tryz.pinned (.plain (OpenSpec.upto namesMoreSpec)) namesMoreUptoCard
end Rows
end Go.Proofs.YtemflcojebanlaaGreatDoor
