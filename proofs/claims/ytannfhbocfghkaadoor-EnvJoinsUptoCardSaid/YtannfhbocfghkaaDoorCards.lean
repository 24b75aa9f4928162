/-
  DERIVED. GIVEN WITH THE SEED: THE CARDS: each row of YtannfhbocfghkaaDoorRows.lean that lists a variable, with what it lists TIED to the program's text (the seventh form; the later family's looks); each row that meets fmt, with fmt's text TOLD by the authors' own Lean function (tested against real Go, not proved from fmt's source: count such statements apart). THE CARD IS WHAT COUNTS. Prove the row's statement (the work); the ties are given (YtannfhbocfghkaaDoorTie.lean); close each card by the builder's one call (the guide's Derived/Test/ToyasCard.lean, 'card_holds'). Laid BY PROGRAM, IN A SANDBOX (cutbox-door.mjs). By AI agents, Wed Nov 11 2026. No macro, syntax, notation, axiom, sorry.
-/
import Derived.Test.YtannfhbocfghkaaDoorRows
import GoSem.ClaimSeven
namespace Go.Proofs.YtannfhbocfghkaaDoor
namespace Rows

/-- THE TIED CARD OF 'lienbooklaw05.EnvJoins'. -/
def envJoinsCard : Claim7 := { stood := { row := envJoinsRow, standIns := [], harness := (true, "5821404265f0e08a557ee0feef67d6e787ff2a82a0f8b697421f86905ec4ec1c"), looks := true }, kinds := [], alts := [], laidByText := true, laidKinds := [.handle], laidTests := true, laidLooks := .later }
def EnvJoinsCardSaid : Prop := Claim7.holds Tryd.pinned (.plain (OpenSpec.ofChange envJoinsSpec)) envJoinsCard

/-- THE SECOND FORM's CARD OF 'lienbooklaw05.EnvJoins'. -/
def envJoinsUptoCard : Claim7 := { stood := { row := envJoinsUptoRow, standIns := [], harness := (true, "5821404265f0e08a557ee0feef67d6e787ff2a82a0f8b697421f86905ec4ec1c"), looks := true }, kinds := [], alts := [], laidByText := true, laidKinds := [.handle], laidTests := true, laidLooks := .later }
def EnvJoinsUptoCardSaid : Prop := Claim7.holds Tryd.pinned (.plain (OpenSpec.upto envJoinsSpec)) envJoinsUptoCard
end Rows
end Go.Proofs.YtannfhbocfghkaaDoor
