/-
  DERIVED. GIVEN WITH THE SEED: THE CARDS: each row of YtaicckenpplceaaGreatDoorRows.lean that lists a variable, with what it lists TIED to the program's text (the seventh form; the later family's looks); each row that meets fmt, with fmt's text TOLD by the authors' own Lean function (tested against real Go, not proved from fmt's source: count such statements apart). THE CARD IS WHAT COUNTS. Prove the row's statement (the work); the ties are given (YtaicckenpplceaaGreatDoorTie.lean); close each card by the builder's one call (the guide's Derived/Test/ToyasCard.lean, 'card_holds'). Laid BY PROGRAM, IN A SANDBOX (cutbox-door.mjs). By AI agents, Wed Nov 11 2026. No macro, syntax, notation, axiom, sorry.
-/
import Derived.Test.YtaicckenpplceaaGreatDoorRows
import GoSem.ClaimSeven
namespace Go.Proofs.YtaicckenpplceaaGreatDoor
namespace Rows

/-- THE TIED CARD OF 'mosaiclaw11.RecutJoins'. -/
def recutJoinsCard : Claim7 := { stood := { row := recutJoinsRow, standIns := [], harness := (true, "9c60d8faaab71e26ee97b518f5073625aee7d0f97ead1fc5cf58cca428d0a553"), looks := false }, kinds := [], alts := [], laidByText := true, laidKinds := [.data], laidTests := true, laidLooks := .later }
def RecutJoinsCardSaid : Prop := Claim7.holds Tryz.pinned (.plain (OpenSpec.ofChange recutJoinsSpec)) recutJoinsCard

/-- THE SECOND FORM's CARD OF 'mosaiclaw11.RecutJoins'. -/
def recutJoinsUptoCard : Claim7 := { stood := { row := recutJoinsUptoRow, standIns := [], harness := (true, "9c60d8faaab71e26ee97b518f5073625aee7d0f97ead1fc5cf58cca428d0a553"), looks := false }, kinds := [], alts := [], laidByText := true, laidKinds := [.data], laidTests := true, laidLooks := .later }
def RecutJoinsUptoCardSaid : Prop := Claim7.holds Tryz.pinned (.plain (OpenSpec.upto recutJoinsSpec)) recutJoinsUptoCard
end Rows
end Go.Proofs.YtaicckenpplceaaGreatDoor
