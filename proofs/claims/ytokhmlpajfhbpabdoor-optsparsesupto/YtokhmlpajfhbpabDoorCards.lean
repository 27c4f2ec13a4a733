/-
  DERIVED. GIVEN WITH THE SEED: THE CARDS: each row of YtokhmlpajfhbpabDoorRows.lean that lists a variable, with what it lists TIED to the program's text (the seventh form; the later family's looks); each row that meets fmt, with fmt's text TOLD by the authors' own Lean function (tested against real Go, not proved from fmt's source: count such statements apart). THE CARD IS WHAT COUNTS. Prove the row's statement (the work); the ties are given (YtokhmlpajfhbpabDoorTie.lean); close each card by the builder's one call (the guide's Derived/Test/ToyasCard.lean, 'card_holds'). Laid BY PROGRAM, IN A SANDBOX (cutbox-door.mjs). By AI agents, Wed Nov 11 2026. No macro, syntax, notation, axiom, sorry.
-/
import Derived.Test.YtokhmlpajfhbpabDoorRows
import GoSem.ClaimSeven
namespace Go.Proofs.YtokhmlpajfhbpabDoor
namespace Rows

/-- THE TIED CARD OF 'mosaiclaw04.OptsParses'. -/
def optsParsesCard : Claim7 := { stood := { row := optsParsesRow, standIns := [], harness := (true, "ace1a3f6a0b9e0dee102e119b8b119f264fa7c2a301065926a48f24541a7670c"), looks := false }, kinds := [], alts := [], laidByText := true, laidKinds := [.data], laidTests := true, laidLooks := .later }
def OptsParsesCardSaid : Prop := Claim7.holds Tryd.pinned (.plain (OpenSpec.ofChange optsParsesSpec)) optsParsesCard

/-- THE SECOND FORM's CARD OF 'mosaiclaw04.OptsParses'. -/
def optsParsesUptoCard : Claim7 := { stood := { row := optsParsesUptoRow, standIns := [], harness := (true, "ace1a3f6a0b9e0dee102e119b8b119f264fa7c2a301065926a48f24541a7670c"), looks := false }, kinds := [], alts := [], laidByText := true, laidKinds := [.data], laidTests := true, laidLooks := .later }
def OptsParsesUptoCardSaid : Prop := Claim7.holds Tryd.pinned (.plain (OpenSpec.upto optsParsesSpec)) optsParsesUptoCard
end Rows
end Go.Proofs.YtokhmlpajfhbpabDoor
