/-
  DERIVED. GIVEN WITH THE SEED: THE CARDS: each row of YtaicckenpplceabGreatDoorRows.lean that lists a variable, with what it lists TIED to the program's text (the seventh form; the later family's looks); each row that meets fmt, with fmt's text TOLD by the authors' own Lean function (tested against real Go, not proved from fmt's source: count such statements apart). THE CARD IS WHAT COUNTS. Prove the row's statement (the work); the ties are given (YtaicckenpplceabGreatDoorTie.lean); close each card by the builder's one call (the guide's Derived/Test/ToyasCard.lean, 'card_holds'). Laid BY PROGRAM, IN A SANDBOX (cutbox-door.mjs). By AI agents, Wed Nov 11 2026. No macro, syntax, notation, axiom, sorry.
-/
import Derived.Test.YtaicckenpplceabGreatDoorRows
import GoSem.ClaimSeven
namespace Go.Proofs.YtaicckenpplceabGreatDoor
namespace Rows

/-- THE TIED CARD OF 'mosaiclaw11.RecutCuts'. -/
def recutCutsCard : Claim7 := { stood := { row := recutCutsRow, standIns := [], harness := (true, "a5a66cb1e10731f11f9dd3bebe3ba4230c5ec99ce694f0266b7046111872caf6"), looks := false }, kinds := [], alts := [], laidByText := true, laidKinds := [.data], laidTests := true, laidLooks := .later }
def RecutCutsCardSaid : Prop := Claim7.holds Tryz.pinned (.plain (OpenSpec.ofChange recutCutsSpec)) recutCutsCard

/-- THE TIED CARD OF 'mosaiclaw11.RecutAsks'. -/
def recutAsksCard : Claim7 := { stood := { row := recutAsksRow, standIns := [], harness := (true, "a5a66cb1e10731f11f9dd3bebe3ba4230c5ec99ce694f0266b7046111872caf6"), looks := false }, kinds := [], alts := [], laidByText := true, laidKinds := [.data], laidTests := true, laidLooks := .later }
def RecutAsksCardSaid : Prop := Claim7.holds Tryz.pinned (.plain (OpenSpec.ofChange recutAsksSpec)) recutAsksCard

/-- THE SECOND FORM's CARD OF 'mosaiclaw11.RecutCuts'. -/
def recutCutsUptoCard : Claim7 := { stood := { row := recutCutsUptoRow, standIns := [], harness := (true, "a5a66cb1e10731f11f9dd3bebe3ba4230c5ec99ce694f0266b7046111872caf6"), looks := false }, kinds := [], alts := [], laidByText := true, laidKinds := [.data], laidTests := true, laidLooks := .later }
def RecutCutsUptoCardSaid : Prop := Claim7.holds Tryz.pinned (.plain (OpenSpec.upto recutCutsSpec)) recutCutsUptoCard

/-- THE SECOND FORM's CARD OF 'mosaiclaw11.RecutAsks'. -/
def recutAsksUptoCard : Claim7 := { stood := { row := recutAsksUptoRow, standIns := [], harness := (true, "a5a66cb1e10731f11f9dd3bebe3ba4230c5ec99ce694f0266b7046111872caf6"), looks := false }, kinds := [], alts := [], laidByText := true, laidKinds := [.data], laidTests := true, laidLooks := .later }
def RecutAsksUptoCardSaid : Prop := Claim7.holds Tryz.pinned (.plain (OpenSpec.upto recutAsksSpec)) recutAsksUptoCard
end Rows
end Go.Proofs.YtaicckenpplceabGreatDoor
