/-
  DERIVED. GIVEN WITH THE SEED: THE CARDS: each row of YtkfbhofbajejiabDoorRows.lean that lists a variable, with what it lists TIED to the program's text (the seventh form; the later family's looks); each row that meets fmt, with fmt's text TOLD by the authors' own Lean function (tested against real Go, not proved from fmt's source: count such statements apart). THE CARD IS WHAT COUNTS. Prove the row's statement (the work); the ties are given (YtkfbhofbajejiabDoorTie.lean); close each card by the builder's one call (the guide's Derived/Test/ToyasCard.lean, 'card_holds'). Laid BY PROGRAM, IN A SANDBOX (cutbox-door.mjs). By AI agents, Wed Nov 11 2026. No macro, syntax, notation, axiom, sorry.
-/
import Derived.Test.YtkfbhofbajejiabDoorRows
import GoSem.ClaimSeven
namespace Go.Proofs.YtkfbhofbajejiabDoor
namespace Rows

/-- THE TIED CARD OF 'mosaiclaw05.Ip4Builds'. -/
def ip4BuildsCard : Claim7 := { stood := { row := ip4BuildsRow, standIns := [], harness := (true, "e677424db6c0e39eb273a6268811c36cb93559e74fd3cc32f69b125a8a60c2f6"), looks := false }, kinds := [], alts := [], laidByText := true, laidKinds := [.data], laidTests := true, laidLooks := .later }
def Ip4BuildsCardSaid : Prop := Claim7.holds Tryd.pinned (.plain (OpenSpec.ofChange ip4BuildsSpec)) ip4BuildsCard

/-- THE TIED CARD OF 'mosaiclaw05.Ip4Parses'. -/
def ip4ParsesCard : Claim7 := { stood := { row := ip4ParsesRow, standIns := [], harness := (true, "e677424db6c0e39eb273a6268811c36cb93559e74fd3cc32f69b125a8a60c2f6"), looks := false }, kinds := [], alts := [], laidByText := true, laidKinds := [.data], laidTests := true, laidLooks := .later }
def Ip4ParsesCardSaid : Prop := Claim7.holds Tryd.pinned (.plain (OpenSpec.ofChange ip4ParsesSpec)) ip4ParsesCard

/-- THE SECOND FORM's CARD OF 'mosaiclaw05.Ip4Builds'. -/
def ip4BuildsUptoCard : Claim7 := { stood := { row := ip4BuildsUptoRow, standIns := [], harness := (true, "e677424db6c0e39eb273a6268811c36cb93559e74fd3cc32f69b125a8a60c2f6"), looks := false }, kinds := [], alts := [], laidByText := true, laidKinds := [.data], laidTests := true, laidLooks := .later }
def Ip4BuildsUptoCardSaid : Prop := Claim7.holds Tryd.pinned (.plain (OpenSpec.upto ip4BuildsSpec)) ip4BuildsUptoCard

/-- THE SECOND FORM's CARD OF 'mosaiclaw05.Ip4Parses'. -/
def ip4ParsesUptoCard : Claim7 := { stood := { row := ip4ParsesUptoRow, standIns := [], harness := (true, "e677424db6c0e39eb273a6268811c36cb93559e74fd3cc32f69b125a8a60c2f6"), looks := false }, kinds := [], alts := [], laidByText := true, laidKinds := [.data], laidTests := true, laidLooks := .later }
def Ip4ParsesUptoCardSaid : Prop := Claim7.holds Tryd.pinned (.plain (OpenSpec.upto ip4ParsesSpec)) ip4ParsesUptoCard
end Rows
end Go.Proofs.YtkfbhofbajejiabDoor
