/-
  DERIVED. GIVEN WITH THE SEED: THE CARDS: each row of YtbkeilboneaejaaGreatDoorRows.lean that lists a variable, with what it lists TIED to the program's text (the seventh form; the later family's looks); each row that meets fmt, with fmt's text TOLD by the authors' own Lean function (tested against real Go, not proved from fmt's source: count such statements apart). THE CARD IS WHAT COUNTS. Prove the row's statement (the work); the ties are given (YtbkeilboneaejaaGreatDoorTie.lean); close each card by the builder's one call (the guide's Derived/Test/ToyasCard.lean, 'card_holds'). Laid BY PROGRAM, IN A SANDBOX (cutbox-door.mjs). By AI agents, Wed Nov 11 2026. No macro, syntax, notation, axiom, sorry.
-/
import Derived.Test.YtbkeilboneaejaaGreatDoorRows
import GoSem.ClaimSeven
namespace Go.Proofs.YtbkeilboneaejaaGreatDoor
namespace Rows

/-- THE TIED CARD OF 'mosaiclaw14.EntryJoins'. -/
def entryJoinsCard : Claim7 := { stood := { row := entryJoinsRow, standIns := [], harness := (true, "aa04a35a333e418644fdcf4c3872b10a46623bcc8b545046849b2441599216a3"), looks := false }, kinds := [], alts := [], laidByText := true, laidKinds := [.data], laidTests := true, laidLooks := .later }
def EntryJoinsCardSaid : Prop := Claim7.holds Tryz.pinned (.plain (OpenSpec.ofChange entryJoinsSpec)) entryJoinsCard

/-- THE TIED CARD OF 'mosaiclaw14.EntryMemory'. -/
def entryMemoryCard : Claim7 := { stood := { row := entryMemoryRow, standIns := [], harness := (true, "aa04a35a333e418644fdcf4c3872b10a46623bcc8b545046849b2441599216a3"), looks := false }, kinds := [], alts := [], laidByText := true, laidKinds := [.data], laidTests := true, laidLooks := .later }
def EntryMemoryCardSaid : Prop := Claim7.holds Tryz.pinned (.plain (OpenSpec.ofChange entryMemorySpec)) entryMemoryCard

/-- THE TIED CARD OF 'mosaiclaw14.EntryPuts'. -/
def entryPutsCard : Claim7 := { stood := { row := entryPutsRow, standIns := [], harness := (true, "aa04a35a333e418644fdcf4c3872b10a46623bcc8b545046849b2441599216a3"), looks := false }, kinds := [], alts := [], laidByText := true, laidKinds := [.data], laidTests := true, laidLooks := .later }
def EntryPutsCardSaid : Prop := Claim7.holds Tryz.pinned (.plain (OpenSpec.ofChange entryPutsSpec)) entryPutsCard

/-- THE SECOND FORM's CARD OF 'mosaiclaw14.EntryJoins'. -/
def entryJoinsUptoCard : Claim7 := { stood := { row := entryJoinsUptoRow, standIns := [], harness := (true, "aa04a35a333e418644fdcf4c3872b10a46623bcc8b545046849b2441599216a3"), looks := false }, kinds := [], alts := [], laidByText := true, laidKinds := [.data], laidTests := true, laidLooks := .later }
def EntryJoinsUptoCardSaid : Prop := Claim7.holds Tryz.pinned (.plain (OpenSpec.upto entryJoinsSpec)) entryJoinsUptoCard

/-- THE SECOND FORM's CARD OF 'mosaiclaw14.EntryMemory'. -/
def entryMemoryUptoCard : Claim7 := { stood := { row := entryMemoryUptoRow, standIns := [], harness := (true, "aa04a35a333e418644fdcf4c3872b10a46623bcc8b545046849b2441599216a3"), looks := false }, kinds := [], alts := [], laidByText := true, laidKinds := [.data], laidTests := true, laidLooks := .later }
def EntryMemoryUptoCardSaid : Prop := Claim7.holds Tryz.pinned (.plain (OpenSpec.upto entryMemorySpec)) entryMemoryUptoCard

/-- THE SECOND FORM's CARD OF 'mosaiclaw14.EntryPuts'. -/
def entryPutsUptoCard : Claim7 := { stood := { row := entryPutsUptoRow, standIns := [], harness := (true, "aa04a35a333e418644fdcf4c3872b10a46623bcc8b545046849b2441599216a3"), looks := false }, kinds := [], alts := [], laidByText := true, laidKinds := [.data], laidTests := true, laidLooks := .later }
def EntryPutsUptoCardSaid : Prop := Claim7.holds Tryz.pinned (.plain (OpenSpec.upto entryPutsSpec)) entryPutsUptoCard
end Rows
end Go.Proofs.YtbkeilboneaejaaGreatDoor
