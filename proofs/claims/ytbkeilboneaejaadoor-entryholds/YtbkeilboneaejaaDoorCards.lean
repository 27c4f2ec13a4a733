/-
  DERIVED. GIVEN WITH THE SEED: THE CARDS: each row of YtbkeilboneaejaaDoorRows.lean that lists a variable, with what it lists TIED to the program's text (the seventh form; the later family's looks); each row that meets fmt, with fmt's text TOLD by the authors' own Lean function (tested against real Go, not proved from fmt's source: count such statements apart). THE CARD IS WHAT COUNTS. Prove the row's statement (the work); the ties are given (YtbkeilboneaejaaDoorTie.lean); close each card by the builder's one call (the guide's Derived/Test/ToyasCard.lean, 'card_holds'). Laid BY PROGRAM, IN A SANDBOX (cutbox-door.mjs). By AI agents, Wed Nov 11 2026. No macro, syntax, notation, axiom, sorry.
-/
import Derived.Test.YtbkeilboneaejaaDoorRows
import GoSem.ClaimSeven
namespace Go.Proofs.YtbkeilboneaejaaDoor
namespace Rows

/-- THE TIED CARD OF 'mosaiclaw14.EntryHolds'. -/
def entryHoldsCard : Claim7 := { stood := { row := entryHoldsRow, standIns := [], harness := (true, "44042a644f0aaea8268a96bda7b85eed812c01e47f87f711c6087236622a7336"), looks := false }, kinds := [], alts := [], laidByText := true, laidKinds := [.data], laidTests := true, laidLooks := .later }
def EntryHoldsCardSaid : Prop := Claim7.holds Tryd.pinned (.plain (OpenSpec.ofChange entryHoldsSpec)) entryHoldsCard

/-- THE TIED CARD OF 'mosaiclaw14.EntryPoisons'. -/
def entryPoisonsCard : Claim7 := { stood := { row := entryPoisonsRow, standIns := [], harness := (true, "44042a644f0aaea8268a96bda7b85eed812c01e47f87f711c6087236622a7336"), looks := false }, kinds := [], alts := [], laidByText := true, laidKinds := [.data], laidTests := true, laidLooks := .later }
def EntryPoisonsCardSaid : Prop := Claim7.holds Tryd.pinned (.plain (OpenSpec.ofChange entryPoisonsSpec)) entryPoisonsCard

/-- THE SECOND FORM's CARD OF 'mosaiclaw14.EntryHolds'. -/
def entryHoldsUptoCard : Claim7 := { stood := { row := entryHoldsUptoRow, standIns := [], harness := (true, "44042a644f0aaea8268a96bda7b85eed812c01e47f87f711c6087236622a7336"), looks := false }, kinds := [], alts := [], laidByText := true, laidKinds := [.data], laidTests := true, laidLooks := .later }
def EntryHoldsUptoCardSaid : Prop := Claim7.holds Tryd.pinned (.plain (OpenSpec.upto entryHoldsSpec)) entryHoldsUptoCard

/-- THE SECOND FORM's CARD OF 'mosaiclaw14.EntryPoisons'. -/
def entryPoisonsUptoCard : Claim7 := { stood := { row := entryPoisonsUptoRow, standIns := [], harness := (true, "44042a644f0aaea8268a96bda7b85eed812c01e47f87f711c6087236622a7336"), looks := false }, kinds := [], alts := [], laidByText := true, laidKinds := [.data], laidTests := true, laidLooks := .later }
def EntryPoisonsUptoCardSaid : Prop := Claim7.holds Tryd.pinned (.plain (OpenSpec.upto entryPoisonsSpec)) entryPoisonsUptoCard
end Rows
end Go.Proofs.YtbkeilboneaejaaDoor
