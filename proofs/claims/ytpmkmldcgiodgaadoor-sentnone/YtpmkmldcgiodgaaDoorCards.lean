/-
  DERIVED. GIVEN WITH THE SEED: THE CARDS: each row of YtpmkmldcgiodgaaDoorRows.lean that lists a variable, with what it lists TIED to the program's text (the seventh form; the later family's looks); each row that meets fmt, with fmt's text TOLD by the authors' own Lean function (tested against real Go, not proved from fmt's source: count such statements apart). THE CARD IS WHAT COUNTS. Prove the row's statement (the work); the ties are given (YtpmkmldcgiodgaaDoorTie.lean); close each card by the builder's one call (the guide's Derived/Test/ToyasCard.lean, 'card_holds'). Laid BY PROGRAM, IN A SANDBOX (cutbox-door.mjs). By AI agents, Wed Nov 11 2026. No macro, syntax, notation, axiom, sorry.
-/
import Derived.Test.YtpmkmldcgiodgaaDoorRows
import GoSem.ClaimSeven
namespace Go.Proofs.YtpmkmldcgiodgaaDoor
namespace Rows

/-- THE TIED CARD OF 'mosaiclaw17.SentRefuses'. -/
def sentRefusesCard : Claim7 := { stood := { row := sentRefusesRow, standIns := [], harness := (true, "67b4d3e8fc9e92bed2131fcc40cac3ad9b2ee8ad718a8b528de996bd2905699c"), looks := false }, kinds := [], alts := [], laidByText := true, laidKinds := [.data], laidTests := true, laidLooks := .later }
def SentRefusesCardSaid : Prop := Claim7.holds Tryd.pinned (.plain (OpenSpec.ofChange sentRefusesSpec)) sentRefusesCard

/-- THE TIED CARD OF 'mosaiclaw17.SentNone'. -/
def sentNoneCard : Claim7 := { stood := { row := sentNoneRow, standIns := [], harness := (true, "67b4d3e8fc9e92bed2131fcc40cac3ad9b2ee8ad718a8b528de996bd2905699c"), looks := false }, kinds := [], alts := [], laidByText := true, laidKinds := [.data], laidTests := true, laidLooks := .later }
def SentNoneCardSaid : Prop := Claim7.holds Tryd.pinned (.plain (OpenSpec.ofChange sentNoneSpec)) sentNoneCard

/-- THE TIED CARD OF 'mosaiclaw17.SentNotes'. -/
def sentNotesCard : Claim7 := { stood := { row := sentNotesRow, standIns := [], harness := (true, "67b4d3e8fc9e92bed2131fcc40cac3ad9b2ee8ad718a8b528de996bd2905699c"), looks := false }, kinds := [], alts := [], laidByText := true, laidKinds := [.data], laidTests := true, laidLooks := .later }
def SentNotesCardSaid : Prop := Claim7.holds Tryd.pinned (.plain (OpenSpec.ofChange sentNotesSpec)) sentNotesCard

/-- THE SECOND FORM's CARD OF 'mosaiclaw17.SentRefuses'. -/
def sentRefusesUptoCard : Claim7 := { stood := { row := sentRefusesUptoRow, standIns := [], harness := (true, "67b4d3e8fc9e92bed2131fcc40cac3ad9b2ee8ad718a8b528de996bd2905699c"), looks := false }, kinds := [], alts := [], laidByText := true, laidKinds := [.data], laidTests := true, laidLooks := .later }
def SentRefusesUptoCardSaid : Prop := Claim7.holds Tryd.pinned (.plain (OpenSpec.upto sentRefusesSpec)) sentRefusesUptoCard

/-- THE SECOND FORM's CARD OF 'mosaiclaw17.SentNone'. -/
def sentNoneUptoCard : Claim7 := { stood := { row := sentNoneUptoRow, standIns := [], harness := (true, "67b4d3e8fc9e92bed2131fcc40cac3ad9b2ee8ad718a8b528de996bd2905699c"), looks := false }, kinds := [], alts := [], laidByText := true, laidKinds := [.data], laidTests := true, laidLooks := .later }
def SentNoneUptoCardSaid : Prop := Claim7.holds Tryd.pinned (.plain (OpenSpec.upto sentNoneSpec)) sentNoneUptoCard

/-- THE SECOND FORM's CARD OF 'mosaiclaw17.SentNotes'. -/
def sentNotesUptoCard : Claim7 := { stood := { row := sentNotesUptoRow, standIns := [], harness := (true, "67b4d3e8fc9e92bed2131fcc40cac3ad9b2ee8ad718a8b528de996bd2905699c"), looks := false }, kinds := [], alts := [], laidByText := true, laidKinds := [.data], laidTests := true, laidLooks := .later }
def SentNotesUptoCardSaid : Prop := Claim7.holds Tryd.pinned (.plain (OpenSpec.upto sentNotesSpec)) sentNotesUptoCard
end Rows
end Go.Proofs.YtpmkmldcgiodgaaDoor
