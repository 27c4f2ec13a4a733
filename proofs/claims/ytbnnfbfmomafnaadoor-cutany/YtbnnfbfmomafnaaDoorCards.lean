/-
  DERIVED. GIVEN WITH THE SEED: THE CARDS: each row of YtbnnfbfmomafnaaDoorRows.lean that lists a variable, with what it lists TIED to the program's text (the seventh form; the later family's looks); each row that meets fmt, with fmt's text TOLD by the authors' own Lean function (tested against real Go, not proved from fmt's source: count such statements apart). THE CARD IS WHAT COUNTS. Prove the row's statement (the work); the ties are given (YtbnnfbfmomafnaaDoorTie.lean); close each card by the builder's one call (the guide's Derived/Test/ToyasCard.lean, 'card_holds'). Laid BY PROGRAM, IN A SANDBOX (cutbox-door.mjs). By AI agents, Wed Nov 11 2026. No macro, syntax, notation, axiom, sorry.
-/
import Derived.Test.YtbnnfbfmomafnaaDoorRows
import GoSem.ClaimSeven
namespace Go.Proofs.YtbnnfbfmomafnaaDoor
namespace Rows

/-- THE TIED CARD OF 'mosaiclaw10.CutRefuses'. -/
def cutRefusesCard : Claim7 := { stood := { row := cutRefusesRow, standIns := [], harness := (true, "12aef3995c43bc08016128f4427a3ff8812bbc80327e9ceefca3a2d1a7d83823"), looks := false }, kinds := [], alts := [], laidByText := true, laidKinds := [.data], laidTests := true, laidLooks := .later }
def CutRefusesCardSaid : Prop := Claim7.holds Tryd.pinned (.plain (OpenSpec.ofChange cutRefusesSpec)) cutRefusesCard

/-- THE TIED CARD OF 'mosaiclaw10.CutAny'. -/
def cutAnyCard : Claim7 := { stood := { row := cutAnyRow, standIns := [], harness := (true, "12aef3995c43bc08016128f4427a3ff8812bbc80327e9ceefca3a2d1a7d83823"), looks := false }, kinds := [], alts := [], laidByText := true, laidKinds := [.data], laidTests := true, laidLooks := .later }
def CutAnyCardSaid : Prop := Claim7.holds Tryd.pinned (.plain (OpenSpec.ofChange cutAnySpec)) cutAnyCard

/-- THE TIED CARD OF 'mosaiclaw10.CutFits'. -/
def cutFitsCard : Claim7 := { stood := { row := cutFitsRow, standIns := [], harness := (true, "12aef3995c43bc08016128f4427a3ff8812bbc80327e9ceefca3a2d1a7d83823"), looks := false }, kinds := [], alts := [], laidByText := true, laidKinds := [.data], laidTests := true, laidLooks := .later }
def CutFitsCardSaid : Prop := Claim7.holds Tryd.pinned (.plain (OpenSpec.ofChange cutFitsSpec)) cutFitsCard

/-- THE TIED CARD OF 'mosaiclaw10.CutMemory'. -/
def cutMemoryCard : Claim7 := { stood := { row := cutMemoryRow, standIns := [], harness := (true, "12aef3995c43bc08016128f4427a3ff8812bbc80327e9ceefca3a2d1a7d83823"), looks := false }, kinds := [], alts := [], laidByText := true, laidKinds := [.data], laidTests := true, laidLooks := .later }
def CutMemoryCardSaid : Prop := Claim7.holds Tryd.pinned (.plain (OpenSpec.ofChange cutMemorySpec)) cutMemoryCard

/-- THE TIED CARD OF 'mosaiclaw10.CutCuts'. -/
def cutCutsCard : Claim7 := { stood := { row := cutCutsRow, standIns := [], harness := (true, "12aef3995c43bc08016128f4427a3ff8812bbc80327e9ceefca3a2d1a7d83823"), looks := false }, kinds := [], alts := [], laidByText := true, laidKinds := [.data], laidTests := true, laidLooks := .later }
def CutCutsCardSaid : Prop := Claim7.holds Tryd.pinned (.plain (OpenSpec.ofChange cutCutsSpec)) cutCutsCard

/-- THE TIED CARD OF 'mosaiclaw10.CutIs'. -/
def cutIsCard : Claim7 := { stood := { row := cutIsRow, standIns := [], harness := (true, "12aef3995c43bc08016128f4427a3ff8812bbc80327e9ceefca3a2d1a7d83823"), looks := false }, kinds := [], alts := [], laidByText := true, laidKinds := [.data], laidTests := true, laidLooks := .later }
def CutIsCardSaid : Prop := Claim7.holds Tryd.pinned (.plain (OpenSpec.ofChange cutIsSpec)) cutIsCard

/-- THE SECOND FORM's CARD OF 'mosaiclaw10.CutRefuses'. -/
def cutRefusesUptoCard : Claim7 := { stood := { row := cutRefusesUptoRow, standIns := [], harness := (true, "12aef3995c43bc08016128f4427a3ff8812bbc80327e9ceefca3a2d1a7d83823"), looks := false }, kinds := [], alts := [], laidByText := true, laidKinds := [.data], laidTests := true, laidLooks := .later }
def CutRefusesUptoCardSaid : Prop := Claim7.holds Tryd.pinned (.plain (OpenSpec.upto cutRefusesSpec)) cutRefusesUptoCard

/-- THE SECOND FORM's CARD OF 'mosaiclaw10.CutAny'. -/
def cutAnyUptoCard : Claim7 := { stood := { row := cutAnyUptoRow, standIns := [], harness := (true, "12aef3995c43bc08016128f4427a3ff8812bbc80327e9ceefca3a2d1a7d83823"), looks := false }, kinds := [], alts := [], laidByText := true, laidKinds := [.data], laidTests := true, laidLooks := .later }
def CutAnyUptoCardSaid : Prop := Claim7.holds Tryd.pinned (.plain (OpenSpec.upto cutAnySpec)) cutAnyUptoCard

/-- THE SECOND FORM's CARD OF 'mosaiclaw10.CutFits'. -/
def cutFitsUptoCard : Claim7 := { stood := { row := cutFitsUptoRow, standIns := [], harness := (true, "12aef3995c43bc08016128f4427a3ff8812bbc80327e9ceefca3a2d1a7d83823"), looks := false }, kinds := [], alts := [], laidByText := true, laidKinds := [.data], laidTests := true, laidLooks := .later }
def CutFitsUptoCardSaid : Prop := Claim7.holds Tryd.pinned (.plain (OpenSpec.upto cutFitsSpec)) cutFitsUptoCard

/-- THE SECOND FORM's CARD OF 'mosaiclaw10.CutMemory'. -/
def cutMemoryUptoCard : Claim7 := { stood := { row := cutMemoryUptoRow, standIns := [], harness := (true, "12aef3995c43bc08016128f4427a3ff8812bbc80327e9ceefca3a2d1a7d83823"), looks := false }, kinds := [], alts := [], laidByText := true, laidKinds := [.data], laidTests := true, laidLooks := .later }
def CutMemoryUptoCardSaid : Prop := Claim7.holds Tryd.pinned (.plain (OpenSpec.upto cutMemorySpec)) cutMemoryUptoCard

/-- THE SECOND FORM's CARD OF 'mosaiclaw10.CutCuts'. -/
def cutCutsUptoCard : Claim7 := { stood := { row := cutCutsUptoRow, standIns := [], harness := (true, "12aef3995c43bc08016128f4427a3ff8812bbc80327e9ceefca3a2d1a7d83823"), looks := false }, kinds := [], alts := [], laidByText := true, laidKinds := [.data], laidTests := true, laidLooks := .later }
def CutCutsUptoCardSaid : Prop := Claim7.holds Tryd.pinned (.plain (OpenSpec.upto cutCutsSpec)) cutCutsUptoCard

/-- THE SECOND FORM's CARD OF 'mosaiclaw10.CutIs'. -/
def cutIsUptoCard : Claim7 := { stood := { row := cutIsUptoRow, standIns := [], harness := (true, "12aef3995c43bc08016128f4427a3ff8812bbc80327e9ceefca3a2d1a7d83823"), looks := false }, kinds := [], alts := [], laidByText := true, laidKinds := [.data], laidTests := true, laidLooks := .later }
def CutIsUptoCardSaid : Prop := Claim7.holds Tryd.pinned (.plain (OpenSpec.upto cutIsSpec)) cutIsUptoCard
end Rows
end Go.Proofs.YtbnnfbfmomafnaaDoor
