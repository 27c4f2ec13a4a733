/-
  DERIVED. GIVEN WITH THE SEED: THE CARDS: each row of YtkccpidgeecemaaGreatDoorRows.lean that lists a variable, with what it lists TIED to the program's text (the seventh form; the later family's looks); each row that meets fmt, with fmt's text TOLD by the authors' own Lean function (tested against real Go, not proved from fmt's source: count such statements apart). THE CARD IS WHAT COUNTS. Prove the row's statement (the work); the ties are given (YtkccpidgeecemaaGreatDoorTie.lean); close each card by the builder's one call (the guide's Derived/Test/ToyasCard.lean, 'card_holds'). Laid BY PROGRAM, IN A SANDBOX (cutbox-door.mjs). By AI agents, Wed Nov 11 2026. No macro, syntax, notation, axiom, sorry.
-/
import Derived.Test.YtkccpidgeecemaaGreatDoorRows
import GoSem.ClaimSeven
namespace Go.Proofs.YtkccpidgeecemaaGreatDoor
namespace Rows

/-- THE TIED CARD OF 'mosaiclaw15.TableWithin'. -/
def tableWithinCard : Claim7 := { stood := { row := tableWithinRow, standIns := [], harness := (true, "3a1f618e43dfc3270324b650e0fee438561687692df31976e9a9325e3080407f"), looks := false }, kinds := [], alts := [], laidByText := true, laidKinds := [.data], laidTests := true, laidLooks := .later }
def TableWithinCardSaid : Prop := Claim7.holds Tryz.pinned (.plain (OpenSpec.ofChange tableWithinSpec)) tableWithinCard

/-- THE TIED CARD OF 'mosaiclaw15.TableLate'. -/
def tableLateCard : Claim7 := { stood := { row := tableLateRow, standIns := [], harness := (true, "3a1f618e43dfc3270324b650e0fee438561687692df31976e9a9325e3080407f"), looks := false }, kinds := [], alts := [], laidByText := true, laidKinds := [.data], laidTests := true, laidLooks := .later }
def TableLateCardSaid : Prop := Claim7.holds Tryz.pinned (.plain (OpenSpec.ofChange tableLateSpec)) tableLateCard

/-- THE TIED CARD OF 'mosaiclaw15.TableMemory'. -/
def tableMemoryCard : Claim7 := { stood := { row := tableMemoryRow, standIns := [], harness := (true, "3a1f618e43dfc3270324b650e0fee438561687692df31976e9a9325e3080407f"), looks := false }, kinds := [], alts := [], laidByText := true, laidKinds := [.data], laidTests := true, laidLooks := .later }
def TableMemoryCardSaid : Prop := Claim7.holds Tryz.pinned (.plain (OpenSpec.ofChange tableMemorySpec)) tableMemoryCard

/-- THE TIED CARD OF 'mosaiclaw15.TableApart'. -/
def tableApartCard : Claim7 := { stood := { row := tableApartRow, standIns := [], harness := (true, "3a1f618e43dfc3270324b650e0fee438561687692df31976e9a9325e3080407f"), looks := false }, kinds := [], alts := [], laidByText := true, laidKinds := [.data], laidTests := true, laidLooks := .later }
def TableApartCardSaid : Prop := Claim7.holds Tryz.pinned (.plain (OpenSpec.ofChange tableApartSpec)) tableApartCard

/-- THE SECOND FORM's CARD OF 'mosaiclaw15.TableWithin'. -/
def tableWithinUptoCard : Claim7 := { stood := { row := tableWithinUptoRow, standIns := [], harness := (true, "3a1f618e43dfc3270324b650e0fee438561687692df31976e9a9325e3080407f"), looks := false }, kinds := [], alts := [], laidByText := true, laidKinds := [.data], laidTests := true, laidLooks := .later }
def TableWithinUptoCardSaid : Prop := Claim7.holds Tryz.pinned (.plain (OpenSpec.upto tableWithinSpec)) tableWithinUptoCard

/-- THE SECOND FORM's CARD OF 'mosaiclaw15.TableLate'. -/
def tableLateUptoCard : Claim7 := { stood := { row := tableLateUptoRow, standIns := [], harness := (true, "3a1f618e43dfc3270324b650e0fee438561687692df31976e9a9325e3080407f"), looks := false }, kinds := [], alts := [], laidByText := true, laidKinds := [.data], laidTests := true, laidLooks := .later }
def TableLateUptoCardSaid : Prop := Claim7.holds Tryz.pinned (.plain (OpenSpec.upto tableLateSpec)) tableLateUptoCard

/-- THE SECOND FORM's CARD OF 'mosaiclaw15.TableMemory'. -/
def tableMemoryUptoCard : Claim7 := { stood := { row := tableMemoryUptoRow, standIns := [], harness := (true, "3a1f618e43dfc3270324b650e0fee438561687692df31976e9a9325e3080407f"), looks := false }, kinds := [], alts := [], laidByText := true, laidKinds := [.data], laidTests := true, laidLooks := .later }
def TableMemoryUptoCardSaid : Prop := Claim7.holds Tryz.pinned (.plain (OpenSpec.upto tableMemorySpec)) tableMemoryUptoCard

/-- THE SECOND FORM's CARD OF 'mosaiclaw15.TableApart'. -/
def tableApartUptoCard : Claim7 := { stood := { row := tableApartUptoRow, standIns := [], harness := (true, "3a1f618e43dfc3270324b650e0fee438561687692df31976e9a9325e3080407f"), looks := false }, kinds := [], alts := [], laidByText := true, laidKinds := [.data], laidTests := true, laidLooks := .later }
def TableApartUptoCardSaid : Prop := Claim7.holds Tryz.pinned (.plain (OpenSpec.upto tableApartSpec)) tableApartUptoCard
end Rows
end Go.Proofs.YtkccpidgeecemaaGreatDoor
