/-
  DERIVED. GIVEN WITH THE SEED: THE CARDS: each row of YtkccpidgeecemaaDoorRows.lean that lists a variable, with what it lists TIED to the program's text (the seventh form; the later family's looks); each row that meets fmt, with fmt's text TOLD by the authors' own Lean function (tested against real Go, not proved from fmt's source: count such statements apart). THE CARD IS WHAT COUNTS. Prove the row's statement (the work); the ties are given (YtkccpidgeecemaaDoorTie.lean); close each card by the builder's one call (the guide's Derived/Test/ToyasCard.lean, 'card_holds'). Laid BY PROGRAM, IN A SANDBOX (cutbox-door.mjs). By AI agents, Wed Nov 11 2026. No macro, syntax, notation, axiom, sorry.
-/
import Derived.Test.YtkccpidgeecemaaDoorRows
import GoSem.ClaimSeven
namespace Go.Proofs.YtkccpidgeecemaaDoor
namespace Rows

/-- THE TIED CARD OF 'mosaiclaw15.TableOldest'. -/
def tableOldestCard : Claim7 := { stood := { row := tableOldestRow, standIns := [], harness := (true, "fddc243cf8fd4d39d078139434e7c67e9608bd1516bfbac391a0dcddde1f6d31"), looks := false }, kinds := [], alts := [], laidByText := true, laidKinds := [.data], laidTests := true, laidLooks := .later }
def TableOldestCardSaid : Prop := Claim7.holds Tryd.pinned (.plain (OpenSpec.ofChange tableOldestSpec)) tableOldestCard

/-- THE TIED CARD OF 'mosaiclaw15.TableBounds'. -/
def tableBoundsCard : Claim7 := { stood := { row := tableBoundsRow, standIns := [], harness := (true, "fddc243cf8fd4d39d078139434e7c67e9608bd1516bfbac391a0dcddde1f6d31"), looks := false }, kinds := [], alts := [], laidByText := true, laidKinds := [.data], laidTests := true, laidLooks := .later }
def TableBoundsCardSaid : Prop := Claim7.holds Tryd.pinned (.plain (OpenSpec.ofChange tableBoundsSpec)) tableBoundsCard

/-- THE SECOND FORM's CARD OF 'mosaiclaw15.TableOldest'. -/
def tableOldestUptoCard : Claim7 := { stood := { row := tableOldestUptoRow, standIns := [], harness := (true, "fddc243cf8fd4d39d078139434e7c67e9608bd1516bfbac391a0dcddde1f6d31"), looks := false }, kinds := [], alts := [], laidByText := true, laidKinds := [.data], laidTests := true, laidLooks := .later }
def TableOldestUptoCardSaid : Prop := Claim7.holds Tryd.pinned (.plain (OpenSpec.upto tableOldestSpec)) tableOldestUptoCard

/-- THE SECOND FORM's CARD OF 'mosaiclaw15.TableBounds'. -/
def tableBoundsUptoCard : Claim7 := { stood := { row := tableBoundsUptoRow, standIns := [], harness := (true, "fddc243cf8fd4d39d078139434e7c67e9608bd1516bfbac391a0dcddde1f6d31"), looks := false }, kinds := [], alts := [], laidByText := true, laidKinds := [.data], laidTests := true, laidLooks := .later }
def TableBoundsUptoCardSaid : Prop := Claim7.holds Tryd.pinned (.plain (OpenSpec.upto tableBoundsSpec)) tableBoundsUptoCard
end Rows
end Go.Proofs.YtkccpidgeecemaaDoor
