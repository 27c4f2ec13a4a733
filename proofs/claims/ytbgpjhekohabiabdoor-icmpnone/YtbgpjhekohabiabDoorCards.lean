/-
  DERIVED. GIVEN WITH THE SEED: THE CARDS: each row of YtbgpjhekohabiabDoorRows.lean that lists a variable, with what it lists TIED to the program's text (the seventh form; the later family's looks); each row that meets fmt, with fmt's text TOLD by the authors' own Lean function (tested against real Go, not proved from fmt's source: count such statements apart). THE CARD IS WHAT COUNTS. Prove the row's statement (the work); the ties are given (YtbgpjhekohabiabDoorTie.lean); close each card by the builder's one call (the guide's Derived/Test/ToyasCard.lean, 'card_holds'). Laid BY PROGRAM, IN A SANDBOX (cutbox-door.mjs). By AI agents, Wed Nov 11 2026. No macro, syntax, notation, axiom, sorry.
-/
import Derived.Test.YtbgpjhekohabiabDoorRows
import GoSem.ClaimSeven
namespace Go.Proofs.YtbgpjhekohabiabDoor
namespace Rows

/-- THE TIED CARD OF 'mosaiclaw08.IcmpNone'. -/
def icmpNoneCard : Claim7 := { stood := { row := icmpNoneRow, standIns := [], harness := (true, "5b0bbe305cb068da98a5cec0c05e84b069d78cc1481d56e2ddeba729a4b4743a"), looks := false }, kinds := [], alts := [], laidByText := true, laidKinds := [.data], laidTests := true, laidLooks := .later }
def IcmpNoneCardSaid : Prop := Claim7.holds Tryd.pinned (.plain (OpenSpec.ofChange icmpNoneSpec)) icmpNoneCard

/-- THE TIED CARD OF 'mosaiclaw08.IcmpSeen'. -/
def icmpSeenCard : Claim7 := { stood := { row := icmpSeenRow, standIns := [], harness := (true, "5b0bbe305cb068da98a5cec0c05e84b069d78cc1481d56e2ddeba729a4b4743a"), looks := false }, kinds := [], alts := [], laidByText := true, laidKinds := [.data], laidTests := true, laidLooks := .later }
def IcmpSeenCardSaid : Prop := Claim7.holds Tryd.pinned (.plain (OpenSpec.ofChange icmpSeenSpec)) icmpSeenCard

/-- THE TIED CARD OF 'mosaiclaw08.IcmpQuotes'. -/
def icmpQuotesCard : Claim7 := { stood := { row := icmpQuotesRow, standIns := [], harness := (true, "5b0bbe305cb068da98a5cec0c05e84b069d78cc1481d56e2ddeba729a4b4743a"), looks := false }, kinds := [], alts := [], laidByText := true, laidKinds := [.data], laidTests := true, laidLooks := .later }
def IcmpQuotesCardSaid : Prop := Claim7.holds Tryd.pinned (.plain (OpenSpec.ofChange icmpQuotesSpec)) icmpQuotesCard

/-- THE SECOND FORM's CARD OF 'mosaiclaw08.IcmpNone'. -/
def icmpNoneUptoCard : Claim7 := { stood := { row := icmpNoneUptoRow, standIns := [], harness := (true, "5b0bbe305cb068da98a5cec0c05e84b069d78cc1481d56e2ddeba729a4b4743a"), looks := false }, kinds := [], alts := [], laidByText := true, laidKinds := [.data], laidTests := true, laidLooks := .later }
def IcmpNoneUptoCardSaid : Prop := Claim7.holds Tryd.pinned (.plain (OpenSpec.upto icmpNoneSpec)) icmpNoneUptoCard

/-- THE SECOND FORM's CARD OF 'mosaiclaw08.IcmpSeen'. -/
def icmpSeenUptoCard : Claim7 := { stood := { row := icmpSeenUptoRow, standIns := [], harness := (true, "5b0bbe305cb068da98a5cec0c05e84b069d78cc1481d56e2ddeba729a4b4743a"), looks := false }, kinds := [], alts := [], laidByText := true, laidKinds := [.data], laidTests := true, laidLooks := .later }
def IcmpSeenUptoCardSaid : Prop := Claim7.holds Tryd.pinned (.plain (OpenSpec.upto icmpSeenSpec)) icmpSeenUptoCard

/-- THE SECOND FORM's CARD OF 'mosaiclaw08.IcmpQuotes'. -/
def icmpQuotesUptoCard : Claim7 := { stood := { row := icmpQuotesUptoRow, standIns := [], harness := (true, "5b0bbe305cb068da98a5cec0c05e84b069d78cc1481d56e2ddeba729a4b4743a"), looks := false }, kinds := [], alts := [], laidByText := true, laidKinds := [.data], laidTests := true, laidLooks := .later }
def IcmpQuotesUptoCardSaid : Prop := Claim7.holds Tryd.pinned (.plain (OpenSpec.upto icmpQuotesSpec)) icmpQuotesUptoCard
end Rows
end Go.Proofs.YtbgpjhekohabiabDoor
