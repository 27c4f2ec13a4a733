/-
  DERIVED. GIVEN WITH THE SEED: THE CARDS: each row of YtbgpjhekohabiaaDoorRows.lean that lists a variable, with what it lists TIED to the program's text (the seventh form; the later family's looks); each row that meets fmt, with fmt's text TOLD by the authors' own Lean function (tested against real Go, not proved from fmt's source: count such statements apart). THE CARD IS WHAT COUNTS. Prove the row's statement (the work); the ties are given (YtbgpjhekohabiaaDoorTie.lean); close each card by the builder's one call (the guide's Derived/Test/ToyasCard.lean, 'card_holds'). Laid BY PROGRAM, IN A SANDBOX (cutbox-door.mjs). By AI agents, Wed Nov 11 2026. No macro, syntax, notation, axiom, sorry.
-/
import Derived.Test.YtbgpjhekohabiaaDoorRows
import GoSem.ClaimSeven
namespace Go.Proofs.YtbgpjhekohabiaaDoor
namespace Rows

/-- THE TIED CARD OF 'mosaiclaw08.IcmpLooks'. -/
def icmpLooksCard : Claim7 := { stood := { row := icmpLooksRow, standIns := [], harness := (true, "5755dbd148fd84804ef4b41784ba45908a891743359a62818a57c46f70c3e238"), looks := false }, kinds := [], alts := [], laidByText := true, laidKinds := [.data], laidTests := true, laidLooks := .later }
def IcmpLooksCardSaid : Prop := Claim7.holds Tryd.pinned (.plain (OpenSpec.ofChange icmpLooksSpec)) icmpLooksCard

/-- THE TIED CARD OF 'mosaiclaw08.IcmpMemory'. -/
def icmpMemoryCard : Claim7 := { stood := { row := icmpMemoryRow, standIns := [], harness := (true, "5755dbd148fd84804ef4b41784ba45908a891743359a62818a57c46f70c3e238"), looks := false }, kinds := [], alts := [], laidByText := true, laidKinds := [.data], laidTests := true, laidLooks := .later }
def IcmpMemoryCardSaid : Prop := Claim7.holds Tryd.pinned (.plain (OpenSpec.ofChange icmpMemorySpec)) icmpMemoryCard

/-- THE SECOND FORM's CARD OF 'mosaiclaw08.IcmpLooks'. -/
def icmpLooksUptoCard : Claim7 := { stood := { row := icmpLooksUptoRow, standIns := [], harness := (true, "5755dbd148fd84804ef4b41784ba45908a891743359a62818a57c46f70c3e238"), looks := false }, kinds := [], alts := [], laidByText := true, laidKinds := [.data], laidTests := true, laidLooks := .later }
def IcmpLooksUptoCardSaid : Prop := Claim7.holds Tryd.pinned (.plain (OpenSpec.upto icmpLooksSpec)) icmpLooksUptoCard

/-- THE SECOND FORM's CARD OF 'mosaiclaw08.IcmpMemory'. -/
def icmpMemoryUptoCard : Claim7 := { stood := { row := icmpMemoryUptoRow, standIns := [], harness := (true, "5755dbd148fd84804ef4b41784ba45908a891743359a62818a57c46f70c3e238"), looks := false }, kinds := [], alts := [], laidByText := true, laidKinds := [.data], laidTests := true, laidLooks := .later }
def IcmpMemoryUptoCardSaid : Prop := Claim7.holds Tryd.pinned (.plain (OpenSpec.upto icmpMemorySpec)) icmpMemoryUptoCard
end Rows
end Go.Proofs.YtbgpjhekohabiaaDoor
