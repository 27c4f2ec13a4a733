/-
  NARROWER THAN 'FOR EVERY INPUT', by the rows' own cells (each row's printed sentence says how): EntryJoins: laid · EntryMemory: laid · EntryPuts: laid.
  DERIVED. THE GIVEN ROWS OF THIS SEAT. 3 by the template 'for every input the law returns true; each argument reads behind the call as it read before'; 0 by the template 'total and deterministic' (their statements: YtbkeilboneaejaaGreatDoorTotals.lean).
  GIVEN WITH THE SEED: the statements are not yours to turn. If you find one false, say at which input.
  Laid BY PROGRAM, IN A SANDBOX (cutbox-rows.mjs): the forced cells as the released guide's own fill.sh prints them over the translation e7277af16b622d31… (all of the seat's roots in one cut). By AI agents, Wed Nov 11 2026. No macro, syntax, notation, axiom, sorry.
-/
import Derived.Test.YtbkeilboneaejaaGreatDoorChecked
import GoSem.Claim
import GoSem.ClaimJoined
import GoSem.ClaimMapViews
import Derived.JoinedTies
import Derived.KernelRfl
namespace Go.Proofs.YtbkeilboneaejaaGreatDoor
/- THE CELL 'sum', in the pinned program and in every row, IS THE sha256 OF THE DUMP (.gsa) THAT YtbkeilboneaejaaGreatDoorProg.lean LOADS. Nothing in Lean hashes anything: it is a label: what it is worth is what the hold of that sum in a sandbox is worth. -/
noncomputable def Tryz.pinned : Pinned := { name := "ytbkeilboneaejaagreatdoor", sum := "e7277af16b622d31c0f6a5a6720c09281687c395cceec39baf74b3a0f11d9606", checked := Tryz.checked }
namespace Rows
def none {H : Type} : Left H := { results := [], args := [] }

/- WHAT THE LISTED PACKAGE-LEVEL VARIABLES READ AS WHEN THE CALL BEGINS. Each datum BY PROGRAM (the guide's laid-datum.mjs) off the statement by which the dump's own 'gosem.cut.vars' lays the variable. In a bare row this is a premise. The card (YtbkeilboneaejaaGreatDoorCards.lean) ties it to the program's text. -/
def laid_mosaic_opts_shapes {H : Type} : DataW H := .agg [.lit (.int .i64 0), .lit (.int .i64 1), .lit (.int .i64 2)]

/-- 'mosaiclaw14.EntryJoins': WHATEVER THE INPUT: true; the input reads as it did. -/
def entryJoinsSpec : ChangeSpec := { name := "entryJoins", fn := fun _ => fun
  | [d1, d2, d3, d4] => { results := [.lit (.bool true)], args := [d1, d2, d3, d4] }
  | _ => none }
def entryJoinsRow : OpenClaim := { program := "ytbkeilboneaejaagreatdoor", sum := "e7277af16b622d31c0f6a5a6720c09281687c395cceec39baf74b3a0f11d9606", func := "mosaic/mosaiclaw14.EntryJoins", spec := "entryJoins", inPlace := ["slices.overlaps[mosaic/api.Span]"], unfollowed := true, recurses := true, named := ["mosaic/opts.shapes"], apart := false, laid := [("mosaic/opts.shapes", laid_mosaic_opts_shapes)] }
def EntryJoinsSaid : Prop := entryJoinsRow.holds Tryz.pinned (OpenSpec.ofChange entryJoinsSpec)

/-- ITS FALSE NEIGHBOUR: 'it returns false'. Refute it at one input. -/
def entryJoinsWrong : ChangeSpec := { name := "entryJoins", fn := fun _ => fun
  | [d1, d2, d3, d4] => { results := [.lit (.bool false)], args := [d1, d2, d3, d4] }
  | _ => none }
def EntryJoinsWrongFalsely : Prop := entryJoinsRow.holds Tryz.pinned (OpenSpec.ofChange entryJoinsWrong)

/-- 'mosaiclaw14.EntryMemory': WHATEVER THE INPUT: true; the input reads as it did. -/
def entryMemorySpec : ChangeSpec := { name := "entryMemory", fn := fun _ => fun
  | [d1, d2] => { results := [.lit (.bool true)], args := [d1, d2] }
  | _ => none }
def entryMemoryRow : OpenClaim := { program := "ytbkeilboneaejaagreatdoor", sum := "e7277af16b622d31c0f6a5a6720c09281687c395cceec39baf74b3a0f11d9606", func := "mosaic/mosaiclaw14.EntryMemory", spec := "entryMemory", inPlace := ["slices.overlaps[mosaic/api.Span]"], unfollowed := true, recurses := true, named := ["mosaic/opts.shapes"], apart := false, laid := [("mosaic/opts.shapes", laid_mosaic_opts_shapes)] }
def EntryMemorySaid : Prop := entryMemoryRow.holds Tryz.pinned (OpenSpec.ofChange entryMemorySpec)

/-- ITS FALSE NEIGHBOUR: 'it returns false'. Refute it at one input. -/
def entryMemoryWrong : ChangeSpec := { name := "entryMemory", fn := fun _ => fun
  | [d1, d2] => { results := [.lit (.bool false)], args := [d1, d2] }
  | _ => none }
def EntryMemoryWrongFalsely : Prop := entryMemoryRow.holds Tryz.pinned (OpenSpec.ofChange entryMemoryWrong)

/-- 'mosaiclaw14.EntryPuts': WHATEVER THE INPUT: true; the input reads as it did. -/
def entryPutsSpec : ChangeSpec := { name := "entryPuts", fn := fun _ => fun
  | [d1, d2, d3, d4] => { results := [.lit (.bool true)], args := [d1, d2, d3, d4] }
  | _ => none }
def entryPutsRow : OpenClaim := { program := "ytbkeilboneaejaagreatdoor", sum := "e7277af16b622d31c0f6a5a6720c09281687c395cceec39baf74b3a0f11d9606", func := "mosaic/mosaiclaw14.EntryPuts", spec := "entryPuts", inPlace := ["slices.overlaps[mosaic/api.Span]"], unfollowed := true, recurses := true, named := ["mosaic/opts.shapes"], apart := false, laid := [("mosaic/opts.shapes", laid_mosaic_opts_shapes)] }
def EntryPutsSaid : Prop := entryPutsRow.holds Tryz.pinned (OpenSpec.ofChange entryPutsSpec)

/-- ITS FALSE NEIGHBOUR: 'it returns false'. Refute it at one input. -/
def entryPutsWrong : ChangeSpec := { name := "entryPuts", fn := fun _ => fun
  | [d1, d2, d3, d4] => { results := [.lit (.bool false)], args := [d1, d2, d3, d4] }
  | _ => none }
def EntryPutsWrongFalsely : Prop := entryPutsRow.holds Tryz.pinned (OpenSpec.ofChange entryPutsWrong)

/- THE SECOND FORM. 'bulk': how many values and letters a reading holds, each counted each time it is reached (what is shared counts as often as it is met; a slice's spare places count too). A statement '..UptoSaid' is the law's where the arguments, and the package variables that the reading takes, are together of bulk at most 1048576: NARROWER than '..Said'. Prove '..Said' where nothing that the law and all that it calls make is longer than what came in: it says more and counts as full. Else prove '..UptoSaid'. A law counts once. -/
mutual
def uptoBulk {H : Type} : DataW H → Nat
  | .lit (.string bytes) => bytes.length + 1
  | .lit _ => 1
  | .nil => 1
  | .ptr d => uptoBulk d + 1
  | .slice elems spare => uptoBulkAll elems + uptoBulkAll spare + 1
  | .agg parts => uptoBulkAll parts + 1
  | .iface _ d => uptoBulk d + 1
  | .map entries => uptoBulkEntries entries + 1
  | .held _ => 1
def uptoBulkAll {H : Type} : List (DataW H) → Nat
  | [] => 0
  | d :: r => uptoBulk d + uptoBulkAll r
def uptoBulkEntries {H : Type} : List (Lit × DataW H) → Nat
  | [] => 0
  | x :: r => uptoBulkEntry x + uptoBulkEntries r
def uptoBulkEntry {H : Type} : Lit × DataW H → Nat
  | (.string bytes, d) => bytes.length + uptoBulk d + 1
  | (_, d) => uptoBulk d + 1
 end
def uptoSmall : (H : Type) → List (DataW H) → Bool := fun _ ds => decide (uptoBulkAll ds ≤ 1048576)
def OpenSpec.upto (s : _root_.Go.ChangeSpec) : _root_.Go.OpenSpec := { _root_.Go.OpenSpec.ofChange s with cond := some uptoSmall }

/-- 'mosaiclaw14.EntryJoins', WHERE WHAT IT READS IS OF BULK AT MOST 1048576: true; the input reads as it did. -/
def entryJoinsUptoRow : OpenClaim := { program := "ytbkeilboneaejaagreatdoor", sum := "e7277af16b622d31c0f6a5a6720c09281687c395cceec39baf74b3a0f11d9606", func := "mosaic/mosaiclaw14.EntryJoins", spec := "entryJoins", inPlace := ["slices.overlaps[mosaic/api.Span]"], unfollowed := true, recurses := true, named := ["mosaic/opts.shapes"], apart := false, laid := [("mosaic/opts.shapes", laid_mosaic_opts_shapes)], narrowed := true }
def EntryJoinsUptoSaid : Prop := entryJoinsUptoRow.holds Tryz.pinned (OpenSpec.upto entryJoinsSpec)

/-- 'mosaiclaw14.EntryMemory', WHERE WHAT IT READS IS OF BULK AT MOST 1048576: true; the input reads as it did. -/
def entryMemoryUptoRow : OpenClaim := { program := "ytbkeilboneaejaagreatdoor", sum := "e7277af16b622d31c0f6a5a6720c09281687c395cceec39baf74b3a0f11d9606", func := "mosaic/mosaiclaw14.EntryMemory", spec := "entryMemory", inPlace := ["slices.overlaps[mosaic/api.Span]"], unfollowed := true, recurses := true, named := ["mosaic/opts.shapes"], apart := false, laid := [("mosaic/opts.shapes", laid_mosaic_opts_shapes)], narrowed := true }
def EntryMemoryUptoSaid : Prop := entryMemoryUptoRow.holds Tryz.pinned (OpenSpec.upto entryMemorySpec)

/-- 'mosaiclaw14.EntryPuts', WHERE WHAT IT READS IS OF BULK AT MOST 1048576: true; the input reads as it did. -/
def entryPutsUptoRow : OpenClaim := { program := "ytbkeilboneaejaagreatdoor", sum := "e7277af16b622d31c0f6a5a6720c09281687c395cceec39baf74b3a0f11d9606", func := "mosaic/mosaiclaw14.EntryPuts", spec := "entryPuts", inPlace := ["slices.overlaps[mosaic/api.Span]"], unfollowed := true, recurses := true, named := ["mosaic/opts.shapes"], apart := false, laid := [("mosaic/opts.shapes", laid_mosaic_opts_shapes)], narrowed := true }
def EntryPutsUptoSaid : Prop := entryPutsUptoRow.holds Tryz.pinned (OpenSpec.upto entryPutsSpec)

end Rows
end Go.Proofs.YtbkeilboneaejaaGreatDoor
