/-
  NARROWER THAN 'FOR EVERY INPUT', by the rows' own cells (each row's printed sentence says how): CutRefuses: laid · CutAny: laid · CutFits: laid · CutMemory: laid · CutCuts: laid · CutIs: laid.
  DERIVED. THE GIVEN ROWS OF THIS SEAT. 6 by the template 'for every input the law returns true; each argument reads behind the call as it read before'; 0 by the template 'total and deterministic' (their statements: YtbnnfbfmomafnaaDoorTotals.lean).
  GIVEN WITH THE SEED: the statements are not yours to turn. If you find one false, say at which input.
  Laid BY PROGRAM, IN A SANDBOX (cutbox-rows.mjs): the forced cells as the released guide's own fill.sh prints them over the translation c9272d585d80d2f0… (all of the seat's roots in one cut). By AI agents, Wed Nov 11 2026. No macro, syntax, notation, axiom, sorry.
-/
import Derived.Test.YtbnnfbfmomafnaaDoorChecked
import GoSem.Claim
import GoSem.ClaimJoined
import GoSem.ClaimMapViews
import Derived.JoinedTies
import Derived.KernelRfl
namespace Go.Proofs.YtbnnfbfmomafnaaDoor
/- THE CELL 'sum', in the pinned program and in every row, IS THE sha256 OF THE DUMP (.gsa) THAT YtbnnfbfmomafnaaDoorProg.lean LOADS. Nothing in Lean hashes anything: it is a label: what it is worth is what the hold of that sum in a sandbox is worth. -/
noncomputable def Tryd.pinned : Pinned := { name := "ytbnnfbfmomafnaadoor", sum := "c9272d585d80d2f0c4c032ece338bf5b634869b6303aa94f079535b21e15ee99", checked := Tryd.checked }
namespace Rows
def none {H : Type} : Left H := { results := [], args := [] }

/- WHAT THE LISTED PACKAGE-LEVEL VARIABLES READ AS WHEN THE CALL BEGINS. Each datum BY PROGRAM (the guide's laid-datum.mjs) off the statement by which the dump's own 'gosem.cut.vars' lays the variable. In a bare row this is a premise. The card (YtbnnfbfmomafnaaDoorCards.lean) ties it to the program's text. -/
def laid_mosaic_opts_shapes {H : Type} : DataW H := .agg [.lit (.int .i64 0), .lit (.int .i64 1), .lit (.int .i64 2)]

/-- 'mosaiclaw10.CutRefuses': WHATEVER THE INPUT: true; the input reads as it did. -/
def cutRefusesSpec : ChangeSpec := { name := "cutRefuses", fn := fun _ => fun
  | [d1, d2, d3] => { results := [.lit (.bool true)], args := [d1, d2, d3] }
  | _ => none }
def cutRefusesRow : OpenClaim := { program := "ytbnnfbfmomafnaadoor", sum := "c9272d585d80d2f0c4c032ece338bf5b634869b6303aa94f079535b21e15ee99", func := "mosaic/mosaiclaw10.CutRefuses", spec := "cutRefuses", named := ["mosaic/opts.shapes"], apart := false, laid := [("mosaic/opts.shapes", laid_mosaic_opts_shapes)] }
def CutRefusesSaid : Prop := cutRefusesRow.holds Tryd.pinned (OpenSpec.ofChange cutRefusesSpec)

/-- ITS FALSE NEIGHBOUR: 'it returns false'. Refute it at one input. -/
def cutRefusesWrong : ChangeSpec := { name := "cutRefuses", fn := fun _ => fun
  | [d1, d2, d3] => { results := [.lit (.bool false)], args := [d1, d2, d3] }
  | _ => none }
def CutRefusesWrongFalsely : Prop := cutRefusesRow.holds Tryd.pinned (OpenSpec.ofChange cutRefusesWrong)

/-- 'mosaiclaw10.CutAny': WHATEVER THE INPUT: true; the input reads as it did. -/
def cutAnySpec : ChangeSpec := { name := "cutAny", fn := fun _ => fun
  | [d1, d2, d3, d4, d5] => { results := [.lit (.bool true)], args := [d1, d2, d3, d4, d5] }
  | _ => none }
def cutAnyRow : OpenClaim := { program := "ytbnnfbfmomafnaadoor", sum := "c9272d585d80d2f0c4c032ece338bf5b634869b6303aa94f079535b21e15ee99", func := "mosaic/mosaiclaw10.CutAny", spec := "cutAny", named := ["mosaic/opts.shapes"], apart := false, laid := [("mosaic/opts.shapes", laid_mosaic_opts_shapes)] }
def CutAnySaid : Prop := cutAnyRow.holds Tryd.pinned (OpenSpec.ofChange cutAnySpec)

/-- ITS FALSE NEIGHBOUR: 'it returns false'. Refute it at one input. -/
def cutAnyWrong : ChangeSpec := { name := "cutAny", fn := fun _ => fun
  | [d1, d2, d3, d4, d5] => { results := [.lit (.bool false)], args := [d1, d2, d3, d4, d5] }
  | _ => none }
def CutAnyWrongFalsely : Prop := cutAnyRow.holds Tryd.pinned (OpenSpec.ofChange cutAnyWrong)

/-- 'mosaiclaw10.CutFits': WHATEVER THE INPUT: true; the input reads as it did. -/
def cutFitsSpec : ChangeSpec := { name := "cutFits", fn := fun _ => fun
  | [d1, d2, d3] => { results := [.lit (.bool true)], args := [d1, d2, d3] }
  | _ => none }
def cutFitsRow : OpenClaim := { program := "ytbnnfbfmomafnaadoor", sum := "c9272d585d80d2f0c4c032ece338bf5b634869b6303aa94f079535b21e15ee99", func := "mosaic/mosaiclaw10.CutFits", spec := "cutFits", named := ["mosaic/opts.shapes"], apart := false, laid := [("mosaic/opts.shapes", laid_mosaic_opts_shapes)] }
def CutFitsSaid : Prop := cutFitsRow.holds Tryd.pinned (OpenSpec.ofChange cutFitsSpec)

/-- ITS FALSE NEIGHBOUR: 'it returns false'. Refute it at one input. -/
def cutFitsWrong : ChangeSpec := { name := "cutFits", fn := fun _ => fun
  | [d1, d2, d3] => { results := [.lit (.bool false)], args := [d1, d2, d3] }
  | _ => none }
def CutFitsWrongFalsely : Prop := cutFitsRow.holds Tryd.pinned (OpenSpec.ofChange cutFitsWrong)

/-- 'mosaiclaw10.CutMemory': WHATEVER THE INPUT: true; the input reads as it did. -/
def cutMemorySpec : ChangeSpec := { name := "cutMemory", fn := fun _ => fun
  | [d1, d2, d3] => { results := [.lit (.bool true)], args := [d1, d2, d3] }
  | _ => none }
def cutMemoryRow : OpenClaim := { program := "ytbnnfbfmomafnaadoor", sum := "c9272d585d80d2f0c4c032ece338bf5b634869b6303aa94f079535b21e15ee99", func := "mosaic/mosaiclaw10.CutMemory", spec := "cutMemory", named := ["mosaic/opts.shapes"], apart := false, laid := [("mosaic/opts.shapes", laid_mosaic_opts_shapes)] }
def CutMemorySaid : Prop := cutMemoryRow.holds Tryd.pinned (OpenSpec.ofChange cutMemorySpec)

/-- ITS FALSE NEIGHBOUR: 'it returns false'. Refute it at one input. -/
def cutMemoryWrong : ChangeSpec := { name := "cutMemory", fn := fun _ => fun
  | [d1, d2, d3] => { results := [.lit (.bool false)], args := [d1, d2, d3] }
  | _ => none }
def CutMemoryWrongFalsely : Prop := cutMemoryRow.holds Tryd.pinned (OpenSpec.ofChange cutMemoryWrong)

/-- 'mosaiclaw10.CutCuts': WHATEVER THE INPUT: true; the input reads as it did. -/
def cutCutsSpec : ChangeSpec := { name := "cutCuts", fn := fun _ => fun
  | [d1, d2, d3] => { results := [.lit (.bool true)], args := [d1, d2, d3] }
  | _ => none }
def cutCutsRow : OpenClaim := { program := "ytbnnfbfmomafnaadoor", sum := "c9272d585d80d2f0c4c032ece338bf5b634869b6303aa94f079535b21e15ee99", func := "mosaic/mosaiclaw10.CutCuts", spec := "cutCuts", named := ["mosaic/opts.shapes"], apart := false, laid := [("mosaic/opts.shapes", laid_mosaic_opts_shapes)] }
def CutCutsSaid : Prop := cutCutsRow.holds Tryd.pinned (OpenSpec.ofChange cutCutsSpec)

/-- ITS FALSE NEIGHBOUR: 'it returns false'. Refute it at one input. -/
def cutCutsWrong : ChangeSpec := { name := "cutCuts", fn := fun _ => fun
  | [d1, d2, d3] => { results := [.lit (.bool false)], args := [d1, d2, d3] }
  | _ => none }
def CutCutsWrongFalsely : Prop := cutCutsRow.holds Tryd.pinned (OpenSpec.ofChange cutCutsWrong)

/-- 'mosaiclaw10.CutIs': WHATEVER THE INPUT: true; the input reads as it did. -/
def cutIsSpec : ChangeSpec := { name := "cutIs", fn := fun _ => fun
  | [d1, d2, d3] => { results := [.lit (.bool true)], args := [d1, d2, d3] }
  | _ => none }
def cutIsRow : OpenClaim := { program := "ytbnnfbfmomafnaadoor", sum := "c9272d585d80d2f0c4c032ece338bf5b634869b6303aa94f079535b21e15ee99", func := "mosaic/mosaiclaw10.CutIs", spec := "cutIs", named := ["mosaic/opts.shapes"], apart := false, laid := [("mosaic/opts.shapes", laid_mosaic_opts_shapes)] }
def CutIsSaid : Prop := cutIsRow.holds Tryd.pinned (OpenSpec.ofChange cutIsSpec)

/-- ITS FALSE NEIGHBOUR: 'it returns false'. Refute it at one input. -/
def cutIsWrong : ChangeSpec := { name := "cutIs", fn := fun _ => fun
  | [d1, d2, d3] => { results := [.lit (.bool false)], args := [d1, d2, d3] }
  | _ => none }
def CutIsWrongFalsely : Prop := cutIsRow.holds Tryd.pinned (OpenSpec.ofChange cutIsWrong)

/- THE SECOND FORM. 'bulk': how many values and letters a reading holds, each counted each time it is reached (what is shared counts as often as it is met; a slice's spare places count too). A statement '..UptoSaid' is the law's where the arguments, and the package variables that the reading takes, are together of bulk at most 1048576: NARROWER than '..Said'. Prove '..Said' where nothing that the law and all that it calls make is longer than what came in: it says more and counts as full. Else prove '..UptoSaid'. A law counts once. -/
mutual
def uptoBulk {H : Type} : DataW H → Nat
  | .lit (.string bytes) => bytes.length + 1
  | .lit _ => 1
  | .nil => 1
  | .ptr d => uptoBulk d + 1
  | .slice elems spare => uptoBulkAll elems + uptoBulkAll spare + 1
  | .agg parts => uptoBulkAll parts + 1
  | .iface _ d => uptoBulk d + 1
  | .map entries => uptoBulkEntries entries + 1
  | .held _ => 1
def uptoBulkAll {H : Type} : List (DataW H) → Nat
  | [] => 0
  | d :: r => uptoBulk d + uptoBulkAll r
def uptoBulkEntries {H : Type} : List (Lit × DataW H) → Nat
  | [] => 0
  | x :: r => uptoBulkEntry x + uptoBulkEntries r
def uptoBulkEntry {H : Type} : Lit × DataW H → Nat
  | (.string bytes, d) => bytes.length + uptoBulk d + 1
  | (_, d) => uptoBulk d + 1
 end
def uptoSmall : (H : Type) → List (DataW H) → Bool := fun _ ds => decide (uptoBulkAll ds ≤ 1048576)
def OpenSpec.upto (s : _root_.Go.ChangeSpec) : _root_.Go.OpenSpec := { _root_.Go.OpenSpec.ofChange s with cond := some uptoSmall }

/-- 'mosaiclaw10.CutRefuses', WHERE WHAT IT READS IS OF BULK AT MOST 1048576: true; the input reads as it did. -/
def cutRefusesUptoRow : OpenClaim := { program := "ytbnnfbfmomafnaadoor", sum := "c9272d585d80d2f0c4c032ece338bf5b634869b6303aa94f079535b21e15ee99", func := "mosaic/mosaiclaw10.CutRefuses", spec := "cutRefuses", named := ["mosaic/opts.shapes"], apart := false, laid := [("mosaic/opts.shapes", laid_mosaic_opts_shapes)], narrowed := true }
def CutRefusesUptoSaid : Prop := cutRefusesUptoRow.holds Tryd.pinned (OpenSpec.upto cutRefusesSpec)

/-- 'mosaiclaw10.CutAny', WHERE WHAT IT READS IS OF BULK AT MOST 1048576: true; the input reads as it did. -/
def cutAnyUptoRow : OpenClaim := { program := "ytbnnfbfmomafnaadoor", sum := "c9272d585d80d2f0c4c032ece338bf5b634869b6303aa94f079535b21e15ee99", func := "mosaic/mosaiclaw10.CutAny", spec := "cutAny", named := ["mosaic/opts.shapes"], apart := false, laid := [("mosaic/opts.shapes", laid_mosaic_opts_shapes)], narrowed := true }
def CutAnyUptoSaid : Prop := cutAnyUptoRow.holds Tryd.pinned (OpenSpec.upto cutAnySpec)

/-- 'mosaiclaw10.CutFits', WHERE WHAT IT READS IS OF BULK AT MOST 1048576: true; the input reads as it did. -/
def cutFitsUptoRow : OpenClaim := { program := "ytbnnfbfmomafnaadoor", sum := "c9272d585d80d2f0c4c032ece338bf5b634869b6303aa94f079535b21e15ee99", func := "mosaic/mosaiclaw10.CutFits", spec := "cutFits", named := ["mosaic/opts.shapes"], apart := false, laid := [("mosaic/opts.shapes", laid_mosaic_opts_shapes)], narrowed := true }
def CutFitsUptoSaid : Prop := cutFitsUptoRow.holds Tryd.pinned (OpenSpec.upto cutFitsSpec)

/-- 'mosaiclaw10.CutMemory', WHERE WHAT IT READS IS OF BULK AT MOST 1048576: true; the input reads as it did. -/
def cutMemoryUptoRow : OpenClaim := { program := "ytbnnfbfmomafnaadoor", sum := "c9272d585d80d2f0c4c032ece338bf5b634869b6303aa94f079535b21e15ee99", func := "mosaic/mosaiclaw10.CutMemory", spec := "cutMemory", named := ["mosaic/opts.shapes"], apart := false, laid := [("mosaic/opts.shapes", laid_mosaic_opts_shapes)], narrowed := true }
def CutMemoryUptoSaid : Prop := cutMemoryUptoRow.holds Tryd.pinned (OpenSpec.upto cutMemorySpec)

/-- 'mosaiclaw10.CutCuts', WHERE WHAT IT READS IS OF BULK AT MOST 1048576: true; the input reads as it did. -/
def cutCutsUptoRow : OpenClaim := { program := "ytbnnfbfmomafnaadoor", sum := "c9272d585d80d2f0c4c032ece338bf5b634869b6303aa94f079535b21e15ee99", func := "mosaic/mosaiclaw10.CutCuts", spec := "cutCuts", named := ["mosaic/opts.shapes"], apart := false, laid := [("mosaic/opts.shapes", laid_mosaic_opts_shapes)], narrowed := true }
def CutCutsUptoSaid : Prop := cutCutsUptoRow.holds Tryd.pinned (OpenSpec.upto cutCutsSpec)

/-- 'mosaiclaw10.CutIs', WHERE WHAT IT READS IS OF BULK AT MOST 1048576: true; the input reads as it did. -/
def cutIsUptoRow : OpenClaim := { program := "ytbnnfbfmomafnaadoor", sum := "c9272d585d80d2f0c4c032ece338bf5b634869b6303aa94f079535b21e15ee99", func := "mosaic/mosaiclaw10.CutIs", spec := "cutIs", named := ["mosaic/opts.shapes"], apart := false, laid := [("mosaic/opts.shapes", laid_mosaic_opts_shapes)], narrowed := true }
def CutIsUptoSaid : Prop := cutIsUptoRow.holds Tryd.pinned (OpenSpec.upto cutIsSpec)

end Rows
end Go.Proofs.YtbnnfbfmomafnaaDoor
