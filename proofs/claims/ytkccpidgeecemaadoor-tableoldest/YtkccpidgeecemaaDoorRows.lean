/-
  NARROWER THAN 'FOR EVERY INPUT', by the rows' own cells (each row's printed sentence says how): TableOldest: laid · TableBounds: laid.
  DERIVED. THE GIVEN ROWS OF THIS SEAT. 2 by the template 'for every input the law returns true; each argument reads behind the call as it read before'; 0 by the template 'total and deterministic' (their statements: YtkccpidgeecemaaDoorTotals.lean).
  GIVEN WITH THE SEED: the statements are not yours to turn. If you find one false, say at which input.
  Laid BY PROGRAM, IN A SANDBOX (cutbox-rows.mjs): the forced cells as the released guide's own fill.sh prints them over the translation 0b923f52e0c50363… (all of the seat's roots in one cut). By AI agents, Wed Nov 11 2026. No macro, syntax, notation, axiom, sorry.
-/
import Derived.Test.YtkccpidgeecemaaDoorChecked
import GoSem.Claim
import GoSem.ClaimJoined
import GoSem.ClaimMapViews
import Derived.JoinedTies
import Derived.KernelRfl
namespace Go.Proofs.YtkccpidgeecemaaDoor
/- THE CELL 'sum', in the pinned program and in every row, IS THE sha256 OF THE DUMP (.gsa) THAT YtkccpidgeecemaaDoorProg.lean LOADS. Nothing in Lean hashes anything: it is a label: what it is worth is what the hold of that sum in a sandbox is worth. -/
noncomputable def Tryd.pinned : Pinned := { name := "ytkccpidgeecemaadoor", sum := "0b923f52e0c50363807c17581864240bbd6105679e772980c51d323e649c8a32", checked := Tryd.checked }
namespace Rows
def none {H : Type} : Left H := { results := [], args := [] }

/- WHAT THE LISTED PACKAGE-LEVEL VARIABLES READ AS WHEN THE CALL BEGINS. Each datum BY PROGRAM (the guide's laid-datum.mjs) off the statement by which the dump's own 'gosem.cut.vars' lays the variable. In a bare row this is a premise. The card (YtkccpidgeecemaaDoorCards.lean) ties it to the program's text. -/
def laid_mosaic_opts_shapes {H : Type} : DataW H := .agg [.lit (.int .i64 0), .lit (.int .i64 1), .lit (.int .i64 2)]

/-- 'mosaiclaw15.TableOldest': WHATEVER THE INPUT: true; the input reads as it did. -/
def tableOldestSpec : ChangeSpec := { name := "tableOldest", fn := fun _ => fun
  | [d1, d2, d3] => { results := [.lit (.bool true)], args := [d1, d2, d3] }
  | _ => none }
def tableOldestRow : OpenClaim := { program := "ytkccpidgeecemaadoor", sum := "0b923f52e0c50363807c17581864240bbd6105679e772980c51d323e649c8a32", func := "mosaic/mosaiclaw15.TableOldest", spec := "tableOldest", inPlace := ["slices.overlaps[mosaic/api.Span]"], unfollowed := true, recurses := true, named := ["mosaic/opts.shapes"], plainKeys := false, apart := false, laid := [("mosaic/opts.shapes", laid_mosaic_opts_shapes)] }
def TableOldestSaid : Prop := tableOldestRow.holds Tryd.pinned (OpenSpec.ofChange tableOldestSpec)

/-- ITS FALSE NEIGHBOUR: 'it returns false'. Refute it at one input. -/
def tableOldestWrong : ChangeSpec := { name := "tableOldest", fn := fun _ => fun
  | [d1, d2, d3] => { results := [.lit (.bool false)], args := [d1, d2, d3] }
  | _ => none }
def TableOldestWrongFalsely : Prop := tableOldestRow.holds Tryd.pinned (OpenSpec.ofChange tableOldestWrong)

/-- 'mosaiclaw15.TableBounds': WHATEVER THE INPUT: true; the input reads as it did. -/
def tableBoundsSpec : ChangeSpec := { name := "tableBounds", fn := fun _ => fun
  | [d1, d2, d3] => { results := [.lit (.bool true)], args := [d1, d2, d3] }
  | _ => none }
def tableBoundsRow : OpenClaim := { program := "ytkccpidgeecemaadoor", sum := "0b923f52e0c50363807c17581864240bbd6105679e772980c51d323e649c8a32", func := "mosaic/mosaiclaw15.TableBounds", spec := "tableBounds", inPlace := ["slices.overlaps[mosaic/api.Span]"], unfollowed := true, recurses := true, named := ["mosaic/opts.shapes"], plainKeys := false, apart := false, laid := [("mosaic/opts.shapes", laid_mosaic_opts_shapes)] }
def TableBoundsSaid : Prop := tableBoundsRow.holds Tryd.pinned (OpenSpec.ofChange tableBoundsSpec)

/-- ITS FALSE NEIGHBOUR: 'it returns false'. Refute it at one input. -/
def tableBoundsWrong : ChangeSpec := { name := "tableBounds", fn := fun _ => fun
  | [d1, d2, d3] => { results := [.lit (.bool false)], args := [d1, d2, d3] }
  | _ => none }
def TableBoundsWrongFalsely : Prop := tableBoundsRow.holds Tryd.pinned (OpenSpec.ofChange tableBoundsWrong)

/- THE SECOND FORM. 'bulk': how many values and letters a reading holds, each counted each time it is reached (what is shared counts as often as it is met; a slice's spare places count too). A statement '..UptoSaid' is the law's where the arguments, and the package variables that the reading takes, are together of bulk at most 1048576: NARROWER than '..Said'. Prove '..Said' where nothing that the law and all that it calls make is longer than what came in: it says more and counts as full. Else prove '..UptoSaid'. A law counts once. -/
mutual
def uptoBulk {H : Type} : DataW H → Nat
  | .lit (.string bytes) => bytes.length + 1
  | .lit _ => 1
  | .nil => 1
  | .ptr d => uptoBulk d + 1
  | .slice elems spare => uptoBulkAll elems + uptoBulkAll spare + 1
  | .agg parts => uptoBulkAll parts + 1
  | .iface _ d => uptoBulk d + 1
  | .map entries => uptoBulkEntries entries + 1
  | .held _ => 1
def uptoBulkAll {H : Type} : List (DataW H) → Nat
  | [] => 0
  | d :: r => uptoBulk d + uptoBulkAll r
def uptoBulkEntries {H : Type} : List (Lit × DataW H) → Nat
  | [] => 0
  | x :: r => uptoBulkEntry x + uptoBulkEntries r
def uptoBulkEntry {H : Type} : Lit × DataW H → Nat
  | (.string bytes, d) => bytes.length + uptoBulk d + 1
  | (_, d) => uptoBulk d + 1
 end
def uptoSmall : (H : Type) → List (DataW H) → Bool := fun _ ds => decide (uptoBulkAll ds ≤ 1048576)
def OpenSpec.upto (s : _root_.Go.ChangeSpec) : _root_.Go.OpenSpec := { _root_.Go.OpenSpec.ofChange s with cond := some uptoSmall }

/-- 'mosaiclaw15.TableOldest', WHERE WHAT IT READS IS OF BULK AT MOST 1048576: true; the input reads as it did. -/
def tableOldestUptoRow : OpenClaim := { program := "ytkccpidgeecemaadoor", sum := "0b923f52e0c50363807c17581864240bbd6105679e772980c51d323e649c8a32", func := "mosaic/mosaiclaw15.TableOldest", spec := "tableOldest", inPlace := ["slices.overlaps[mosaic/api.Span]"], unfollowed := true, recurses := true, named := ["mosaic/opts.shapes"], plainKeys := false, apart := false, laid := [("mosaic/opts.shapes", laid_mosaic_opts_shapes)], narrowed := true }
def TableOldestUptoSaid : Prop := tableOldestUptoRow.holds Tryd.pinned (OpenSpec.upto tableOldestSpec)

/-- 'mosaiclaw15.TableBounds', WHERE WHAT IT READS IS OF BULK AT MOST 1048576: true; the input reads as it did. -/
def tableBoundsUptoRow : OpenClaim := { program := "ytkccpidgeecemaadoor", sum := "0b923f52e0c50363807c17581864240bbd6105679e772980c51d323e649c8a32", func := "mosaic/mosaiclaw15.TableBounds", spec := "tableBounds", inPlace := ["slices.overlaps[mosaic/api.Span]"], unfollowed := true, recurses := true, named := ["mosaic/opts.shapes"], plainKeys := false, apart := false, laid := [("mosaic/opts.shapes", laid_mosaic_opts_shapes)], narrowed := true }
def TableBoundsUptoSaid : Prop := tableBoundsUptoRow.holds Tryd.pinned (OpenSpec.upto tableBoundsSpec)

end Rows
end Go.Proofs.YtkccpidgeecemaaDoor
