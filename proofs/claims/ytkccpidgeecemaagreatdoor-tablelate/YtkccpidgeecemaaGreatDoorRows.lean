/-
  NARROWER THAN 'FOR EVERY INPUT', by the rows' own cells (each row's printed sentence says how): TableWithin: laid · TableLate: laid · TableMemory: laid · TableApart: laid.
  DERIVED. THE GIVEN ROWS OF THIS SEAT. 4 by the template 'for every input the law returns true; each argument reads behind the call as it read before'; 0 by the template 'total and deterministic' (their statements: YtkccpidgeecemaaGreatDoorTotals.lean).
  GIVEN WITH THE SEED: the statements are not yours to turn. If you find one false, say at which input.
  Laid BY PROGRAM, IN A SANDBOX (cutbox-rows.mjs): the forced cells as the released guide's own fill.sh prints them over the translation 377e4fa32dabf7ab… (all of the seat's roots in one cut). By AI agents, Wed Nov 11 2026. No macro, syntax, notation, axiom, sorry.
-/
import Derived.Test.YtkccpidgeecemaaGreatDoorChecked
import GoSem.Claim
import GoSem.ClaimJoined
import GoSem.ClaimMapViews
import Derived.JoinedTies
import Derived.KernelRfl
namespace Go.Proofs.YtkccpidgeecemaaGreatDoor
/- THE CELL 'sum', in the pinned program and in every row, IS THE sha256 OF THE DUMP (.gsa) THAT YtkccpidgeecemaaGreatDoorProg.lean LOADS. Nothing in Lean hashes anything: it is a label: what it is worth is what the hold of that sum in a sandbox is worth. -/
noncomputable def Tryz.pinned : Pinned := { name := "ytkccpidgeecemaagreatdoor", sum := "377e4fa32dabf7abb8f9bd1255a96209f332aa54f570d08590368acbccad65e1", checked := Tryz.checked }
namespace Rows
def none {H : Type} : Left H := { results := [], args := [] }

/- WHAT THE LISTED PACKAGE-LEVEL VARIABLES READ AS WHEN THE CALL BEGINS. Each datum BY PROGRAM (the guide's laid-datum.mjs) off the statement by which the dump's own 'gosem.cut.vars' lays the variable. In a bare row this is a premise. The card (YtkccpidgeecemaaGreatDoorCards.lean) ties it to the program's text. -/
def laid_mosaic_opts_shapes {H : Type} : DataW H := .agg [.lit (.int .i64 0), .lit (.int .i64 1), .lit (.int .i64 2)]

/-- 'mosaiclaw15.TableWithin': WHATEVER THE INPUT: true; the input reads as it did. -/
def tableWithinSpec : ChangeSpec := { name := "tableWithin", fn := fun _ => fun
  | [d1, d2] => { results := [.lit (.bool true)], args := [d1, d2] }
  | _ => none }
def tableWithinRow : OpenClaim := { program := "ytkccpidgeecemaagreatdoor", sum := "377e4fa32dabf7abb8f9bd1255a96209f332aa54f570d08590368acbccad65e1", func := "mosaic/mosaiclaw15.TableWithin", spec := "tableWithin", inPlace := ["slices.overlaps[mosaic/api.Span]"], unfollowed := true, recurses := true, named := ["mosaic/opts.shapes"], plainKeys := false, apart := false, laid := [("mosaic/opts.shapes", laid_mosaic_opts_shapes)] }
def TableWithinSaid : Prop := tableWithinRow.holds Tryz.pinned (OpenSpec.ofChange tableWithinSpec)

/-- ITS FALSE NEIGHBOUR: 'it returns false'. Refute it at one input. -/
def tableWithinWrong : ChangeSpec := { name := "tableWithin", fn := fun _ => fun
  | [d1, d2] => { results := [.lit (.bool false)], args := [d1, d2] }
  | _ => none }
def TableWithinWrongFalsely : Prop := tableWithinRow.holds Tryz.pinned (OpenSpec.ofChange tableWithinWrong)

/-- 'mosaiclaw15.TableLate': WHATEVER THE INPUT: true; the input reads as it did. -/
def tableLateSpec : ChangeSpec := { name := "tableLate", fn := fun _ => fun
  | [d1, d2, d3, d4, d5] => { results := [.lit (.bool true)], args := [d1, d2, d3, d4, d5] }
  | _ => none }
def tableLateRow : OpenClaim := { program := "ytkccpidgeecemaagreatdoor", sum := "377e4fa32dabf7abb8f9bd1255a96209f332aa54f570d08590368acbccad65e1", func := "mosaic/mosaiclaw15.TableLate", spec := "tableLate", inPlace := ["slices.overlaps[mosaic/api.Span]"], unfollowed := true, recurses := true, named := ["mosaic/opts.shapes"], plainKeys := false, apart := false, laid := [("mosaic/opts.shapes", laid_mosaic_opts_shapes)] }
def TableLateSaid : Prop := tableLateRow.holds Tryz.pinned (OpenSpec.ofChange tableLateSpec)

/-- ITS FALSE NEIGHBOUR: 'it returns false'. Refute it at one input. -/
def tableLateWrong : ChangeSpec := { name := "tableLate", fn := fun _ => fun
  | [d1, d2, d3, d4, d5] => { results := [.lit (.bool false)], args := [d1, d2, d3, d4, d5] }
  | _ => none }
def TableLateWrongFalsely : Prop := tableLateRow.holds Tryz.pinned (OpenSpec.ofChange tableLateWrong)

/-- 'mosaiclaw15.TableMemory': WHATEVER THE INPUT: true; the input reads as it did. -/
def tableMemorySpec : ChangeSpec := { name := "tableMemory", fn := fun _ => fun
  | [d1, d2] => { results := [.lit (.bool true)], args := [d1, d2] }
  | _ => none }
def tableMemoryRow : OpenClaim := { program := "ytkccpidgeecemaagreatdoor", sum := "377e4fa32dabf7abb8f9bd1255a96209f332aa54f570d08590368acbccad65e1", func := "mosaic/mosaiclaw15.TableMemory", spec := "tableMemory", inPlace := ["slices.overlaps[mosaic/api.Span]"], unfollowed := true, recurses := true, named := ["mosaic/opts.shapes"], plainKeys := false, apart := false, laid := [("mosaic/opts.shapes", laid_mosaic_opts_shapes)] }
def TableMemorySaid : Prop := tableMemoryRow.holds Tryz.pinned (OpenSpec.ofChange tableMemorySpec)

/-- ITS FALSE NEIGHBOUR: 'it returns false'. Refute it at one input. -/
def tableMemoryWrong : ChangeSpec := { name := "tableMemory", fn := fun _ => fun
  | [d1, d2] => { results := [.lit (.bool false)], args := [d1, d2] }
  | _ => none }
def TableMemoryWrongFalsely : Prop := tableMemoryRow.holds Tryz.pinned (OpenSpec.ofChange tableMemoryWrong)

/-- 'mosaiclaw15.TableApart': WHATEVER THE INPUT: true; the input reads as it did. -/
def tableApartSpec : ChangeSpec := { name := "tableApart", fn := fun _ => fun
  | [d1, d2, d3, d4, d5] => { results := [.lit (.bool true)], args := [d1, d2, d3, d4, d5] }
  | _ => none }
def tableApartRow : OpenClaim := { program := "ytkccpidgeecemaagreatdoor", sum := "377e4fa32dabf7abb8f9bd1255a96209f332aa54f570d08590368acbccad65e1", func := "mosaic/mosaiclaw15.TableApart", spec := "tableApart", inPlace := ["slices.overlaps[mosaic/api.Span]"], unfollowed := true, recurses := true, named := ["mosaic/opts.shapes"], plainKeys := false, apart := false, laid := [("mosaic/opts.shapes", laid_mosaic_opts_shapes)] }
def TableApartSaid : Prop := tableApartRow.holds Tryz.pinned (OpenSpec.ofChange tableApartSpec)

/-- ITS FALSE NEIGHBOUR: 'it returns false'. Refute it at one input. -/
def tableApartWrong : ChangeSpec := { name := "tableApart", fn := fun _ => fun
  | [d1, d2, d3, d4, d5] => { results := [.lit (.bool false)], args := [d1, d2, d3, d4, d5] }
  | _ => none }
def TableApartWrongFalsely : Prop := tableApartRow.holds Tryz.pinned (OpenSpec.ofChange tableApartWrong)

/- THE SECOND FORM. 'bulk': how many values and letters a reading holds, each counted each time it is reached (what is shared counts as often as it is met; a slice's spare places count too). A statement '..UptoSaid' is the law's where the arguments, and the package variables that the reading takes, are together of bulk at most 1048576: NARROWER than '..Said'. Prove '..Said' where nothing that the law and all that it calls make is longer than what came in: it says more and counts as full. Else prove '..UptoSaid'. A law counts once. -/
mutual
def uptoBulk {H : Type} : DataW H → Nat
  | .lit (.string bytes) => bytes.length + 1
  | .lit _ => 1
  | .nil => 1
  | .ptr d => uptoBulk d + 1
  | .slice elems spare => uptoBulkAll elems + uptoBulkAll spare + 1
  | .agg parts => uptoBulkAll parts + 1
  | .iface _ d => uptoBulk d + 1
  | .map entries => uptoBulkEntries entries + 1
  | .held _ => 1
def uptoBulkAll {H : Type} : List (DataW H) → Nat
  | [] => 0
  | d :: r => uptoBulk d + uptoBulkAll r
def uptoBulkEntries {H : Type} : List (Lit × DataW H) → Nat
  | [] => 0
  | x :: r => uptoBulkEntry x + uptoBulkEntries r
def uptoBulkEntry {H : Type} : Lit × DataW H → Nat
  | (.string bytes, d) => bytes.length + uptoBulk d + 1
  | (_, d) => uptoBulk d + 1
 end
def uptoSmall : (H : Type) → List (DataW H) → Bool := fun _ ds => decide (uptoBulkAll ds ≤ 1048576)
def OpenSpec.upto (s : _root_.Go.ChangeSpec) : _root_.Go.OpenSpec := { _root_.Go.OpenSpec.ofChange s with cond := some uptoSmall }

/-- 'mosaiclaw15.TableWithin', WHERE WHAT IT READS IS OF BULK AT MOST 1048576: true; the input reads as it did. -/
def tableWithinUptoRow : OpenClaim := { program := "ytkccpidgeecemaagreatdoor", sum := "377e4fa32dabf7abb8f9bd1255a96209f332aa54f570d08590368acbccad65e1", func := "mosaic/mosaiclaw15.TableWithin", spec := "tableWithin", inPlace := ["slices.overlaps[mosaic/api.Span]"], unfollowed := true, recurses := true, named := ["mosaic/opts.shapes"], plainKeys := false, apart := false, laid := [("mosaic/opts.shapes", laid_mosaic_opts_shapes)], narrowed := true }
def TableWithinUptoSaid : Prop := tableWithinUptoRow.holds Tryz.pinned (OpenSpec.upto tableWithinSpec)

/-- 'mosaiclaw15.TableLate', WHERE WHAT IT READS IS OF BULK AT MOST 1048576: true; the input reads as it did. -/
def tableLateUptoRow : OpenClaim := { program := "ytkccpidgeecemaagreatdoor", sum := "377e4fa32dabf7abb8f9bd1255a96209f332aa54f570d08590368acbccad65e1", func := "mosaic/mosaiclaw15.TableLate", spec := "tableLate", inPlace := ["slices.overlaps[mosaic/api.Span]"], unfollowed := true, recurses := true, named := ["mosaic/opts.shapes"], plainKeys := false, apart := false, laid := [("mosaic/opts.shapes", laid_mosaic_opts_shapes)], narrowed := true }
def TableLateUptoSaid : Prop := tableLateUptoRow.holds Tryz.pinned (OpenSpec.upto tableLateSpec)

/-- 'mosaiclaw15.TableMemory', WHERE WHAT IT READS IS OF BULK AT MOST 1048576: true; the input reads as it did. -/
def tableMemoryUptoRow : OpenClaim := { program := "ytkccpidgeecemaagreatdoor", sum := "377e4fa32dabf7abb8f9bd1255a96209f332aa54f570d08590368acbccad65e1", func := "mosaic/mosaiclaw15.TableMemory", spec := "tableMemory", inPlace := ["slices.overlaps[mosaic/api.Span]"], unfollowed := true, recurses := true, named := ["mosaic/opts.shapes"], plainKeys := false, apart := false, laid := [("mosaic/opts.shapes", laid_mosaic_opts_shapes)], narrowed := true }
def TableMemoryUptoSaid : Prop := tableMemoryUptoRow.holds Tryz.pinned (OpenSpec.upto tableMemorySpec)

/-- 'mosaiclaw15.TableApart', WHERE WHAT IT READS IS OF BULK AT MOST 1048576: true; the input reads as it did. -/
def tableApartUptoRow : OpenClaim := { program := "ytkccpidgeecemaagreatdoor", sum := "377e4fa32dabf7abb8f9bd1255a96209f332aa54f570d08590368acbccad65e1", func := "mosaic/mosaiclaw15.TableApart", spec := "tableApart", inPlace := ["slices.overlaps[mosaic/api.Span]"], unfollowed := true, recurses := true, named := ["mosaic/opts.shapes"], plainKeys := false, apart := false, laid := [("mosaic/opts.shapes", laid_mosaic_opts_shapes)], narrowed := true }
def TableApartUptoSaid : Prop := tableApartUptoRow.holds Tryz.pinned (OpenSpec.upto tableApartSpec)

end Rows
end Go.Proofs.YtkccpidgeecemaaGreatDoor
