/-
  NARROWER THAN 'FOR EVERY INPUT', by the rows' own cells (each row's printed sentence says how): IcmpLooks: laid · IcmpMemory: laid.
  DERIVED. THE GIVEN ROWS OF THIS SEAT. 2 by the template 'for every input the law returns true; each argument reads behind the call as it read before'; 0 by the template 'total and deterministic' (their statements: YtbgpjhekohabiaaDoorTotals.lean).
  GIVEN WITH THE SEED: the statements are not yours to turn. If you find one false, say at which input.
  Laid BY PROGRAM, IN A SANDBOX (cutbox-rows.mjs): the forced cells as the released guide's own fill.sh prints them over the translation bcd46ff1354c7312… (all of the seat's roots in one cut). By AI agents, Wed Nov 11 2026. No macro, syntax, notation, axiom, sorry.
-/
import Derived.Test.YtbgpjhekohabiaaDoorChecked
import GoSem.Claim
import GoSem.ClaimJoined
import GoSem.ClaimMapViews
import Derived.JoinedTies
import Derived.KernelRfl
namespace Go.Proofs.YtbgpjhekohabiaaDoor
/- THE CELL 'sum', in the pinned program and in every row, IS THE sha256 OF THE DUMP (.gsa) THAT YtbgpjhekohabiaaDoorProg.lean LOADS. Nothing in Lean hashes anything: it is a label: what it is worth is what the hold of that sum in a sandbox is worth. -/
noncomputable def Tryd.pinned : Pinned := { name := "ytbgpjhekohabiaadoor", sum := "bcd46ff1354c7312b4133d330895c42fbeb46770979eed9e1c9376f8cd117538", checked := Tryd.checked }
namespace Rows
def none {H : Type} : Left H := { results := [], args := [] }

/- WHAT THE LISTED PACKAGE-LEVEL VARIABLES READ AS WHEN THE CALL BEGINS. Each datum BY PROGRAM (the guide's laid-datum.mjs) off the statement by which the dump's own 'gosem.cut.vars' lays the variable. In a bare row this is a premise. The card (YtbgpjhekohabiaaDoorCards.lean) ties it to the program's text. -/
def laid_mosaic_opts_shapes {H : Type} : DataW H := .agg [.lit (.int .i64 0), .lit (.int .i64 1), .lit (.int .i64 2)]

/-- 'mosaiclaw08.IcmpLooks': WHATEVER THE INPUT: true; the input reads as it did. -/
def icmpLooksSpec : ChangeSpec := { name := "icmpLooks", fn := fun _ => fun
  | [d] => { results := [.lit (.bool true)], args := [d] }
  | _ => none }
def icmpLooksRow : OpenClaim := { program := "ytbgpjhekohabiaadoor", sum := "bcd46ff1354c7312b4133d330895c42fbeb46770979eed9e1c9376f8cd117538", func := "mosaic/mosaiclaw08.IcmpLooks", spec := "icmpLooks", named := ["mosaic/opts.shapes"], apart := false, laid := [("mosaic/opts.shapes", laid_mosaic_opts_shapes)] }
def IcmpLooksSaid : Prop := icmpLooksRow.holds Tryd.pinned (OpenSpec.ofChange icmpLooksSpec)

/-- ITS FALSE NEIGHBOUR: 'it returns false'. Refute it at one input. -/
def icmpLooksWrong : ChangeSpec := { name := "icmpLooks", fn := fun _ => fun
  | [d] => { results := [.lit (.bool false)], args := [d] }
  | _ => none }
def IcmpLooksWrongFalsely : Prop := icmpLooksRow.holds Tryd.pinned (OpenSpec.ofChange icmpLooksWrong)

/-- 'mosaiclaw08.IcmpMemory': WHATEVER THE INPUT: true; the input reads as it did. -/
def icmpMemorySpec : ChangeSpec := { name := "icmpMemory", fn := fun _ => fun
  | [d1, d2, d3, d4] => { results := [.lit (.bool true)], args := [d1, d2, d3, d4] }
  | _ => none }
def icmpMemoryRow : OpenClaim := { program := "ytbgpjhekohabiaadoor", sum := "bcd46ff1354c7312b4133d330895c42fbeb46770979eed9e1c9376f8cd117538", func := "mosaic/mosaiclaw08.IcmpMemory", spec := "icmpMemory", named := ["mosaic/opts.shapes"], apart := false, laid := [("mosaic/opts.shapes", laid_mosaic_opts_shapes)] }
def IcmpMemorySaid : Prop := icmpMemoryRow.holds Tryd.pinned (OpenSpec.ofChange icmpMemorySpec)

/-- ITS FALSE NEIGHBOUR: 'it returns false'. Refute it at one input. -/
def icmpMemoryWrong : ChangeSpec := { name := "icmpMemory", fn := fun _ => fun
  | [d1, d2, d3, d4] => { results := [.lit (.bool false)], args := [d1, d2, d3, d4] }
  | _ => none }
def IcmpMemoryWrongFalsely : Prop := icmpMemoryRow.holds Tryd.pinned (OpenSpec.ofChange icmpMemoryWrong)

/- THE SECOND FORM. 'bulk': how many values and letters a reading holds, each counted each time it is reached (what is shared counts as often as it is met; a slice's spare places count too). A statement '..UptoSaid' is the law's where the arguments, and the package variables that the reading takes, are together of bulk at most 1048576: NARROWER than '..Said'. Prove '..Said' where nothing that the law and all that it calls make is longer than what came in: it says more and counts as full. Else prove '..UptoSaid'. A law counts once. -/
mutual
def uptoBulk {H : Type} : DataW H → Nat
  | .lit (.string bytes) => bytes.length + 1
  | .lit _ => 1
  | .nil => 1
  | .ptr d => uptoBulk d + 1
  | .slice elems spare => uptoBulkAll elems + uptoBulkAll spare + 1
  | .agg parts => uptoBulkAll parts + 1
  | .iface _ d => uptoBulk d + 1
  | .map entries => uptoBulkEntries entries + 1
  | .held _ => 1
def uptoBulkAll {H : Type} : List (DataW H) → Nat
  | [] => 0
  | d :: r => uptoBulk d + uptoBulkAll r
def uptoBulkEntries {H : Type} : List (Lit × DataW H) → Nat
  | [] => 0
  | x :: r => uptoBulkEntry x + uptoBulkEntries r
def uptoBulkEntry {H : Type} : Lit × DataW H → Nat
  | (.string bytes, d) => bytes.length + uptoBulk d + 1
  | (_, d) => uptoBulk d + 1
 end
def uptoSmall : (H : Type) → List (DataW H) → Bool := fun _ ds => decide (uptoBulkAll ds ≤ 1048576)
def OpenSpec.upto (s : _root_.Go.ChangeSpec) : _root_.Go.OpenSpec := { _root_.Go.OpenSpec.ofChange s with cond := some uptoSmall }

/-- 'mosaiclaw08.IcmpLooks', WHERE WHAT IT READS IS OF BULK AT MOST 1048576: true; the input reads as it did. -/
def icmpLooksUptoRow : OpenClaim := { program := "ytbgpjhekohabiaadoor", sum := "bcd46ff1354c7312b4133d330895c42fbeb46770979eed9e1c9376f8cd117538", func := "mosaic/mosaiclaw08.IcmpLooks", spec := "icmpLooks", named := ["mosaic/opts.shapes"], apart := false, laid := [("mosaic/opts.shapes", laid_mosaic_opts_shapes)], narrowed := true }
def IcmpLooksUptoSaid : Prop := icmpLooksUptoRow.holds Tryd.pinned (OpenSpec.upto icmpLooksSpec)

/-- 'mosaiclaw08.IcmpMemory', WHERE WHAT IT READS IS OF BULK AT MOST 1048576: true; the input reads as it did. -/
def icmpMemoryUptoRow : OpenClaim := { program := "ytbgpjhekohabiaadoor", sum := "bcd46ff1354c7312b4133d330895c42fbeb46770979eed9e1c9376f8cd117538", func := "mosaic/mosaiclaw08.IcmpMemory", spec := "icmpMemory", named := ["mosaic/opts.shapes"], apart := false, laid := [("mosaic/opts.shapes", laid_mosaic_opts_shapes)], narrowed := true }
def IcmpMemoryUptoSaid : Prop := icmpMemoryUptoRow.holds Tryd.pinned (OpenSpec.upto icmpMemorySpec)

end Rows
end Go.Proofs.YtbgpjhekohabiaaDoor
