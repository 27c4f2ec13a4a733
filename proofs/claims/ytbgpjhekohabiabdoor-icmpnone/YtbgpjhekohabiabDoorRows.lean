/-
  NARROWER THAN 'FOR EVERY INPUT', by the rows' own cells (each row's printed sentence says how): IcmpNone: laid · IcmpSeen: laid · IcmpQuotes: laid.
  DERIVED. THE GIVEN ROWS OF THIS SEAT. 3 by the template 'for every input the law returns true; each argument reads behind the call as it read before'; 0 by the template 'total and deterministic' (their statements: YtbgpjhekohabiabDoorTotals.lean).
  GIVEN WITH THE SEED: the statements are not yours to turn. If you find one false, say at which input.
  Laid BY PROGRAM, IN A SANDBOX (cutbox-rows.mjs): the forced cells as the released guide's own fill.sh prints them over the translation ae15ecbf60291614… (all of the seat's roots in one cut). By AI agents, Wed Nov 11 2026. No macro, syntax, notation, axiom, sorry.
-/
import Derived.Test.YtbgpjhekohabiabDoorChecked
import GoSem.Claim
import GoSem.ClaimJoined
import GoSem.ClaimMapViews
import Derived.JoinedTies
import Derived.KernelRfl
namespace Go.Proofs.YtbgpjhekohabiabDoor
/- THE CELL 'sum', in the pinned program and in every row, IS THE sha256 OF THE DUMP (.gsa) THAT YtbgpjhekohabiabDoorProg.lean LOADS. Nothing in Lean hashes anything: it is a label: what it is worth is what the hold of that sum in a sandbox is worth. -/
noncomputable def Tryd.pinned : Pinned := { name := "ytbgpjhekohabiabdoor", sum := "ae15ecbf60291614acfe9143e39fabdb33efd4f95d419ae9c9210240c4bbc7aa", checked := Tryd.checked }
namespace Rows
def none {H : Type} : Left H := { results := [], args := [] }

/- WHAT THE LISTED PACKAGE-LEVEL VARIABLES READ AS WHEN THE CALL BEGINS. Each datum BY PROGRAM (the guide's laid-datum.mjs) off the statement by which the dump's own 'gosem.cut.vars' lays the variable. In a bare row this is a premise. The card (YtbgpjhekohabiabDoorCards.lean) ties it to the program's text. -/
def laid_mosaic_opts_shapes {H : Type} : DataW H := .agg [.lit (.int .i64 0), .lit (.int .i64 1), .lit (.int .i64 2)]

/-- 'mosaiclaw08.IcmpNone': WHATEVER THE INPUT: true; the input reads as it did. -/
def icmpNoneSpec : ChangeSpec := { name := "icmpNone", fn := fun _ => fun
  | [d1, d2] => { results := [.lit (.bool true)], args := [d1, d2] }
  | _ => none }
def icmpNoneRow : OpenClaim := { program := "ytbgpjhekohabiabdoor", sum := "ae15ecbf60291614acfe9143e39fabdb33efd4f95d419ae9c9210240c4bbc7aa", func := "mosaic/mosaiclaw08.IcmpNone", spec := "icmpNone", named := ["mosaic/opts.shapes"], apart := false, laid := [("mosaic/opts.shapes", laid_mosaic_opts_shapes)] }
def IcmpNoneSaid : Prop := icmpNoneRow.holds Tryd.pinned (OpenSpec.ofChange icmpNoneSpec)

/-- ITS FALSE NEIGHBOUR: 'it returns false'. Refute it at one input. -/
def icmpNoneWrong : ChangeSpec := { name := "icmpNone", fn := fun _ => fun
  | [d1, d2] => { results := [.lit (.bool false)], args := [d1, d2] }
  | _ => none }
def IcmpNoneWrongFalsely : Prop := icmpNoneRow.holds Tryd.pinned (OpenSpec.ofChange icmpNoneWrong)

/-- 'mosaiclaw08.IcmpSeen': WHATEVER THE INPUT: true; the input reads as it did. -/
def icmpSeenSpec : ChangeSpec := { name := "icmpSeen", fn := fun _ => fun
  | [d1, d2] => { results := [.lit (.bool true)], args := [d1, d2] }
  | _ => none }
def icmpSeenRow : OpenClaim := { program := "ytbgpjhekohabiabdoor", sum := "ae15ecbf60291614acfe9143e39fabdb33efd4f95d419ae9c9210240c4bbc7aa", func := "mosaic/mosaiclaw08.IcmpSeen", spec := "icmpSeen", named := ["mosaic/opts.shapes"], apart := false, laid := [("mosaic/opts.shapes", laid_mosaic_opts_shapes)] }
def IcmpSeenSaid : Prop := icmpSeenRow.holds Tryd.pinned (OpenSpec.ofChange icmpSeenSpec)

/-- ITS FALSE NEIGHBOUR: 'it returns false'. Refute it at one input. -/
def icmpSeenWrong : ChangeSpec := { name := "icmpSeen", fn := fun _ => fun
  | [d1, d2] => { results := [.lit (.bool false)], args := [d1, d2] }
  | _ => none }
def IcmpSeenWrongFalsely : Prop := icmpSeenRow.holds Tryd.pinned (OpenSpec.ofChange icmpSeenWrong)

/-- 'mosaiclaw08.IcmpQuotes': WHATEVER THE INPUT: true; the input reads as it did. -/
def icmpQuotesSpec : ChangeSpec := { name := "icmpQuotes", fn := fun _ => fun
  | [d1, d2] => { results := [.lit (.bool true)], args := [d1, d2] }
  | _ => none }
def icmpQuotesRow : OpenClaim := { program := "ytbgpjhekohabiabdoor", sum := "ae15ecbf60291614acfe9143e39fabdb33efd4f95d419ae9c9210240c4bbc7aa", func := "mosaic/mosaiclaw08.IcmpQuotes", spec := "icmpQuotes", named := ["mosaic/opts.shapes"], apart := false, laid := [("mosaic/opts.shapes", laid_mosaic_opts_shapes)] }
def IcmpQuotesSaid : Prop := icmpQuotesRow.holds Tryd.pinned (OpenSpec.ofChange icmpQuotesSpec)

/-- ITS FALSE NEIGHBOUR: 'it returns false'. Refute it at one input. -/
def icmpQuotesWrong : ChangeSpec := { name := "icmpQuotes", fn := fun _ => fun
  | [d1, d2] => { results := [.lit (.bool false)], args := [d1, d2] }
  | _ => none }
def IcmpQuotesWrongFalsely : Prop := icmpQuotesRow.holds Tryd.pinned (OpenSpec.ofChange icmpQuotesWrong)

/- THE SECOND FORM. 'bulk': how many values and letters a reading holds, each counted each time it is reached (what is shared counts as often as it is met; a slice's spare places count too). A statement '..UptoSaid' is the law's where the arguments, and the package variables that the reading takes, are together of bulk at most 1048576: NARROWER than '..Said'. Prove '..Said' where nothing that the law and all that it calls make is longer than what came in: it says more and counts as full. Else prove '..UptoSaid'. A law counts once. -/
mutual
def uptoBulk {H : Type} : DataW H → Nat
  | .lit (.string bytes) => bytes.length + 1
  | .lit _ => 1
  | .nil => 1
  | .ptr d => uptoBulk d + 1
  | .slice elems spare => uptoBulkAll elems + uptoBulkAll spare + 1
  | .agg parts => uptoBulkAll parts + 1
  | .iface _ d => uptoBulk d + 1
  | .map entries => uptoBulkEntries entries + 1
  | .held _ => 1
def uptoBulkAll {H : Type} : List (DataW H) → Nat
  | [] => 0
  | d :: r => uptoBulk d + uptoBulkAll r
def uptoBulkEntries {H : Type} : List (Lit × DataW H) → Nat
  | [] => 0
  | x :: r => uptoBulkEntry x + uptoBulkEntries r
def uptoBulkEntry {H : Type} : Lit × DataW H → Nat
  | (.string bytes, d) => bytes.length + uptoBulk d + 1
  | (_, d) => uptoBulk d + 1
 end
def uptoSmall : (H : Type) → List (DataW H) → Bool := fun _ ds => decide (uptoBulkAll ds ≤ 1048576)
def OpenSpec.upto (s : _root_.Go.ChangeSpec) : _root_.Go.OpenSpec := { _root_.Go.OpenSpec.ofChange s with cond := some uptoSmall }

/-- 'mosaiclaw08.IcmpNone', WHERE WHAT IT READS IS OF BULK AT MOST 1048576: true; the input reads as it did. -/
def icmpNoneUptoRow : OpenClaim := { program := "ytbgpjhekohabiabdoor", sum := "ae15ecbf60291614acfe9143e39fabdb33efd4f95d419ae9c9210240c4bbc7aa", func := "mosaic/mosaiclaw08.IcmpNone", spec := "icmpNone", named := ["mosaic/opts.shapes"], apart := false, laid := [("mosaic/opts.shapes", laid_mosaic_opts_shapes)], narrowed := true }
def IcmpNoneUptoSaid : Prop := icmpNoneUptoRow.holds Tryd.pinned (OpenSpec.upto icmpNoneSpec)

/-- 'mosaiclaw08.IcmpSeen', WHERE WHAT IT READS IS OF BULK AT MOST 1048576: true; the input reads as it did. -/
def icmpSeenUptoRow : OpenClaim := { program := "ytbgpjhekohabiabdoor", sum := "ae15ecbf60291614acfe9143e39fabdb33efd4f95d419ae9c9210240c4bbc7aa", func := "mosaic/mosaiclaw08.IcmpSeen", spec := "icmpSeen", named := ["mosaic/opts.shapes"], apart := false, laid := [("mosaic/opts.shapes", laid_mosaic_opts_shapes)], narrowed := true }
def IcmpSeenUptoSaid : Prop := icmpSeenUptoRow.holds Tryd.pinned (OpenSpec.upto icmpSeenSpec)

/-- 'mosaiclaw08.IcmpQuotes', WHERE WHAT IT READS IS OF BULK AT MOST 1048576: true; the input reads as it did. -/
def icmpQuotesUptoRow : OpenClaim := { program := "ytbgpjhekohabiabdoor", sum := "ae15ecbf60291614acfe9143e39fabdb33efd4f95d419ae9c9210240c4bbc7aa", func := "mosaic/mosaiclaw08.IcmpQuotes", spec := "icmpQuotes", named := ["mosaic/opts.shapes"], apart := false, laid := [("mosaic/opts.shapes", laid_mosaic_opts_shapes)], narrowed := true }
def IcmpQuotesUptoSaid : Prop := icmpQuotesUptoRow.holds Tryd.pinned (OpenSpec.upto icmpQuotesSpec)

end Rows
end Go.Proofs.YtbgpjhekohabiabDoor
