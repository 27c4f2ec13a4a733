/-
  No cell of these rows narrows 'for every input' (looked for: loops, veiled, ifaces, maps, wideKeys, modest, calm, conditions, laid).
  DERIVED. THE GIVEN ROWS OF THIS SEAT. 5 by the template 'for every input the law returns true; each argument reads behind the call as it read before'; 0 by the template 'total and deterministic' (their statements: YtepbgigoekpdeaaTotals.lean).
  GIVEN WITH THE SEED: the statements are not yours to turn. If you find one false, say at which input.
  Laid BY PROGRAM, IN A SANDBOX (cutbox-rows.mjs): the forced cells as the released guide's own fill.sh prints them over the translation cb83cee8e8da5aff… (all of the seat's roots in one cut). By AI agents, Wed Nov 11 2026. No macro, syntax, notation, axiom, sorry.
-/
import Derived.Test.YtepbgigoekpdeaaChecked
import GoSem.Claim
import GoSem.ClaimJoined
import GoSem.ClaimMapViews
import Derived.JoinedTies
import Derived.KernelRfl
namespace Go.Proofs.Ytepbgigoekpdeaa
/- THE CELL 'sum', in the pinned program and in every row, IS THE sha256 OF THE DUMP (.gsa) THAT YtepbgigoekpdeaaProg.lean LOADS. Nothing in Lean hashes anything: it is a label: what it is worth is what the hold of that sum in a sandbox is worth. -/
noncomputable def Try.pinned : Pinned := { name := "ytepbgigoekpdeaa", sum := "cb83cee8e8da5aff59767f64927eca0309d96e58b43ab58b53defb348f5a90b6", checked := Try.checked }
namespace Rows
def none {H : Type} : Left H := { results := [], args := [] }

/-- 'mosaiclaw12.IdentBounds': WHATEVER THE INPUT: true; the input reads as it did. -/
def identBoundsSpec : ChangeSpec := { name := "identBounds", fn := fun _ => fun
  | [d1, d2, d3, d4] => { results := [.lit (.bool true)], args := [d1, d2, d3, d4] }
  | _ => none }
def identBoundsRow : OpenClaim := { program := "ytepbgigoekpdeaa", sum := "cb83cee8e8da5aff59767f64927eca0309d96e58b43ab58b53defb348f5a90b6", func := "mosaic/mosaiclaw12.IdentBounds", spec := "identBounds", unfollowed := true, recurses := true, apart := false }
def IdentBoundsSaid : Prop := identBoundsRow.holds Try.pinned (OpenSpec.ofChange identBoundsSpec)

/-- ITS FALSE NEIGHBOUR: 'it returns false'. Refute it at one input. -/
def identBoundsWrong : ChangeSpec := { name := "identBounds", fn := fun _ => fun
  | [d1, d2, d3, d4] => { results := [.lit (.bool false)], args := [d1, d2, d3, d4] }
  | _ => none }
def IdentBoundsWrongFalsely : Prop := identBoundsRow.holds Try.pinned (OpenSpec.ofChange identBoundsWrong)

/-- 'mosaiclaw12.IdentAgain': WHATEVER THE INPUT: true; the input reads as it did. -/
def identAgainSpec : ChangeSpec := { name := "identAgain", fn := fun _ => fun
  | [d1, d2, d3] => { results := [.lit (.bool true)], args := [d1, d2, d3] }
  | _ => none }
def identAgainRow : OpenClaim := { program := "ytepbgigoekpdeaa", sum := "cb83cee8e8da5aff59767f64927eca0309d96e58b43ab58b53defb348f5a90b6", func := "mosaic/mosaiclaw12.IdentAgain", spec := "identAgain", unfollowed := true, recurses := true, apart := false }
def IdentAgainSaid : Prop := identAgainRow.holds Try.pinned (OpenSpec.ofChange identAgainSpec)

/-- ITS FALSE NEIGHBOUR: 'it returns false'. Refute it at one input. -/
def identAgainWrong : ChangeSpec := { name := "identAgain", fn := fun _ => fun
  | [d1, d2, d3] => { results := [.lit (.bool false)], args := [d1, d2, d3] }
  | _ => none }
def IdentAgainWrongFalsely : Prop := identAgainRow.holds Try.pinned (OpenSpec.ofChange identAgainWrong)

/-- 'mosaiclaw12.IdentNone': WHATEVER THE INPUT: true; the input reads as it did. -/
def identNoneSpec : ChangeSpec := { name := "identNone", fn := fun _ => fun
  | [d1, d2, d3] => { results := [.lit (.bool true)], args := [d1, d2, d3] }
  | _ => none }
def identNoneRow : OpenClaim := { program := "ytepbgigoekpdeaa", sum := "cb83cee8e8da5aff59767f64927eca0309d96e58b43ab58b53defb348f5a90b6", func := "mosaic/mosaiclaw12.IdentNone", spec := "identNone", unfollowed := true, recurses := true, apart := false }
def IdentNoneSaid : Prop := identNoneRow.holds Try.pinned (OpenSpec.ofChange identNoneSpec)

/-- ITS FALSE NEIGHBOUR: 'it returns false'. Refute it at one input. -/
def identNoneWrong : ChangeSpec := { name := "identNone", fn := fun _ => fun
  | [d1, d2, d3] => { results := [.lit (.bool false)], args := [d1, d2, d3] }
  | _ => none }
def IdentNoneWrongFalsely : Prop := identNoneRow.holds Try.pinned (OpenSpec.ofChange identNoneWrong)

/-- 'mosaiclaw12.IdentPlays': WHATEVER THE INPUT: true; the input reads as it did. -/
def identPlaysSpec : ChangeSpec := { name := "identPlays", fn := fun _ => fun
  | [d] => { results := [.lit (.bool true)], args := [d] }
  | _ => none }
def identPlaysRow : OpenClaim := { program := "ytepbgigoekpdeaa", sum := "cb83cee8e8da5aff59767f64927eca0309d96e58b43ab58b53defb348f5a90b6", func := "mosaic/mosaiclaw12.IdentPlays", spec := "identPlays", unfollowed := true, recurses := true, apart := false }
def IdentPlaysSaid : Prop := identPlaysRow.holds Try.pinned (OpenSpec.ofChange identPlaysSpec)

/-- ITS FALSE NEIGHBOUR: 'it returns false'. Refute it at one input. -/
def identPlaysWrong : ChangeSpec := { name := "identPlays", fn := fun _ => fun
  | [d] => { results := [.lit (.bool false)], args := [d] }
  | _ => none }
def IdentPlaysWrongFalsely : Prop := identPlaysRow.holds Try.pinned (OpenSpec.ofChange identPlaysWrong)

/-- 'mosaiclaw12.IdentBusyWhen': WHATEVER THE INPUT: true; the input reads as it did. -/
def identBusyWhenSpec : ChangeSpec := { name := "identBusyWhen", fn := fun _ => fun
  | [d1, d2, d3] => { results := [.lit (.bool true)], args := [d1, d2, d3] }
  | _ => none }
def identBusyWhenRow : OpenClaim := { program := "ytepbgigoekpdeaa", sum := "cb83cee8e8da5aff59767f64927eca0309d96e58b43ab58b53defb348f5a90b6", func := "mosaic/mosaiclaw12.IdentBusyWhen", spec := "identBusyWhen", unfollowed := true, recurses := true, apart := false }
def IdentBusyWhenSaid : Prop := identBusyWhenRow.holds Try.pinned (OpenSpec.ofChange identBusyWhenSpec)

/-- ITS FALSE NEIGHBOUR: 'it returns false'. Refute it at one input. -/
def identBusyWhenWrong : ChangeSpec := { name := "identBusyWhen", fn := fun _ => fun
  | [d1, d2, d3] => { results := [.lit (.bool false)], args := [d1, d2, d3] }
  | _ => none }
def IdentBusyWhenWrongFalsely : Prop := identBusyWhenRow.holds Try.pinned (OpenSpec.ofChange identBusyWhenWrong)

/- THE SECOND FORM. 'bulk': how many values and letters a reading holds, each counted each time it is reached (what is shared counts as often as it is met; a slice's spare places count too). A statement '..UptoSaid' is the law's where the arguments, and the package variables that the reading takes, are together of bulk at most 1048576: NARROWER than '..Said'. Prove '..Said' where nothing that the law and all that it calls make is longer than what came in: it says more and counts as full. Else prove '..UptoSaid'. A law counts once. -/
mutual
def uptoBulk {H : Type} : DataW H → Nat
  | .lit (.string bytes) => bytes.length + 1
  | .lit _ => 1
  | .nil => 1
  | .ptr d => uptoBulk d + 1
  | .slice elems spare => uptoBulkAll elems + uptoBulkAll spare + 1
  | .agg parts => uptoBulkAll parts + 1
  | .iface _ d => uptoBulk d + 1
  | .map entries => uptoBulkEntries entries + 1
  | .held _ => 1
def uptoBulkAll {H : Type} : List (DataW H) → Nat
  | [] => 0
  | d :: r => uptoBulk d + uptoBulkAll r
def uptoBulkEntries {H : Type} : List (Lit × DataW H) → Nat
  | [] => 0
  | x :: r => uptoBulkEntry x + uptoBulkEntries r
def uptoBulkEntry {H : Type} : Lit × DataW H → Nat
  | (.string bytes, d) => bytes.length + uptoBulk d + 1
  | (_, d) => uptoBulk d + 1
 end
def uptoSmall : (H : Type) → List (DataW H) → Bool := fun _ ds => decide (uptoBulkAll ds ≤ 1048576)
def OpenSpec.upto (s : _root_.Go.ChangeSpec) : _root_.Go.OpenSpec := { _root_.Go.OpenSpec.ofChange s with cond := some uptoSmall }

/-- 'mosaiclaw12.IdentBounds', WHERE WHAT IT READS IS OF BULK AT MOST 1048576: true; the input reads as it did. -/
def identBoundsUptoRow : OpenClaim := { program := "ytepbgigoekpdeaa", sum := "cb83cee8e8da5aff59767f64927eca0309d96e58b43ab58b53defb348f5a90b6", func := "mosaic/mosaiclaw12.IdentBounds", spec := "identBounds", unfollowed := true, recurses := true, apart := false, narrowed := true }
def IdentBoundsUptoSaid : Prop := identBoundsUptoRow.holds Try.pinned (OpenSpec.upto identBoundsSpec)

/-- 'mosaiclaw12.IdentAgain', WHERE WHAT IT READS IS OF BULK AT MOST 1048576: true; the input reads as it did. -/
def identAgainUptoRow : OpenClaim := { program := "ytepbgigoekpdeaa", sum := "cb83cee8e8da5aff59767f64927eca0309d96e58b43ab58b53defb348f5a90b6", func := "mosaic/mosaiclaw12.IdentAgain", spec := "identAgain", unfollowed := true, recurses := true, apart := false, narrowed := true }
def IdentAgainUptoSaid : Prop := identAgainUptoRow.holds Try.pinned (OpenSpec.upto identAgainSpec)

/-- 'mosaiclaw12.IdentNone', WHERE WHAT IT READS IS OF BULK AT MOST 1048576: true; the input reads as it did. -/
def identNoneUptoRow : OpenClaim := { program := "ytepbgigoekpdeaa", sum := "cb83cee8e8da5aff59767f64927eca0309d96e58b43ab58b53defb348f5a90b6", func := "mosaic/mosaiclaw12.IdentNone", spec := "identNone", unfollowed := true, recurses := true, apart := false, narrowed := true }
def IdentNoneUptoSaid : Prop := identNoneUptoRow.holds Try.pinned (OpenSpec.upto identNoneSpec)

/-- 'mosaiclaw12.IdentPlays', WHERE WHAT IT READS IS OF BULK AT MOST 1048576: true; the input reads as it did. -/
def identPlaysUptoRow : OpenClaim := { program := "ytepbgigoekpdeaa", sum := "cb83cee8e8da5aff59767f64927eca0309d96e58b43ab58b53defb348f5a90b6", func := "mosaic/mosaiclaw12.IdentPlays", spec := "identPlays", unfollowed := true, recurses := true, apart := false, narrowed := true }
def IdentPlaysUptoSaid : Prop := identPlaysUptoRow.holds Try.pinned (OpenSpec.upto identPlaysSpec)

/-- 'mosaiclaw12.IdentBusyWhen', WHERE WHAT IT READS IS OF BULK AT MOST 1048576: true; the input reads as it did. -/
def identBusyWhenUptoRow : OpenClaim := { program := "ytepbgigoekpdeaa", sum := "cb83cee8e8da5aff59767f64927eca0309d96e58b43ab58b53defb348f5a90b6", func := "mosaic/mosaiclaw12.IdentBusyWhen", spec := "identBusyWhen", unfollowed := true, recurses := true, apart := false, narrowed := true }
def IdentBusyWhenUptoSaid : Prop := identBusyWhenUptoRow.holds Try.pinned (OpenSpec.upto identBusyWhenSpec)

end Rows
end Go.Proofs.Ytepbgigoekpdeaa
