/-
  ownP of the law.
-/
import Derived.Test.YtkccpidgeecemaaGreatDoorFldA
import Derived.Test.YtkccpidgeecemaaGreatDoorHelp
import Derived.Deep.CutBlock
import Derived.Deep.DeepCutAuto
namespace Go.Proofs.YtkccpidgeecemaaGreatDoor
open Go.ChangeShapes Go.WideShapes Go.ChangeAt Go.RowKit Num
set_option linter.unusedVariables false
set_option maxHeartbeats 4000000
set_option maxRecDepth 100000
structure Mine (w : World) (B : Nat) (p : Pk) (ov dv : Value) : Prop where
  o : Owns w ov p.o
  d : Owns w dv p.d
  no : New B ov
  nd : New B dv
  ap : ∀ k, ov.ownBlock = some k → dv.ownBlock ≠ some k
theorem Mine.on {w w' : World} {B : Nat} {p : Pk} {ov dv : Value} (h : Mine w B p ov dv) (hw : Away [] w w') : Mine w' B p ov dv := ⟨h.o.away hw (by simp), h.d.away hw (by simp), h.no, h.nd, h.ap⟩
theorem Mine.pkt {w : World} {B : Nat} {p : Pk} {ov dv : Value} (h : Mine w B p ov dv) (hw : Wf p) : Pkt w p ov dv := ⟨hw, h.o.sl hw.o hw.ol, h.d.sl hw.d hw.dn⟩
theorem Mine.mono {w : World} {B C : Nat} {p : Pk} {ov dv : Value} (h : Mine w B p ov dv) (hc : C ≤ B) : Mine w C p ov dv := ⟨h.o, h.d, h.no.mono hc, h.nd.mono hc, h.ap⟩
def OwnOut (w : World) (p : Pk) (E : Ending) (w' : World) : Prop := ∃ ov dv, E = .returned (.agg (csP p ov dv)) ∧ Mine w' w.heap.size p ov dv ∧ Away [] w w'
theorem Owns.shp {w : World} {v : Value} {l : List Int} (h : Owns w v l) : ∃ a n c, v = .slice a n c := by
  rcases h.2 with ⟨rfl, _⟩ | ⟨g, cap, cur, rfl, _⟩
  · exact ⟨_, _, _, rfl⟩
  · exact ⟨_, _, _, rfl⟩
end Go.Proofs.YtkccpidgeecemaaGreatDoor
