/-
  Addresses that lie in a world.
-/
import Derived.Test.YtoifolmcdkfniabGreatDoorOrd
import Derived.Test.YtoifolmcdkfniabGreatDoorDrawn
import Derived.Test.YtoifolmcdkfniabGreatDoorGlob
namespace Go.Proofs.YtoifolmcdkfniabGreatDoor
open Go.ChangeShapes Go.WideShapes Go.ChangeAt Go.RowKit
set_option linter.unusedVariables false
set_option maxHeartbeats 4000000
set_option maxRecDepth 100000

/-- The addresses that lie in a world. -/
def RS (w0 : World) : List (Nat × Array Value) → World → Prop
  | [], w => Glob w ∧ Below w0.heap.size w0 w
  | (g, c) :: L, w => rowAt w g = some c ∧ RS w0 L w
theorem RS.base {w0 : World} : ∀ {L : List (Nat × Array Value)} {w : World}, RS w0 L w → Glob w ∧ Below w0.heap.size w0 w
  | [], _, h => h
  | (_, _) :: L, _, h => RS.base (L := L) h.2
theorem RS.on {w0 : World} : ∀ {L : List (Nat × Array Value)} {w w' : World}, RS w0 L w → Below w.heap.size w w' → RS w0 L w'
  | [], _, _, h, hb => ⟨h.1.on hb, h.2.trans (hb.mono h.2.size)⟩
  | (_, _) :: L, _, _, h, hb => ⟨rowAt_below h.1 hb (rowAt_lt h.1), RS.on (L := L) h.2 hb⟩
theorem RS.drew {w0 : World} : ∀ {L : List (Nat × Array Value)} {w : World}, RS w0 L w → RS w0 L w.drew
  | [], _, h => ⟨h.1.drewN 1, h.2.drew⟩
  | (_, _) :: L, _, h => ⟨h.1, RS.drew (L := L) h.2⟩
theorem RS.add {w0 : World} {L : List (Nat × Array Value)} {w : World} (h : RS w0 L w) (c : Array Value) (hc : c.size = 17) : RS w0 ((w.heap.size, c) :: L) (w.alloc (.cells c 37)) :=
  ⟨rowAt_new w c 37 hc, h.on ((Below.refl _ _).alloc (Nat.le_refl _) _)⟩
theorem rowAt_cell {w : World} {g : Nat} {c : Array Value} (h : rowAt w g = some c) (i : Nat) (x : Value) (hx : c[i]? = some x) : w.cell? ⟨g, i, none⟩ = some x := by
  obtain ⟨t, ht, _⟩ := rowAt_some h
  simp [World.cell?, ht, hx]
end Go.Proofs.YtoifolmcdkfniabGreatDoor
