/-
  The document's own: two.
-/
import Derived.Test.YtkfbhofbajejiabDoorRefF
import Derived.Test.YtkfbhofbajejiabDoorRefS
import Derived.Test.YtkfbhofbajejiabDoorFirst
namespace Go.Proofs.YtkfbhofbajejiabDoor
open Go.ChangeShapes Go.WideShapes Go.ChangeAt Go.RowKit Go.Deep Num
set_option linter.unusedVariables false
set_option maxHeartbeats 4000000
set_option maxRecDepth 100000

/-- A slice made since W0, with all that lay there as it was. -/
structure Bag (W0 w : World) (v : Value) (l : List Int) : Prop where
  o : Owns w v l
  n : New W0.heap.size v
  a : Away [] W0 w
theorem Bag.app {W0 w w' : World} {v v' : Value} {l m : List Int} (h : Bag W0 w v l) (ho : Owns w' v' (l ++ m)) (hg : w.grownBy w' v.ownBlock) (hm : Moved w v v') : Bag W0 w' v' (l ++ m) :=
  ⟨ho, h.n.moved hm h.a.size, h.a.grown hg (fun k hk => .inr (h.n k hk))⟩
theorem Bag.on {W0 w w' : World} {v : Value} {l : List Int} (h : Bag W0 w v l) (hw : Away [] w w') : Bag W0 w' v l := ⟨h.o.on hw, h.n, h.a.on hw⟩
theorem rtwo_c (W0 w : World) (v : Value) (l : List Int) (x : Int) (h : Bag W0 w v l) (h0 : 0 ≤ x) (h1 : x ≤ 65535) (hl : l.length ≤ 100) :
    Calls Tryd.prog 45 #[v, .int .i64 x] w fun E w' => ∃ v', E = .returned v' ∧ Bag W0 w' v' (l ++ [x / 256, x % 256]) := by
  have HB := Lib.hid h
  clear h
  have td : x.tdiv 256 = x / 256 := Int.tdiv_eq_ediv_of_nonneg h0
  have tm : x.tmod 256 = x % 256 := Int.tmod_eq_emod_of_nonneg h0
  have y0 : 0 ≤ x / 256 ∧ x / 256 ≤ 255 := by omega
  have z0 : 0 ≤ x % 256 ∧ x % 256 ≤ 255 := by omega
  have HM : Hid (Bytes [x / 256, x % 256]) := by
    refine Lib.hid ?_
    intro b hb
    simp at hb
    rcases hb with rfl | rfl <;> omega
  have HR := Lib.hid (Row.lit w [x / 256, x % 256] HM.out (by simp))
  have HB1 := Lib.hid (HB.out.on ((Away.refl [] w).alloc (.cells ([x / 256, x % 256].map (Value.int .u8)).toArray 5)))
  obtain ⟨a, n, c, rfl⟩ := HB.out.o.shape
  generalize x / 256 = y at *
  generalize x % 256 = z at *
  go_enter Tryd.func45, Tryd.ntmps45
  go_wp2_with (at_builtin; refine wpList_app rfl _ _ rfl _ l [y, z] rfl (by exact HB1.out.o) ⟨w.heap.size, 0, none⟩ 2 2 rfl rfl (by exact HR.out.src) (by omega) ?_; refine Hid.out ?_)
  refine Lib.hid ?_
  intro v' w2 hown2 hgr hblk
  have HB2 := Lib.hid (HB1.out.app hown2 hgr hblk)
  clear hown2 hgr hblk
  go_wp2_with fail
  go_ret
  exact ⟨_, rfl, HB2.out⟩
#print axioms rtwo_c
end Go.Proofs.YtkfbhofbajejiabDoor
