/-
  What the rows' step shares: the package variable, what came in, the witness.
-/
import Derived.Test.YtkccpidgeecemaaDoorTbD
import Derived.Test.YtkccpidgeecemaaDoorCards
import Derived.Test.YtkccpidgeecemaaDoorTie
import Derived.Deep.DeepHandedRow
import Derived.Deep.Slices
import Derived.Lib.LaidTab
import Derived.LaidSub
import Derived.ChangeOld
import Derived.Carry
namespace Go.Proofs.YtkccpidgeecemaaDoor
open Go.ChangeShapes Go.WideShapes Go.ChangeAt Go.RowKit Go.Deep
set_option linter.unusedVariables false
set_option maxHeartbeats 4000000
set_option maxRecDepth 100000

theorem ownKn : ownKnob Tryd.prog.godebug = none := by kernel_rfl
theorem laidOut : laidOutB Tryd.prog = true := by kernel_rfl
def laidAll : List (String × DataW Unit) := [("mosaic/opts.shapes", Rows.laid_mosaic_opts_shapes)]
theorem glob_of {W : World} (hL : laidMet Tryd.prog laidAll W) : Glob W := by
  have t : Lib.TabIs Tryd.prog W "mosaic/opts.shapes" .i64 [0, 1, 2] := Lib.tabIs_of_head (rest := []) (g := 0) (t := 112) (n := 3) (by kernel_rfl) (by kernel_rfl) Tryd.underlying112 Tryd.underlying3 (by kernel_rfl) (by kernel_rfl) hL
  exact ⟨t.cell (by kernel_rfl) 0 (by decide), t.cell (by kernel_rfl) 1 (by decide), t.cell (by kernel_rfl) 2 (by decide)⟩
def setCs (cs : Array Value) : Obj → Obj
  | .cells _ t fr => .cells cs t fr
  | o => o
def laidWorld (P : Program) (os : Os) : World :=
  { World.holding P os ⟨#[], #[], []⟩ with heap := (World.holding P os ⟨#[], #[], []⟩).heap.modify 0 (setCs #[.int .i64 0, .int .i64 1, .int .i64 2]) }
theorem lit64 {n : Int} (h : (Lit.int .i64 n).wf = true) : i64ok n := bounds_i64 h
theorem cut_at {α : Type} (l : List α) (a b : Nat) : l.drop a = (l.drop a).take b ++ l.drop (a + b) := by
  rw [← List.drop_drop]; exact (List.take_append_drop b _).symm
/-- A quota that came in. -/
theorem open_quo {H : Type} {enc : TypeId × Value → H} {W : World} {base : Nat} {x : Value} {d : DataW H} {pl : List MemPlace} (hv : Value.okWide Tryd.prog W .any base 29 x)
    (h : DataW.Trod enc Tryd.prog W 0 (fun _ => true) true 29 x d pl) : ∃ q : Qo, x = valQ q ∧ i64ok q.e ∧ i64ok q.b ∧ i64ok q.h ∧ i64ok q.t := by
  obtain ⟨cs, rfl, hsz⟩ := okWide_struct Tryd.underlying29 hv
  rw [show Tryd.prog.cellsOf 29 = 4 from by kernel_rfl] at hsz
  obtain ⟨fuel, hf⟩ := h
  simp only [Value.cells] at hf
  generalize hLL : cs.toList = L at hf
  have hLl : L.length = 4 := by rw [← hLL]; simpa using hsz
  obtain ⟨xs, n, _, hx, hlen, hxs, hfs⟩ := DataW.trod_struct Tryd.underlying29 hf
  have k3 : Tryd.prog.cellsOf 3 = 1 := by kernel_rfl
  have k2 : Tryd.prog.cellsOf 2 = 1 := by kernel_rfl
  have hx4 : xs.length = 4 := by simpa using hxs
  have f0 : DataW.trod enc Tryd.prog W 0 (fun _ => true) true n 3 ((L.drop 0).take (Tryd.prog.cellsOf 3)) = xs[0]? := hfs 0 _ rfl
  have f1 : DataW.trod enc Tryd.prog W 0 (fun _ => true) true n 3 ((L.drop 1).take (Tryd.prog.cellsOf 3)) = xs[1]? := hfs 1 _ rfl
  have f2 : DataW.trod enc Tryd.prog W 0 (fun _ => true) true n 3 ((L.drop 2).take (Tryd.prog.cellsOf 3)) = xs[2]? := hfs 2 _ rfl
  have f3 : DataW.trod enc Tryd.prog W 0 (fun _ => true) true n 2 ((L.drop 3).take (Tryd.prog.cellsOf 2)) = xs[3]? := hfs 3 _ rfl
  obtain ⟨y0, y1, y2, y3, rfl⟩ : ∃ y0 y1 y2 y3, xs = [y0, y1, y2, y3] := by
    match xs, hx4 with
    | [y0, y1, y2, y3], _ => exact ⟨y0, y1, y2, y3, rfl⟩
  obtain ⟨a0, e0, _, w0⟩ := DataW.trod_int Tryd.underlying3 f0
  obtain ⟨a1, e1, _, w1⟩ := DataW.trod_int Tryd.underlying3 f1
  obtain ⟨a2, e2, _, w2⟩ := DataW.trod_int Tryd.underlying3 f2
  obtain ⟨a3, e3, _, w3⟩ := DataW.trod_int Tryd.underlying2 f3
  rw [k3] at e0 e1 e2
  rw [k2] at e3
  refine ⟨⟨a0, a1, a2, a3⟩, ?_, lit64 w0, lit64 w1, lit64 w2, lit64 w3⟩
  have c := cut_at L 0 1
  have cend : L.drop (0 + 1 + 1 + 1 + 1) = [] := List.drop_eq_nil_of_le (by omega)
  rw [e0, cut_at L (0 + 1) 1, e1, cut_at L (0 + 1 + 1) 1, e2, cut_at L (0 + 1 + 1 + 1) 1, e3, cend] at c
  rw [List.drop_zero] at c
  unfold valQ
  congr 1
  apply Array.ext'
  rw [hLL, c]; rfl
end Go.Proofs.YtkccpidgeecemaaDoor
