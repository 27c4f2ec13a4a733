/-
  Whole rows: loads and stores of an address at once.
-/
import Derived.Test.YtoifolmcdkfniabGreatDoorABase
import Derived.Deep.WholeRow
import Derived.Laws.Tables
import Derived.Laws.ResultCell
import Derived.Laws.Externs
import Derived.Lib.BytesEntry
import Derived.Lib.Hide
namespace Go.Proofs.YtoifolmcdkfniabGreatDoor
open Go.ChangeShapes Go.WideShapes Go.ChangeAt Go.RowKit
set_option linter.unusedVariables false
set_option maxHeartbeats 4000000
set_option maxRecDepth 100000

def z12 : List Int := [0, 0, 0, 0, 0, 0, 0, 0, 0, 0, 0, 0]
def z16 : List Int := [0, 0, 0, 0, 0, 0, 0, 0, 0, 0, 0, 0, 0, 0, 0, 0]
def one16 : List Int := [0, 0, 0, 0, 0, 0, 0, 0, 0, 0, 0, 0, 0, 0, 0, 1]
theorem at48 (w : World) (g o : Nat) : (Instr.arrayAt 92 (.slice (some ⟨g, o, none⟩) 12 12)).run Tryz.prog w = .ok (.pointer (some ⟨g, o, none⟩)) w := run_arrayAt w 92 _ 12 _ 12 12 Tryz.underlying92 (by decide)
theorem eq48 (l m : List Int) (hl : l.length = 12) (hm : m.length = 12) (w : World) : (Op.equalIn 10000 92 (arr .u8 l) (arr .u8 m)).run Tryz.prog w = .ok (eqL l m) w := equalIn_arr 9998 92 5 12 .u8 Tryz.underlying92 Tryz.underlying5 cells5 l m hl hm w
theorem eq22 (l m : List Int) (hl : l.length = 16) (hm : m.length = 16) (w : World) : (Op.equalIn 10000 35 (arr .u8 l) (arr .u8 m)).run Tryz.prog w = .ok (eqL l m) w := equalIn_arr 9998 35 5 16 .u8 Tryz.underlying35 Tryz.underlying5 cells5 l m hl hm w
theorem loadRow {W : World} {g : Nat} {cs : Array Value} {t : TypeId} {fr : Nat × Nat} (h : W.heap[g]? = some (.cells cs t fr)) (o n : Nat) (r : Array Value) (hr : r.toList = (cs.toList.drop o).take n) (hn : r.size = n) :
    (loadCellsFrom ⟨g, o, none⟩ 0 n #[]).run Tryz.prog W = .ok r W := by
  subst hn
  have := run_loadCells_list (P := Tryz.prog) W ⟨g, o, none⟩ r.toList (fun j v hv => by
    have hadd : (⟨g, o, none⟩ : Addr).add j = ⟨g, o + j, none⟩ := by unfold Addr.add; split <;> simp_all
    rw [hadd]
    rw [hr, List.getElem?_take] at hv
    split at hv
    · rw [List.getElem?_drop] at hv
      simp [World.cell?, h]
      simpa using hv
    · simp at hv)
  simpa [loadCells] using this
theorem storeRow (W : World) (c c' : Array Value) (h24 : c'.size = 17) (ho : c.size = 17) (h1 : c'.all (·.oneCell') = true) :
    (storeCells ⟨W.heap.size, 0, none⟩ c'.toList 0).run Tryz.prog (W.alloc (.cells c 37)) = .ok () (W.alloc (.cells c' 37)) :=
  run_storeCells_new W 37 c c' (by rw [h24]; kernel_rfl) (by rw [ho, h24]) h1

/-- The cells of an address, as an array. -/
def csA (v : Int) (l : List Int) : Array Value := (cellsA v l).toArray
def csB (l : List Int) : Array Value := (l.map (Value.int .u8)).toArray
theorem csA_size {v : Int} {l : List Int} (hl : l.length = 16) : (csA v l).size = 17 := by simp [csA, cellsA, hl]
theorem csA_zero (v : Int) (l : List Int) : (csA v l)[0]? = some (.int .i64 v) := by simp [csA, cellsA]
theorem csA_one (v : Int) (l : List Int) : (csA v l).all (·.oneCell') = true := by
  simp only [csA, cellsA, Array.all_eq_true_iff_forall_mem]
  intro x hx
  simp only [List.mem_toArray, List.mem_cons, List.mem_map] at hx
  rcases hx with rfl | ⟨n, _, rfl⟩ <;> rfl
/-- An address in a block of its own. -/
def BoxA (w : World) (g : Nat) (v : Int) (l : List Int) : Prop := w.heap[g]? = some (.cells (csA v l) 37 (0, 0))
theorem BoxA.below {w w' : World} {g : Nat} {v : Int} {l : List Int} {B : Nat} (h : BoxA w g v l) (hb : Below B w w') (hg : g < B) : BoxA w' g v l := (hb.block g hg).trans h
theorem BoxA.lt {w : World} {g : Nat} {v : Int} {l : List Int} (h : BoxA w g v l) : g < w.heap.size := by
  rcases Nat.lt_or_ge g w.heap.size with h' | h'
  · exact h'
  · unfold BoxA at h; rw [Array.getElem?_eq_none h'] at h; simp at h
theorem BoxA.new (w : World) (v : Int) (l : List Int) (g : Nat) (hg : g = w.heap.size) : BoxA (w.alloc (.cells (csA v l) 37)) g v l := by
  subst hg
  exact heap_alloc_new w _
theorem BoxA.all {w : World} {g : Nat} {v : Int} {l : List Int} (h : BoxA w g v l) (hl : l.length = 16) : (loadCellsFrom ⟨g, 0, none⟩ 0 17 #[]).run Tryz.prog w = .ok (csA v l) w :=
  loadRow h 0 17 _ (by simp [csA, cellsA, List.take_of_length_le, hl]) (csA_size hl)
theorem BoxA.bytes {w : World} {g : Nat} {v : Int} {l : List Int} (h : BoxA w g v l) (hl : l.length = 16) : (loadCellsFrom ⟨g, 1, none⟩ 0 16 #[]).run Tryz.prog w = .ok (csB l) w :=
  loadRow h 1 16 _ (by simp [csA, csB, cellsA, List.take_of_length_le, hl]) (by simp [csB, hl])
theorem BoxA.four {w : World} {g : Nat} {v : Int} {l : List Int} (h : BoxA w g v l) (hl : l.length = 16) : (loadCellsFrom ⟨g, 1, none⟩ 0 4 #[]).run Tryz.prog w = .ok (csB (l.take 4)) w :=
  loadRow h 1 4 _ (by simp [csA, csB, cellsA]) (by simp [csB, hl])
theorem BoxA.rest {w : World} {g : Nat} {v : Int} {l : List Int} (h : BoxA w g v l) (hl : l.length = 16) : (loadCellsFrom ⟨g, 5, none⟩ 0 12 #[]).run Tryz.prog w = .ok (csB (l.drop 4)) w :=
  loadRow h 5 12 _ (by simp [csA, csB, cellsA, List.take_of_length_le, hl]) (by simp [csB, hl])
theorem BoxA.v {w : World} {g : Nat} {v : Int} {l : List Int} (h : BoxA w g v l) : w.cell? ⟨g, 0, none⟩ = some (.int .i64 v) := by
  unfold BoxA at h
  simp [World.cell?, h, csA, cellsA]

/-! The row of an address in a block, as a number of the world alone: what the walk's loads and stores of an address ask. -/
def rowAt (w : World) (g : Nat) : Option (Array Value) :=
  match w.heap[g]? with
  | some (.cells cs _ fr) => if cs.size = 17 ∧ fr = (0, 0) then some cs else none
  | _ => none
def loadRes (P : Program) (w : World) (g : Nat) : Option (Array Value) → Result Value
  | some cs => .ok (.agg cs) w
  | none => (loadVar 37 ⟨g, 0, none⟩).run P w
theorem rowAt_some {w : World} {g : Nat} {cs : Array Value} (h : rowAt w g = some cs) : ∃ t, w.heap[g]? = some (.cells cs t (0, 0)) ∧ cs.size = 17 := by
  unfold rowAt at h
  split at h
  · rename_i c t fr hh
    split at h
    · rename_i hc
      obtain rfl : c = cs := by simpa using h
      exact ⟨t, by rw [hh, hc.2], hc.1⟩
    · simp at h
  · simp at h
theorem rowAt_of {w : World} {g : Nat} {cs : Array Value} {t : TypeId} (h : w.heap[g]? = some (.cells cs t (0, 0))) (hs : cs.size = 17) : rowAt w g = some cs := by
  unfold rowAt; rw [h]; simp [hs]
theorem info24 : (Tryz.prog.info? 37).map (·.size) = some 17 := by kernel_rfl
theorem load24_eq (w : World) (g : Nat) : (Instr.loadAt 37 (.pointer (some ⟨g, 0, none⟩))).run Tryz.prog w = loadRes Tryz.prog w g (rowAt w g) := by
  have e : (Instr.loadAt 37 (.pointer (some ⟨g, 0, none⟩))).run Tryz.prog w = (loadVar 37 ⟨g, 0, none⟩).run Tryz.prog w := by
    simp only [Instr.loadAt, Instr.sureAddr, Sem.run_bind, Sem.run_pure, Result.andThen]
  rw [e]
  cases hr : rowAt w g with
  | none => rfl
  | some cs =>
    obtain ⟨t, hh, hs⟩ := rowAt_some hr
    rw [run_loadVar_row w g t 37 cs (0, 0) _ hh Tryz.underlying37 rfl (by rw [hs]; exact info24)]
    rfl
theorem loadRes_some (P : Program) (w : World) (g : Nat) (cs : Array Value) : loadRes P w g (some cs) = .ok (.agg cs) w := rfl
theorem rowAt_drew (w : World) (g : Nat) : rowAt w.drew g = rowAt w g := rfl
theorem rowAt_drewN (w : World) (g n : Nat) : rowAt (w.drewN n) g = rowAt w g := rfl
theorem rowAt_old {w : World} {g : Nat} {cs : Array Value} (h : rowAt w g = some cs) (o : Obj) : rowAt (w.alloc o) g = some cs := by
  obtain ⟨t, hh, hs⟩ := rowAt_some h
  refine rowAt_of (t := t) ?_ hs
  rw [Below.heap_alloc w o g]
  · exact hh
  · rcases Nat.lt_or_ge g w.heap.size with h' | h'
    · exact h'
    · rw [Array.getElem?_eq_none h'] at hh; simp at hh
theorem rowAt_new (w : World) (cs : Array Value) (t : TypeId) (hs : cs.size = 17) : rowAt (w.alloc (.cells cs t)) w.heap.size = some cs := rowAt_of (heap_alloc_new w _) hs
theorem rowAt_below {w w' : World} {g B : Nat} {cs : Array Value} (h : rowAt w g = some cs) (hb : Below B w w') (hg : g < B) : rowAt w' g = some cs := by
  obtain ⟨t, hh, hs⟩ := rowAt_some h
  exact rowAt_of ((hb.block g hg).trans hh) hs
theorem rowAt_lt {w : World} {g : Nat} {cs : Array Value} (h : rowAt w g = some cs) : g < w.heap.size := by
  obtain ⟨t, hh, hs⟩ := rowAt_some h
  rcases Nat.lt_or_ge g w.heap.size with h' | h'
  · exact h'
  · rw [Array.getElem?_eq_none h'] at hh; simp at hh
/-- A store into the block that was made last. -/
theorem store24_new (W : World) (c c' : Array Value) (h1 : c'.size = 17) (h2 : c.size = 17) (h3 : c'.all (·.oneCell') = true) :
    (Instr.storeAt 37 (.pointer (some ⟨W.heap.size, 0, none⟩)) (.agg c')).run Tryz.prog (W.alloc (.cells c 37)) = .ok () (W.alloc (.cells c' 37)) :=
  run_storeAt_new W 37 c c' (by rw [h1]; exact info24) (by rw [h1, h2]) h3
/-- A store into a block that is known. -/
theorem store24_old (W : World) (g : Nat) (c c' : Array Value) (h : rowAt W g = some c) (h1 : c'.size = 17) (h3 : c'.all (·.oneCell') = true) :
    (Instr.storeAt 37 (.pointer (some ⟨g, 0, none⟩)) (.agg c')).run Tryz.prog W = .ok () (W.setRow g c') := by
  obtain ⟨t, hh, hs⟩ := rowAt_some h
  simp only [Instr.storeAt, Instr.sureAddr, Sem.run_bind, Sem.run_pure, Result.andThen]
  rw [run_storeVar_row W g t 37 c c' hh (by rw [h1]; exact info24) (by rw [hs, h1]) h3]
theorem rowAt_setRow {W : World} {g : Nat} {c : Array Value} (h : rowAt W g = some c) (c' : Array Value) (h1 : c'.size = 17) : rowAt (W.setRow g c') g = some c' := by
  obtain ⟨t, hh, hs⟩ := rowAt_some h
  exact rowAt_of (t := t) (by simp [World.setRow, Array.getElem?_modify, hh]) h1
theorem below_setRow {B g : Nat} {a w : World} (h : Below B a w) (hg : B ≤ g) (c' : Array Value) : Below B a (w.setRow g c') :=
  ⟨h.os, h.tape, h.output, by simpa [World.setRow] using h.size, fun k hk => by
    rw [← h.block k hk]; simp [World.setRow, Array.getElem?_modify]; omega⟩
theorem csA_z : csA 0 z16 = #[.int .i64 0, .int .u8 0, .int .u8 0, .int .u8 0, .int .u8 0, .int .u8 0, .int .u8 0, .int .u8 0, .int .u8 0, .int .u8 0, .int .u8 0, .int .u8 0, .int .u8 0, .int .u8 0, .int .u8 0, .int .u8 0, .int .u8 0] := rfl
/-- A load of an address, as a step of a walk (guarded or not). -/
theorem wpList_load24 {ops : Array Oper} {rest : List Oper} {o : Oper} {a : Act} {w : World} {Q : Exit → Act → World → Prop} (hw : Region.wanted o (yielded ops a.tmps) = true) (x : Operand) (ho : o.op = .load 37 x)
    (g : Nat) (hx : a.eval x = .pointer (some ⟨g, 0, none⟩)) (cs : Array Value) (hr : rowAt w g = some cs) (h : wpList Tryz.prog ops Q rest (a.put o.dst (.agg cs)) w) : wpList Tryz.prog ops Q (o :: rest) a w := by
  obtain ⟨t, hh, hs⟩ := rowAt_some hr
  exact BigFrame.wpList_want hw fun K hK => wp_load_row 37 x ho g hx t cs (0, 0) _ hh Tryz.underlying37 rfl (by rw [hs]; exact info24) (hK _ _ h)
/-- A store of an address into the block that was made last. -/
theorem wpList_store24 {ops : Array Oper} {rest : List Oper} {o : Oper} {a : Act} {W : World} {Q : Exit → Act → World → Prop} {c : Array Value} (hw : Region.wanted o (yielded ops a.tmps) = true) (x y : Operand) (ho : o.op = .store 37 x y)
    (hx : a.eval x = .pointer (some ⟨W.heap.size, 0, none⟩)) (c' : Array Value) (hy : a.eval y = .agg c') (h1 : c'.size = 17) (h2 : c.size = 17) (h3 : c'.all (·.oneCell') = true) (h : wpList Tryz.prog ops Q rest (a.put o.dst undef) (W.alloc (.cells c' 37))) : wpList Tryz.prog ops Q (o :: rest) a (W.alloc (.cells c 37)) := by
  refine BigFrame.wpList_want hw fun K hK => ?_
  unfold Oper.wp execOp
  simp only [ho, hx, hy, Sem.run_bind, store24_new W c c' h1 h2 h3, Result.andThen_ok, Sem.run_pure]
  exact hK _ _ h
/-- .. into a block that is known. -/
theorem wpList_store24o {ops : Array Oper} {rest : List Oper} {o : Oper} {a : Act} {W : World} {Q : Exit → Act → World → Prop} (hw : Region.wanted o (yielded ops a.tmps) = true) (x y : Operand) (ho : o.op = .store 37 x y) (g : Nat)
    (hx : a.eval x = .pointer (some ⟨g, 0, none⟩)) (c c' : Array Value) (hr : rowAt W g = some c) (hy : a.eval y = .agg c') (h1 : c'.size = 17) (h3 : c'.all (·.oneCell') = true) (h : wpList Tryz.prog ops Q rest (a.put o.dst undef) (W.setRow g c')) : wpList Tryz.prog ops Q (o :: rest) a W := by
  refine BigFrame.wpList_want hw fun K hK => ?_
  unfold Oper.wp execOp
  simp only [ho, hx, hy, Sem.run_bind, store24_old W g c c' hr h1 h3, Result.andThen_ok, Sem.run_pure]
  exact hK _ _ h
/-- The result of a function whose one result is an address. -/
theorem result24 {fn : Func} {p : Tmp} (h : fn.results = #[.cell p 37]) (tmps : Array Value) (w : World) (g : Nat) (cs : Array Value) (hp : tmps.getD p undef = .pointer (some ⟨g, 0, none⟩)) (hr : rowAt w g = some cs) :
    (results fn tmps).run Tryz.prog w = .ok (.agg cs) w := by
  obtain ⟨t, hh, hs⟩ := rowAt_some hr
  exact results_cell_row h tmps w g t cs (0, 0) _ hp hh Tryz.underlying37 rfl (by rw [hs]; exact info24)
/-- .. whose results are an address and a plain one. -/
theorem result24t {fn : Func} {p u : Tmp} (h : fn.results = #[.cell p 37, .tmp u]) (tmps : Array Value) (w : World) (g : Nat) (cs : Array Value) (v : Value) (hp : tmps.getD p undef = .pointer (some ⟨g, 0, none⟩)) (hu : tmps.getD u undef = v) (hr : rowAt w g = some cs) :
    (results fn tmps).run Tryz.prog w = .ok (.tuple #[.agg cs, v]) w := by
  obtain ⟨t, hh, hs⟩ := rowAt_some hr
  rw [results_cell_tmp h, hp, hu]
  simp only [asAddr, Sem.run_pure, Result.andThen, run_loadVar_row w g t 37 cs (0, 0) _ hh Tryz.underlying37 rfl (by rw [hs]; exact info24)]
end Go.Proofs.YtoifolmcdkfniabGreatDoor
