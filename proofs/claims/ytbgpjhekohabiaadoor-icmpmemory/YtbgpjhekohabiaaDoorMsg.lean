/-
  Messages in boxes, loads and stores of a whole one at once.
-/
import Derived.Test.YtbgpjhekohabiaaDoorDgx
import Derived.Test.YtbgpjhekohabiaaDoorMg
namespace Go.Proofs.YtbgpjhekohabiaaDoor
open Go.ChangeShapes Go.WideShapes Go.ChangeAt Go.RowKit Num
set_option linter.unusedVariables false
set_option maxHeartbeats 4000000
set_option maxRecDepth 100000

/-! A message in a box. -/
def csM (g : Mg) (dv : Value) : Array Value := #[.int .i64 g.v, .int .i64 g.ty, .int .i64 g.co, .int .u32 g.re, dv]
def BoxM (w : World) (k : Nat) (g : Mg) (dv : Value) : Prop := w.heap[k]? = some (.cells (csM g dv) 25 (0, 0))
structure Dam (w : World) (g : Mg) (dv : Value) : Prop where
  wf : WfM g
  d : Sl w dv g.d
theorem Dam.on {w w' : World} {g : Mg} {dv : Value} (h : Dam w g dv) (hw : Away [] w w') : Dam w' g dv := ⟨h.wf, h.d.on hw⟩
theorem Dam.zero (w : World) : Dam w zeroMg (.slice none 0 0) := ⟨zeroM_wf, Sl.nil _⟩
theorem BoxM.away {S : List Nat} {w w' : World} {k : Nat} {g : Mg} {dv : Value} (h : BoxM w k g dv) (hw : Away S w w') (hg : k ∉ S) : BoxM w' k g dv := hw.keep hg h
theorem BoxM.on {w w' : World} {k : Nat} {g : Mg} {dv : Value} (h : BoxM w k g dv) (hw : Away [] w w') : BoxM w' k g dv := h.away hw (by simp)
theorem BoxM.lt {w : World} {k : Nat} {g : Mg} {dv : Value} (h : BoxM w k g dv) : k < w.heap.size := lt_of_block h
theorem BoxM.c0 {w : World} {k : Nat} {g : Mg} {dv : Value} (h : BoxM w k g dv) : w.cell? ⟨k, 0, none⟩ = some (.int .i64 g.v) := by rw [cell_of_block h]; rfl
theorem BoxM.c1 {w : World} {k : Nat} {g : Mg} {dv : Value} (h : BoxM w k g dv) : w.cell? ⟨k, 1, none⟩ = some (.int .i64 g.ty) := by rw [cell_of_block h]; rfl
theorem BoxM.c2 {w : World} {k : Nat} {g : Mg} {dv : Value} (h : BoxM w k g dv) : w.cell? ⟨k, 2, none⟩ = some (.int .i64 g.co) := by rw [cell_of_block h]; rfl
theorem BoxM.c3 {w : World} {k : Nat} {g : Mg} {dv : Value} (h : BoxM w k g dv) : w.cell? ⟨k, 3, none⟩ = some (.int .u32 g.re) := by rw [cell_of_block h]; rfl
theorem BoxM.c4 {w : World} {k : Nat} {g : Mg} {dv : Value} (h : BoxM w k g dv) : w.cell? ⟨k, 4, none⟩ = some (dv) := by rw [cell_of_block h]; rfl
theorem BoxM.free {w : World} {k : Nat} {g : Mg} {dv : Value} (h : BoxM w k g dv) (i : Nat) : w.frozen? ⟨k, i, none⟩ = false := free_of_block h i
theorem BoxM.put {w : World} {k : Nat} {g g' : Mg} {dv dv' : Value} (h : BoxM w k g dv) (i : Nat) (x : Value) (hx : (csM g dv).setIfInBounds i x = csM g' dv') : BoxM (w.setCell ⟨k, i, none⟩ x) k g' dv' := by
  unfold BoxM; rw [block_set h, hx]
theorem info35 : (Tryd.prog.info? 25).map (·.size) = some 5 := by kernel_rfl
theorem zero35 : (Tryd.prog.info? 25).bind (·.zero) = some (.agg (csM zeroMg (.slice none 0 0))) := by kernel_rfl
theorem csM_one (g : Mg) (dv : Value) (hd : dv.oneCell' = true) : (csM g dv).all (·.oneCell') = true := by
  simp only [Array.all_eq_true_iff_forall_mem]
  intro x hx
  simp [csM] at hx
  rcases hx with rfl | rfl | rfl | rfl | rfl
  · rfl
  · rfl
  · rfl
  · rfl
  · exact hd
theorem loadM_run {w : World} {k : Nat} {g : Mg} {dv : Value} (hb : BoxM w k g dv) : (Instr.loadAt 25 (.pointer (some ⟨k, 0, none⟩))).run Tryd.prog w = .ok (.agg (csM g dv)) w := by
  simp only [Instr.loadAt, Instr.sureAddr, Sem.run_bind, Sem.run_pure, Result.andThen]
  rw [run_loadVar_row w k 25 25 (csM g dv) (0, 0) _ hb Tryd.underlying25 rfl info35]
theorem wpList_boxM {ops : Array Oper} {rest : List Oper} {o : Oper} {a : Act} {w : World} {Q : Exit → Act → World → Prop} (hg : o.guard = none) (x : Operand) (ho : o.op = .box 25 x)
    (g : Mg) (dv : Value) (hx : a.eval x = .agg (csM g dv))
    (h : ∀ k w1, w.heap.size ≤ k → BoxM w1 k g dv → Away [] w w1 → wpList Tryd.prog ops Q rest (a.put o.dst (.pointer (some ⟨k, 0, none⟩))) w1) : wpList Tryd.prog ops Q (o :: rest) a w := by
  refine wpList_plain hg fun K hK => ?_
  unfold Oper.wp execOp
  simp only [ho, hx, Sem.run_bind, Instr.box, newVar, newRow, run_newObj_alloc, Sem.run_pure, Result.andThen_ok]
  exact hK _ _ (h w.heap.size _ (Nat.le_refl _) (block_new _ _) ((Away.refl [] w).alloc _))
theorem wpList_loadM {ops : Array Oper} {rest : List Oper} {o : Oper} {a : Act} {w : World} {Q : Exit → Act → World → Prop} (hw : Region.wanted o (yielded ops a.tmps) = true) (x : Operand) (ho : o.op = .load 25 x)
    (k : Nat) (hx : a.eval x = .pointer (some ⟨k, 0, none⟩)) (g : Mg) (dv : Value) (hb : BoxM w k g dv) (h : wpList Tryd.prog ops Q rest (a.put o.dst (.agg (csM g dv))) w) : wpList Tryd.prog ops Q (o :: rest) a w :=
  BigFrame.wpList_want hw fun K hK => wp_load_row 25 x ho k hx 25 _ (0, 0) _ hb Tryd.underlying25 rfl info35 (hK _ _ h)
theorem wpList_allocM {ops : Array Oper} {rest : List Oper} {o : Oper} {a : Act} {w : World} {Q : Exit → Act → World → Prop} (hg : o.guard = none) (ho : o.op = .alloc 25)
    (h : ∀ k w1, w.heap.size ≤ k → BoxM w1 k zeroMg (.slice none 0 0) → Away [] w w1 → wpList Tryd.prog ops Q rest (a.put o.dst (.pointer (some ⟨k, 0, none⟩))) w1) : wpList Tryd.prog ops Q (o :: rest) a w := by
  have hz : (zeroValue 25).run Tryd.prog w = .ok (.agg (csM zeroMg (.slice none 0 0))) w := by
    have := zero35
    cases hi : Tryd.prog.info? 25 with
    | none => rw [hi] at this; simp at this
    | some i => rw [hi] at this; simp at this; simp [zeroValue, typeInfo, hi, this]
  refine wpList_plain hg fun K hK => ?_
  unfold Oper.wp execOp
  simp only [ho, Sem.run_bind, Instr.alloc, hz, newVar, newRow, run_newObj_alloc, Sem.run_pure, Result.andThen_ok]
  exact hK _ _ (h w.heap.size _ (Nat.le_refl _) (block_new _ _) ((Away.refl [] w).alloc _))
theorem wpList_storeM {ops : Array Oper} {rest : List Oper} {o : Oper} {a : Act} {w : World} {Q : Exit → Act → World → Prop} (hw : Region.wanted o (yielded ops a.tmps) = true) (x y : Operand) (ho : o.op = .store 25 x y)
    (k : Nat) (hx : a.eval x = .pointer (some ⟨k, 0, none⟩)) (g : Mg) (dv : Value) (hy : a.eval y = .agg (csM g dv)) (q : Mg) (du : Value) (hb : BoxM w k q du) (h2 : dv.oneCell' = true)
    (h : ∀ w1, BoxM w1 k g dv → Away [k] w w1 → wpList Tryd.prog ops Q rest (a.put o.dst undef) w1) : wpList Tryd.prog ops Q (o :: rest) a w :=
  BigFrame.wpList_want hw fun K hK => wp_store_row 25 x y ho k (csM g dv) hx hy 25 (csM q du) hb info35 rfl (csM_one g dv h2) (hK _ _ (h _ (by
    unfold BoxM at hb ⊢; simp [World.setRow, Array.getElem?_modify, hb]) ((Away.refl [k] w).setRow (.inl (by simp)) _)))
theorem wpList_newM {ops : Array Oper} {rest : List Oper} {o o2 : Oper} {a : Act} {w : World} {Q : Exit → Act → World → Prop} (hg : o.guard = none) (ho : o.op = .alloc 25) (hg2 : o2.guard = none) (x y : Operand) (ho2 : o2.op = .store 25 x y)
    (g : Mg) (dv : Value) (hx : ∀ k, (a.put o.dst (.pointer (some ⟨k, 0, none⟩))).eval x = .pointer (some ⟨k, 0, none⟩)) (hy : ∀ k, (a.put o.dst (.pointer (some ⟨k, 0, none⟩))).eval y = .agg (csM g dv)) (h2 : dv.oneCell' = true)
    (h : ∀ k w1, w.heap.size ≤ k → BoxM w1 k g dv → Away [] w w1 → wpList Tryd.prog ops Q rest ((a.put o.dst (.pointer (some ⟨k, 0, none⟩))).put o2.dst undef) w1) : wpList Tryd.prog ops Q (o :: o2 :: rest) a w :=
  wpList_allocM hg ho fun k w1 hg1 hb1 ha1 => wpList_storeM (by simp [Region.wanted, hg2]) x y ho2 k (hx k) g dv (hy k) zeroMg _ hb1 h2 fun w2 hb2 ha2 => h k w2 hg1 hb2 (ha1.next ha2 (fun x hx => .inr (by simp at hx; omega)))
theorem resultM {fn : Func} {t : Tmp} (h : fn.results = #[.cell t 25]) (tmps : Array Value) (w : World) (k : Nat) (g : Mg) (dv : Value) (ht : tmps.getD t undef = .pointer (some ⟨k, 0, none⟩)) (hb : BoxM w k g dv) :
    (results fn tmps).run Tryd.prog w = .ok (.agg (csM g dv)) w :=
  results_cell_row h tmps w k 25 (csM g dv) (0, 0) _ ht hb Tryd.underlying25 rfl info35
theorem resultMt {fn : Func} {t u : Tmp} (h : fn.results = #[.cell t 25, .tmp u]) (tmps : Array Value) (w : World) (k : Nat) (g : Mg) (dv v : Value) (ht : tmps.getD t undef = .pointer (some ⟨k, 0, none⟩)) (hu : tmps.getD u undef = v) (hb : BoxM w k g dv) :
    (results fn tmps).run Tryd.prog w = .ok (.tuple #[.agg (csM g dv), v]) w := by
  rw [results_cell_tmp h, ht, hu]
  simp only [asAddr, Sem.run_pure, Result.andThen, run_loadVar_row w k 25 25 (csM g dv) (0, 0) _ hb Tryd.underlying25 rfl info35]
end Go.Proofs.YtbgpjhekohabiaaDoor
