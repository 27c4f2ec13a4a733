/-
  Steps over addresses and routes in memory.
-/
import Derived.Test.YtoifolmcdkfniabGreatDoorKR
import Derived.Test.YtoifolmcdkfniabGreatDoorUntil
import Derived.Test.YtoifolmcdkfniabGreatDoorWithin
import Derived.Deep.CutBlock
import Derived.Deep.DeepCutAuto
import Derived.Lib.MinMax
import Derived.BigQuiet
namespace Go.Proofs.YtoifolmcdkfniabGreatDoor
open Go.ChangeShapes Go.WideShapes Go.ChangeAt Go.RowKit
set_option linter.unusedVariables false
set_option linter.unusedSimpArgs false
set_option maxRecDepth 100000

theorem range_away {S : List Nat} {w w' : World} (hw : Away S w w') {b o : Nat} {cs : List Value} (hb : b ∉ S) (h : w.rangeAt b o cs) : w'.rangeAt b o cs := fun j v hj => hw.cell hb (h j v hj)
theorem get_of {α : Type} {l : List α} {k : Nat} (h : k < l.length) : ∃ y, l[k]? = some y ∧ y ∈ l := ⟨l[k], by simp [h], by simp⟩
theorem eqA (v v' : Int) (l l' : List Int) (hl : l.length = 16) (hl' : l'.length = 16) (w : World) : (Op.equalIn 10000 37 (.agg (csA v l)) (.agg (csA v' l'))).run Tryz.prog w = .ok (decide (v = v') && eqL l l') w := eq24 v v' l l' hl hl' w
theorem ld3 {w : World} {ad : Addr} {n : Int} (h : w.cell? ad = some (.int .i64 n)) : (Instr.loadAt 3 (.pointer (some ad))).run Tryz.prog w = .ok (.int .i64 n) w := by
  simp [go_sem, Instr.loadAt, Instr.sureAddr, h]
/-- An address within a block. -/
theorem load32m_run {w : World} {g k : Nat} {v : Int} {l : List Int} (hc : w.rangeAt g k (cellsA v l)) (hl : l.length = 16) : (Instr.loadAt 37 (.pointer (some ⟨g, k, none⟩))).run Tryz.prog w = .ok (.agg (csA v l)) w := by
  have := run_loadVar_mid (P := Tryz.prog) w g k 37 (cellsA v l) _ hc Tryz.underlying37 rfl (by rw [show (cellsA v l).length = 17 from by simp [cellsA, hl]]; exact info24)
  simp only [Instr.loadAt, Instr.sureAddr, Sem.run_bind, Sem.run_pure, Result.andThen]
  rw [this]; rfl
theorem wpList_load32m {ops : Array Oper} {rest : List Oper} {o : Oper} {a : Act} {w : World} {Q : Exit → Act → World → Prop} (hw : Region.wanted o (yielded ops a.tmps) = true) (x : Operand) (ho : o.op = .load 37 x)
    (g k : Nat) (hx : a.eval x = .pointer (some ⟨g, k, none⟩)) (v : Int) (l : List Int) (hl : l.length = 16) (hr : w.rangeAt g k (cellsA v l)) (h : wpList Tryz.prog ops Q rest (a.put o.dst (.agg (csA v l))) w) : wpList Tryz.prog ops Q (o :: rest) a w := by
  refine BigFrame.wpList_want hw fun K hK => ?_
  unfold Oper.wp execOp
  simp only [ho, hx, Sem.run_bind, load32m_run hr hl, Result.andThen_ok, Sem.run_pure]
  exact hK _ _ h
theorem BoxA.range {w : World} {g : Nat} {v : Int} {l : List Int} (h : BoxA w g v l) : w.rangeAt g 0 (cellsA v l) := fun j u hj => by
  rw [cell_of_block h]; simpa [csA] using hj
theorem BoxA.on {S : List Nat} {w w' : World} {g : Nat} {v : Int} {l : List Int} (h : BoxA w g v l) (hw : Away S w w') (hg : g ∉ S) : BoxA w' g v l := hw.keep hg h
/-- A variable of its own for an address. -/
theorem wpList_box32 {ops : Array Oper} {rest : List Oper} {o : Oper} {a : Act} {w : World} {Q : Exit → Act → World → Prop} (hg : o.guard = none) (x : Operand) (ho : o.op = .box 37 x) (v : Int) (l : List Int) (hx : a.eval x = .agg (csA v l))
    (h : ∀ g w1, w.heap.size ≤ g → BoxA w1 g v l → Away [] w w1 → wpList Tryz.prog ops Q rest (a.put o.dst (.pointer (some ⟨g, 0, none⟩))) w1) : wpList Tryz.prog ops Q (o :: rest) a w := by
  refine wpList_plain hg fun K hK => ?_
  unfold Oper.wp execOp
  simp only [ho, hx, Sem.run_bind, Instr.box, newVar, newRow, Value.cells, run_newObj_alloc, Sem.run_pure, Result.andThen_ok]
  exact hK _ _ (h w.heap.size _ (Nat.le_refl _) (block_new _ _) ((Away.refl [] w).alloc _))
theorem wpList_load32 {ops : Array Oper} {rest : List Oper} {o : Oper} {a : Act} {w : World} {Q : Exit → Act → World → Prop} (hw : Region.wanted o (yielded ops a.tmps) = true) (x : Operand) (ho : o.op = .load 37 x)
    (g : Nat) (hx : a.eval x = .pointer (some ⟨g, 0, none⟩)) (v : Int) (l : List Int) (hl : l.length = 16) (hr : BoxA w g v l) (h : wpList Tryz.prog ops Q rest (a.put o.dst (.agg (csA v l))) w) : wpList Tryz.prog ops Q (o :: rest) a w :=
  wpList_load32m hw x ho g 0 hx v l hl hr.range h
theorem range_b {w : World} {g o : Nat} {x : Rt} (h : w.rangeAt g o (listD x)) (hx : Okr x) : w.cell? ⟨g, o + 17, none⟩ = some (.int .i64 x.b) := h 17 _ (listD_b hx)
theorem range_k {w : World} {g o : Nat} {x : Rt} (h : w.rangeAt g o (listD x)) (hx : Okr x) : w.cell? ⟨g, o + 18, none⟩ = some (.int .i64 x.k) := h 18 _ (listD_k hx)
theorem range_a {w : World} {g o : Nat} {x : Rt} (h : w.rangeAt g o (listD x)) (hx : Okr x) : w.rangeAt g o (cellsA x.v x.l) := fun j u hj => by
  refine h j u ?_
  rw [← listD_a hx, List.getElem?_take] at hj
  split at hj
  · exact hj
  · simp at hj
theorem range_v {w : World} {g o : Nat} {x : Rt} (h : w.rangeAt g o (listD x)) (hx : Okr x) : w.cell? ⟨g, o, none⟩ = some (.int .i64 x.v) := by
  have := range_a h hx 0 (.int .i64 x.v) rfl; simpa using this
theorem infoE : (Tryz.prog.info? 39).map (·.size) = some 19 := by kernel_rfl
def BoxD (w : World) (g : Nat) (x : Rt) : Prop := w.heap[g]? = some (.cells (csD x) 39 (0, 0))
theorem BoxD.range {w : World} {g : Nat} {x : Rt} (h : BoxD w g x) : w.rangeAt g 0 (listD x) := fun j u hj => by rw [cell_of_block h]; simpa [csD] using hj
theorem BoxD.on {S : List Nat} {w w' : World} {g : Nat} {x : Rt} (h : BoxD w g x) (hw : Away S w w') (hg : g ∉ S) : BoxD w' g x := hw.keep hg h
theorem loadE_run {w : World} {g k : Nat} {x : Rt} (hc : w.rangeAt g k (listD x)) (ha : Okr x) : (Instr.loadAt 39 (.pointer (some ⟨g, k, none⟩))).run Tryz.prog w = .ok (.agg (csD x)) w := by
  have := run_loadVar_mid (P := Tryz.prog) w g k 39 (listD x) _ hc Tryz.underlying39 rfl (by rw [listD_len ha]; exact infoE)
  simp only [Instr.loadAt, Instr.sureAddr, Sem.run_bind, Sem.run_pure, Result.andThen]
  rw [this]; rfl
theorem wpList_loadE {ops : Array Oper} {rest : List Oper} {o : Oper} {a : Act} {w : World} {Q : Exit → Act → World → Prop} (hw : Region.wanted o (yielded ops a.tmps) = true) (x : Operand) (ho : o.op = .load 39 x)
    (g k : Nat) (hx : a.eval x = .pointer (some ⟨g, k, none⟩)) (d : Rt) (hd : Okr d) (hr : w.rangeAt g k (listD d)) (h : wpList Tryz.prog ops Q rest (a.put o.dst (.agg (csD d))) w) : wpList Tryz.prog ops Q (o :: rest) a w := by
  refine BigFrame.wpList_want hw fun K hK => ?_
  unfold Oper.wp execOp
  simp only [ho, hx, Sem.run_bind, loadE_run hr hd, Result.andThen_ok, Sem.run_pure]
  exact hK _ _ h
theorem zeroE : (Tryz.prog.info? 39).bind (·.zero) = some (.agg zD) := by kernel_rfl
theorem wpList_allocE {ops : Array Oper} {rest : List Oper} {o : Oper} {a : Act} {w : World} {Q : Exit → Act → World → Prop} (hg : o.guard = none) (ho : o.op = .alloc 39)
    (h : ∀ g w1, w.heap.size ≤ g → BoxD w1 g zeroD → Away [] w w1 → wpList Tryz.prog ops Q rest (a.put o.dst (.pointer (some ⟨g, 0, none⟩))) w1) : wpList Tryz.prog ops Q (o :: rest) a w := by
  have hz : (zeroValue 39).run Tryz.prog w = .ok (.agg zD) w := by
    have := zeroE
    cases hi : Tryz.prog.info? 39 with
    | none => rw [hi] at this; simp at this
    | some i => rw [hi] at this; simp at this; simp [zeroValue, typeInfo, hi, this]
  refine wpList_plain hg fun K hK => ?_
  unfold Oper.wp execOp
  simp only [ho, Sem.run_bind, Instr.alloc, hz, newVar, newRow, run_newObj_alloc, Sem.run_pure, Result.andThen_ok]
  exact hK _ _ (h w.heap.size _ (Nat.le_refl _) (block_new _ _) ((Away.refl [] w).alloc _))
theorem wpList_boxE {ops : Array Oper} {rest : List Oper} {o : Oper} {a : Act} {w : World} {Q : Exit → Act → World → Prop} (hg : o.guard = none) (x : Operand) (ho : o.op = .box 39 x) (d : Rt) (hx : a.eval x = .agg (csD d))
    (h : ∀ g w1, w.heap.size ≤ g → BoxD w1 g d → Away [] w w1 → wpList Tryz.prog ops Q rest (a.put o.dst (.pointer (some ⟨g, 0, none⟩))) w1) : wpList Tryz.prog ops Q (o :: rest) a w := by
  refine wpList_plain hg fun K hK => ?_
  unfold Oper.wp execOp
  simp only [ho, hx, Sem.run_bind, Instr.box, newVar, newRow, Value.cells, run_newObj_alloc, Sem.run_pure, Result.andThen_ok]
  exact hK _ _ (h w.heap.size _ (Nat.le_refl _) (block_new _ _) ((Away.refl [] w).alloc _))
theorem wpList_storeE {ops : Array Oper} {rest : List Oper} {o : Oper} {a : Act} {w : World} {Q : Exit → Act → World → Prop} (hw : Region.wanted o (yielded ops a.tmps) = true) (x y : Operand) (ho : o.op = .store 39 x y)
    (g : Nat) (hx : a.eval x = .pointer (some ⟨g, 0, none⟩)) (d e : Rt) (hd : Okr d) (he : Okr e) (hy : a.eval y = .agg (csD d)) (hb : BoxD w g e)
    (h : ∀ w1, BoxD w1 g d → Away [g] w w1 → wpList Tryz.prog ops Q rest (a.put o.dst undef) w1) : wpList Tryz.prog ops Q (o :: rest) a w :=
  BigFrame.wpList_want hw fun K hK => wp_store_row 39 x y ho g (csD d) hx hy 39 (csD e) hb (by rw [csD_size hd]; exact infoE) (by rw [csD_size hd, csD_size he]) (csD_one hd) (hK _ _ (h _ (by
    unfold BoxD at hb ⊢; simp [World.setRow, Array.getElem?_modify, hb]) ((Away.refl [g] w).setRow (.inl (by simp)) _)))
theorem run_buildE (d : Rt) (h : Okr d) (w : World) : (Instr.build 39 #[(0, .agg (csA d.v d.l)), (1, .int .i64 d.b), (2, .int .i64 d.k)]).run Tryz.prog w = .ok (.agg (csD d)) w := by
  obtain ⟨v, l, b, k⟩ := d
  obtain ⟨b0, b1, b2, b3, b4, b5, b6, b7, b8, b9, b10, b11, b12, b13, b14, b15, rfl⟩ := list16 h.1
  kernel_rfl
theorem run_buildS (w : World) (d : Rt) (h : Okr d) : (Instr.buildSlice 22 1 #[(0, .agg (csD d))]).run Tryz.prog w = .ok (.slice (some ⟨w.heap.size, 0, none⟩) 1 1) (w.alloc (.cells (csD d) 39)) := by
  obtain ⟨v, l, b, k⟩ := d
  obtain ⟨b0, b1, b2, b3, b4, b5, b6, b7, b8, b9, b10, b11, b12, b13, b14, b15, rfl⟩ := list16 h.1
  kernel_rfl
theorem wpList_buildE {ops : Array Oper} {rest : List Oper} {o : Oper} {a : Act} {w : World} {Q : Exit → Act → World → Prop} (hg : o.guard = none) (x0 x1 x2 : Operand) (ho : o.op = .build 39 #[(0, x0), (1, x1), (2, x2)])
    (d : Rt) (hd : Okr d) (h0 : a.eval x0 = .agg (csA d.v d.l)) (h1 : a.eval x1 = .int .i64 d.b) (h2 : a.eval x2 = .int .i64 d.k)
    (h : wpList Tryz.prog ops Q rest (a.put o.dst (.agg (csD d))) w) : wpList Tryz.prog ops Q (o :: rest) a w := by
  refine wpList_plain hg fun K hK => ?_
  unfold Oper.wp execOp
  simp only [ho, List.map_toArray, List.map_cons, List.map_nil, h0, h1, h2, run_buildE d hd, Sem.run_bind, Result.andThen_ok, Sem.run_pure]
  exact hK _ _ h
theorem yields_buildE {ops : Array Oper} {S : World → Prop} {op : Oper} {a : Act} (hw : Region.wanted op (yielded ops a.tmps) = true) (x0 x1 x2 : Operand) (ho : op.op = .build 39 #[(0, x0), (1, x1), (2, x2)])
    (d : Rt) (hd : Okr d) (h0 : a.eval x0 = .agg (csA d.v d.l)) (h1 : a.eval x1 = .int .i64 d.b) (h2 : a.eval x2 = .int .i64 d.k) : YieldsIf Tryz.prog ops S op (.agg (csD d)) a :=
  .inl ⟨hw, fun w hw' => by
    unfold execOp
    simp only [ho, List.map_toArray, List.map_cons, List.map_nil, h0, h1, h2, run_buildE d hd, Sem.run_bind, Result.andThen_ok, Sem.run_pure]⟩
theorem wpList_buildS {ops : Array Oper} {rest : List Oper} {o : Oper} {a : Act} {w : World} {Q : Exit → Act → World → Prop} (hg : o.guard = none) (x : Operand) (ho : o.op = .buildSlice 22 1 #[(0, x)]) (d : Rt) (hx : a.eval x = .agg (csD d)) (hd : Okr d)
    (h : ∀ gb w', w.heap.size ≤ gb → BoxD w' gb d → Away [] w w' → wpList Tryz.prog ops Q rest (a.put o.dst (.slice (some ⟨gb, 0, none⟩) 1 1)) w') : wpList Tryz.prog ops Q (o :: rest) a w := by
  refine wpList_plain hg fun K hK => ?_
  unfold Oper.wp execOp
  simp only [ho, List.map_toArray, List.map_cons, List.map_nil, hx, run_buildS w d hd, Sem.run_bind, Result.andThen_ok, Sem.run_pure]
  exact hK _ _ (h w.heap.size _ (Nat.le_refl _) (block_new _ _) ((Away.refl [] w).alloc _))
theorem step_buildS {ops : Array Oper} {o : Oper} {a : Act} {w : World} {K : Act → World → Prop} {Q : Exit → Act → World → Prop} {E : Prop} (hg : o.guard = none) (x : Operand) (ho : o.op = .buildSlice 22 1 #[(0, x)]) (d : Rt) (hx : a.eval x = .agg (csD d)) (hd : Okr d)
    (h : ∀ gb w', w.heap.size ≤ gb → BoxD w' gb d → Away [] w w' → K (a.put o.dst (.slice (some ⟨gb, 0, none⟩) 1 1)) w') : if Region.wanted o (yielded ops a.tmps) = true then Oper.wp Tryz.prog o a w K Q else E := by
  have hw : Region.wanted o (yielded ops a.tmps) = true := by simp [Region.wanted, hg]
  rw [if_pos hw]
  unfold Oper.wp execOp
  simp only [ho, List.map_toArray, List.map_cons, List.map_nil, hx, run_buildS w d hd, Sem.run_bind, Result.andThen_ok, Sem.run_pure]
  exact h w.heap.size _ (Nat.le_refl _) (block_new _ _) ((Away.refl [] w).alloc _)
theorem run_appD (ty : TypeId) (w : World) (v : Value) (xs : List Rt) (hown : LstD w v xs) (g c : Nat) (d : Rt) (hb : BoxD w g d) (ha : Okr d) (hk : xs.length < 3518437208883) :
    ∃ v' w', (Builtin.append_ #[22, 22] ty #[v, .slice (some ⟨g, 0, none⟩) 1 c]).run Tryz.prog w = .ok v' w' ∧ LstD w' v' (xs ++ [d]) ∧ w.grownBy w' v.ownBlock ∧ Moved w v v' :=
  run_appL ty w v xs hown ⟨g, 0, none⟩ 1 c [d] rfl (by simpa using ha) (fun j u hj => by
    rw [add_plain, Nat.zero_add]; have h1 := hb.range j u (by simpa using hj); simpa using h1) (by omega)
theorem wpList_appD {w : World} {ops : Array Oper} {rest : List Oper} {o : Oper} {a : Act} {Q : Exit → Act → World → Prop} (hgd : o.guard = none) (s t : Operand)
    (ho : o.op = .call { callee := .builtin .append, args := #[s, t], argTypes := #[22, 22] }) (v : Value) (L : List Rt) (hs : a.eval s = v) (hown : LstD w v L)
    (g cp : Nat) (ht : a.eval t = .slice (some ⟨g, 0, none⟩) 1 cp) (d : Rt) (hb : BoxD w g d) (hd : Okr d) (hk : L.length < 3518437208883)
    (h : ∀ v' w', LstD w' v' (L ++ [d]) → w.grownBy w' v.ownBlock → Moved w v v' → wpList Tryz.prog ops Q rest (a.put o.dst v') w') : wpList Tryz.prog ops Q (o :: rest) a w := by
  obtain ⟨v', w', hrun, r1, r2, r3⟩ := run_appD o.type w v L hown g cp d hb hd hk
  refine wpList_plain hgd fun _ hK => ?_
  unfold Oper.wp
  simp [execOp, ho, resolve, invoke, builtin, hs, ht, hrun, Result.andThen]
  exact hK _ _ (h v' w' r1 r2 r3)
theorem step_appS {ops : Array Oper} {o : Oper} {a : Act} {w : World} {K : Act → World → Prop} {Q : Exit → Act → World → Prop} {E : Prop} (hg : o.guard = none) (s x : Operand) (ho : o.op = .call { callee := .builtin .append, args := #[s, x], argTypes := #[22, 22] })
    (v : Value) (xs : List Rt) (g c : Nat) (d : Rt) (hs : a.eval s = v) (hx : a.eval x = .slice (some ⟨g, 0, none⟩) 1 c) (hown : LstD w v xs) (hb : BoxD w g d) (ha : Okr d) (hk : xs.length < 3518437208883)
    (h : ∀ v' w', LstD w' v' (xs ++ [d]) → w.grownBy w' v.ownBlock → Moved w v v' → K (a.put o.dst v') w') : if Region.wanted o (yielded ops a.tmps) = true then Oper.wp Tryz.prog o a w K Q else E := by
  have hw : Region.wanted o (yielded ops a.tmps) = true := by simp [Region.wanted, hg]
  rw [if_pos hw]
  obtain ⟨v', w', hrun, r1, r2, r3⟩ := run_appD o.type w v xs hown g c d hb ha hk
  unfold Oper.wp
  simp [execOp, ho, resolve, invoke, builtin, hs, hx, hrun, Result.andThen]
  exact h v' w' r1 r2 r3
theorem ldL {w : World} {ad : Addr} {a : Option Addr} {n c : Nat} (h : w.cell? ad = some (.slice a n c)) : (Instr.loadAt 22 (.pointer (some ad))).run Tryz.prog w = .ok (.slice a n c) w := by
  simp [go_sem, Instr.loadAt, Instr.sureAddr, h]
theorem wpList_ixE {ops : Array Oper} {rest : List Oper} {o : Oper} {a : Act} {w : World} {Q : Exit → Act → World → Prop} (hw : Region.wanted o (yielded ops a.tmps) = true) (x ix : Operand) (ho : o.op = .indexAddr 22 x ix) (gb n cap i : Nat) (hx : a.eval x = .slice (some ⟨gb, 0, none⟩) n cap) (hix : a.eval ix = .int .i64 (i : Int)) (hi : i < n)
    (h : wpList Tryz.prog ops Q rest (a.put o.dst (.pointer (some ⟨gb, i * 19, none⟩))) w) : wpList Tryz.prog ops Q (o :: rest) a w := by
  refine BigFrame.wpList_want hw fun K hK => ?_
  have he : Tryz.prog.elem 22 = 39 := by kernel_rfl
  have hsz : (sizeOf 39).run Tryz.prog w = .ok 19 w := by kernel_rfl
  unfold Oper.wp execOp
  simp only [ho, hx, hix, Sem.run_bind]
  rw [run_indexAt_slice w 22 ⟨gb, 0, none⟩ n cap .i64 (i : Int) underK, he, if_pos ⟨by omega, by omega⟩, hsz]
  simp only [Result.andThen, add_plain, Int.toNat_natCast, Nat.zero_add]
  exact hK _ _ h
theorem LstD.shape {w : World} {v : Value} {L : List Rt} (h : LstD w v L) (hA : ∀ x ∈ L, Okr x) : ∃ a cap, v = .slice a L.length cap ∧ (∀ j x, L[j]? = some x → ∃ b, a = some ⟨b, 0, none⟩ ∧ w.rangeAt b (j * 19) (listD x)) := by
  rcases h.shp with ⟨rfl, rfl⟩ | ⟨b, cap, rfl⟩
  · exact ⟨none, 0, rfl, fun j x hj => by simp at hj⟩
  · exact ⟨some ⟨b, 0, none⟩, cap, rfl, fun j x hj => ⟨b, rfl, by have := h.at hA hj; rwa [Nat.zero_add] at this⟩⟩

/-- A list of routes that can be read. -/
structure Rd (w : World) (v : Value) (L : List Rt) : Prop where
  ok : ∀ x ∈ L, Okr x
  shp : ∃ a cap, v = .slice a L.length cap ∧ L.length ≤ cap ∧ (L = [] ∨ ∃ b o, a = some ⟨b, o, none⟩ ∧ ∀ (j : Nat) (x : Rt), L[j]? = some x → w.rangeAt b (o + j * 19) (listD x))
theorem Rd.on {w w' : World} {v : Value} {L : List Rt} (h : Rd w v L) (hw : Away [] w w') : Rd w' v L := by
  obtain ⟨h1, a, cap, h2, h3, h4⟩ := h
  refine ⟨h1, a, cap, h2, h3, ?_⟩
  rcases h4 with h4 | ⟨b, o, h4, h5⟩
  · exact .inl h4
  · exact .inr ⟨b, o, h4, fun j x hj => range_away hw (by simp) (h5 j x hj)⟩
theorem LstD.rd {w : World} {v : Value} {L : List Rt} (h : LstD w v L) (hA : ∀ x ∈ L, Okr x) : Rd w v L := by
  refine ⟨hA, ?_⟩
  obtain ⟨a, cap, e, h1⟩ := h.sl
  refine ⟨a, cap, e, h1, ?_⟩
  rcases h.shp with ⟨rfl, rfl⟩ | ⟨b, cap', rfl⟩
  · exact .inl rfl
  · simp only [Value.slice.injEq] at e
    obtain ⟨rfl, -, -⟩ := e
    exact .inr ⟨b, 0, rfl, fun j x hj => h.at hA hj⟩
theorem wpList_ixR {ops : Array Oper} {rest : List Oper} {o : Oper} {a : Act} {w : World} {Q : Exit → Act → World → Prop} (hw : Region.wanted o (yielded ops a.tmps) = true) (x ix : Operand) (ho : o.op = .indexAddr 22 x ix) (gb go n cap i : Nat) (hx : a.eval x = .slice (some ⟨gb, go, none⟩) n cap) (hix : a.eval ix = .int .i64 (i : Int)) (hi : i < n)
    (h : wpList Tryz.prog ops Q rest (a.put o.dst (.pointer (some ⟨gb, go + i * 19, none⟩))) w) : wpList Tryz.prog ops Q (o :: rest) a w := by
  refine BigFrame.wpList_want hw fun K hK => ?_
  have he : Tryz.prog.elem 22 = 39 := by kernel_rfl
  have hsz : (sizeOf 39).run Tryz.prog w = .ok 19 w := by kernel_rfl
  unfold Oper.wp execOp
  simp only [ho, hx, hix, Sem.run_bind]
  rw [run_indexAt_slice w 22 ⟨gb, go, none⟩ n cap .i64 (i : Int) underK, he, if_pos ⟨by omega, by omega⟩, hsz]
  simp only [Result.andThen, add_plain, Int.toNat_natCast]
  exact hK _ _ h
end Go.Proofs.YtoifolmcdkfniabGreatDoor
