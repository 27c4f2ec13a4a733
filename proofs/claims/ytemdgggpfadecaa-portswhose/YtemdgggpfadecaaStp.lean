/-
  Steps over addresses and sockets in memory.
-/
import Derived.Test.YtemdgggpfadecaaKB
import Derived.Test.YtemdgggpfadecaaKO
import Derived.Test.YtemdgggpfadecaaKS
import Derived.Test.YtemdgggpfadecaaUntil
import Derived.Deep.CutBlock
import Derived.Deep.DeepCutAuto
import Derived.Lib.MinMax
import Derived.BigQuiet
namespace Go.Proofs.Ytemdgggpfadecaa
open Go.ChangeShapes Go.WideShapes Go.ChangeAt Go.RowKit
set_option linter.unusedVariables false
set_option linter.unusedSimpArgs false
set_option maxRecDepth 100000

theorem range_away {S : List Nat} {w w' : World} (hw : Away S w w') {b o : Nat} {cs : List Value} (hb : b ∉ S) (h : w.rangeAt b o cs) : w'.rangeAt b o cs := fun j v hj => hw.cell hb (h j v hj)
theorem get_of {α : Type} {l : List α} {k : Nat} (h : k < l.length) : ∃ y, l[k]? = some y ∧ y ∈ l := ⟨l[k], by simp [h], by simp⟩
theorem eq32 (v v' : Int) (l l' : List Int) (hl : l.length = 16) (hl' : l'.length = 16) (w : World) : (Op.equalIn 10000 32 (.agg (csA v l)) (.agg (csA v' l'))).run Try.prog w = .ok (decide (v = v') && eqL l l') w := eq24 v v' l l' hl hl' w
theorem ld3 {w : World} {ad : Addr} {n : Int} (h : w.cell? ad = some (.int .i64 n)) : (Instr.loadAt 3 (.pointer (some ad))).run Try.prog w = .ok (.int .i64 n) w := by
  simp [go_sem, Instr.loadAt, Instr.sureAddr, h]
/-- An address within a block. -/
theorem load32m_run {w : World} {g k : Nat} {v : Int} {l : List Int} (hc : w.rangeAt g k (cellsA v l)) (hl : l.length = 16) : (Instr.loadAt 32 (.pointer (some ⟨g, k, none⟩))).run Try.prog w = .ok (.agg (csA v l)) w := by
  have := run_loadVar_mid (P := Try.prog) w g k 32 (cellsA v l) _ hc Try.underlying32 rfl (by rw [show (cellsA v l).length = 17 from by simp [cellsA, hl]]; exact info24)
  simp only [Instr.loadAt, Instr.sureAddr, Sem.run_bind, Sem.run_pure, Result.andThen]
  rw [this]; rfl
theorem wpList_load32m {ops : Array Oper} {rest : List Oper} {o : Oper} {a : Act} {w : World} {Q : Exit → Act → World → Prop} (hw : Region.wanted o (yielded ops a.tmps) = true) (x : Operand) (ho : o.op = .load 32 x)
    (g k : Nat) (hx : a.eval x = .pointer (some ⟨g, k, none⟩)) (v : Int) (l : List Int) (hl : l.length = 16) (hr : w.rangeAt g k (cellsA v l)) (h : wpList Try.prog ops Q rest (a.put o.dst (.agg (csA v l))) w) : wpList Try.prog ops Q (o :: rest) a w := by
  refine BigFrame.wpList_want hw fun K hK => ?_
  unfold Oper.wp execOp
  simp only [ho, hx, Sem.run_bind, load32m_run hr hl, Result.andThen_ok, Sem.run_pure]
  exact hK _ _ h
theorem BoxA.range {w : World} {g : Nat} {v : Int} {l : List Int} (h : BoxA w g v l) : w.rangeAt g 0 (cellsA v l) := fun j u hj => by
  rw [cell_of_block h]; simpa [csA] using hj
theorem BoxA.on {S : List Nat} {w w' : World} {g : Nat} {v : Int} {l : List Int} (h : BoxA w g v l) (hw : Away S w w') (hg : g ∉ S) : BoxA w' g v l := hw.keep hg h
/-- A variable of its own for an address. -/
theorem wpList_box32 {ops : Array Oper} {rest : List Oper} {o : Oper} {a : Act} {w : World} {Q : Exit → Act → World → Prop} (hg : o.guard = none) (x : Operand) (ho : o.op = .box 32 x) (v : Int) (l : List Int) (hx : a.eval x = .agg (csA v l))
    (h : ∀ g w1, w.heap.size ≤ g → BoxA w1 g v l → Away [] w w1 → wpList Try.prog ops Q rest (a.put o.dst (.pointer (some ⟨g, 0, none⟩))) w1) : wpList Try.prog ops Q (o :: rest) a w := by
  refine wpList_plain hg fun K hK => ?_
  unfold Oper.wp execOp
  simp only [ho, hx, Sem.run_bind, Instr.box, newVar, newRow, Value.cells, run_newObj_alloc, Sem.run_pure, Result.andThen_ok]
  exact hK _ _ (h w.heap.size _ (Nat.le_refl _) (block_new _ _) ((Away.refl [] w).alloc _))
theorem wpList_load32 {ops : Array Oper} {rest : List Oper} {o : Oper} {a : Act} {w : World} {Q : Exit → Act → World → Prop} (hw : Region.wanted o (yielded ops a.tmps) = true) (x : Operand) (ho : o.op = .load 32 x)
    (g : Nat) (hx : a.eval x = .pointer (some ⟨g, 0, none⟩)) (v : Int) (l : List Int) (hl : l.length = 16) (hr : BoxA w g v l) (h : wpList Try.prog ops Q rest (a.put o.dst (.agg (csA v l))) w) : wpList Try.prog ops Q (o :: rest) a w :=
  wpList_load32m hw x ho g 0 hx v l hl hr.range h
theorem range_n {w : World} {g o : Nat} {x : Bd} (h : w.rangeAt g o (listD x)) : w.cell? ⟨g, o, none⟩ = some (.int .i64 x.n) := by have := h 0 _ (listD_n x); simpa using this
theorem range_p {w : World} {g o : Nat} {x : Bd} (h : w.rangeAt g o (listD x)) (hx : Okd x) : w.cell? ⟨g, o + 18, none⟩ = some (.int .i64 x.p) := h 18 _ (listD_p hx)
theorem range_a {w : World} {g o : Nat} {x : Bd} (h : w.rangeAt g o (listD x)) (hx : Okd x) : w.rangeAt g (o + 1) (cellsA x.v x.l) := fun j u hj => by
  rw [show o + 1 + j = o + (1 + j) from by omega]
  refine h (1 + j) u ?_
  rw [← listD_a hx, List.getElem?_take] at hj
  split at hj
  · rw [List.getElem?_drop] at hj; exact hj
  · simp at hj
namespace KB
theorem infoE : (Try.prog.info? 64).map (·.size) = some 19 := by kernel_rfl
def BoxD (w : World) (g : Nat) (x : Bd) : Prop := w.heap[g]? = some (.cells (csD x) 64 (0, 0))
theorem BoxD.range {w : World} {g : Nat} {x : Bd} (h : BoxD w g x) : w.rangeAt g 0 (listD x) := fun j u hj => by rw [cell_of_block h]; simpa [csD] using hj
theorem BoxD.on {S : List Nat} {w w' : World} {g : Nat} {x : Bd} (h : BoxD w g x) (hw : Away S w w') (hg : g ∉ S) : BoxD w' g x := hw.keep hg h
theorem loadE_run {w : World} {g k : Nat} {x : Bd} (hc : w.rangeAt g k (listD x)) (ha : Okd x) : (Instr.loadAt 64 (.pointer (some ⟨g, k, none⟩))).run Try.prog w = .ok (.agg (csD x)) w := by
  have := run_loadVar_mid (P := Try.prog) w g k 64 (listD x) _ hc Try.underlying64 rfl (by rw [listD_len ha]; exact infoE)
  simp only [Instr.loadAt, Instr.sureAddr, Sem.run_bind, Sem.run_pure, Result.andThen]
  rw [this]; rfl
theorem wpList_loadE {ops : Array Oper} {rest : List Oper} {o : Oper} {a : Act} {w : World} {Q : Exit → Act → World → Prop} (hw : Region.wanted o (yielded ops a.tmps) = true) (x : Operand) (ho : o.op = .load 64 x)
    (g k : Nat) (hx : a.eval x = .pointer (some ⟨g, k, none⟩)) (d : Bd) (hd : Okd d) (hr : w.rangeAt g k (listD d)) (h : wpList Try.prog ops Q rest (a.put o.dst (.agg (csD d))) w) : wpList Try.prog ops Q (o :: rest) a w := by
  refine BigFrame.wpList_want hw fun K hK => ?_
  unfold Oper.wp execOp
  simp only [ho, hx, Sem.run_bind, loadE_run hr hd, Result.andThen_ok, Sem.run_pure]
  exact hK _ _ h
theorem zeroE : (Try.prog.info? 64).bind (·.zero) = some (.agg zD) := by kernel_rfl
theorem wpList_allocE {ops : Array Oper} {rest : List Oper} {o : Oper} {a : Act} {w : World} {Q : Exit → Act → World → Prop} (hg : o.guard = none) (ho : o.op = .alloc 64)
    (h : ∀ g w1, w.heap.size ≤ g → BoxD w1 g zeroD → Away [] w w1 → wpList Try.prog ops Q rest (a.put o.dst (.pointer (some ⟨g, 0, none⟩))) w1) : wpList Try.prog ops Q (o :: rest) a w := by
  have hz : (zeroValue 64).run Try.prog w = .ok (.agg zD) w := by
    have := zeroE
    cases hi : Try.prog.info? 64 with
    | none => rw [hi] at this; simp at this
    | some i => rw [hi] at this; simp at this; simp [zeroValue, typeInfo, hi, this]
  refine wpList_plain hg fun K hK => ?_
  unfold Oper.wp execOp
  simp only [ho, Sem.run_bind, Instr.alloc, hz, newVar, newRow, run_newObj_alloc, Sem.run_pure, Result.andThen_ok]
  exact hK _ _ (h w.heap.size _ (Nat.le_refl _) (block_new _ _) ((Away.refl [] w).alloc _))
theorem wpList_boxE {ops : Array Oper} {rest : List Oper} {o : Oper} {a : Act} {w : World} {Q : Exit → Act → World → Prop} (hg : o.guard = none) (x : Operand) (ho : o.op = .box 64 x) (d : Bd) (hx : a.eval x = .agg (csD d))
    (h : ∀ g w1, w.heap.size ≤ g → BoxD w1 g d → Away [] w w1 → wpList Try.prog ops Q rest (a.put o.dst (.pointer (some ⟨g, 0, none⟩))) w1) : wpList Try.prog ops Q (o :: rest) a w := by
  refine wpList_plain hg fun K hK => ?_
  unfold Oper.wp execOp
  simp only [ho, hx, Sem.run_bind, Instr.box, newVar, newRow, Value.cells, run_newObj_alloc, Sem.run_pure, Result.andThen_ok]
  exact hK _ _ (h w.heap.size _ (Nat.le_refl _) (block_new _ _) ((Away.refl [] w).alloc _))
theorem wpList_storeE {ops : Array Oper} {rest : List Oper} {o : Oper} {a : Act} {w : World} {Q : Exit → Act → World → Prop} (hw : Region.wanted o (yielded ops a.tmps) = true) (x y : Operand) (ho : o.op = .store 64 x y)
    (g : Nat) (hx : a.eval x = .pointer (some ⟨g, 0, none⟩)) (d e : Bd) (hd : Okd d) (he : Okd e) (hy : a.eval y = .agg (csD d)) (hb : BoxD w g e)
    (h : ∀ w1, BoxD w1 g d → Away [g] w w1 → wpList Try.prog ops Q rest (a.put o.dst undef) w1) : wpList Try.prog ops Q (o :: rest) a w :=
  BigFrame.wpList_want hw fun K hK => wp_store_row 64 x y ho g (csD d) hx hy 64 (csD e) hb (by rw [csD_size hd]; exact infoE) (by rw [csD_size hd, csD_size he]) (csD_one hd) (hK _ _ (h _ (by
    unfold BoxD at hb ⊢; simp [World.setRow, Array.getElem?_modify, hb]) ((Away.refl [g] w).setRow (.inl (by simp)) _)))
theorem run_buildE (d : Bd) (h : Okd d) (w : World) : (Instr.build 64 #[(0, .int .i64 d.n), (1, .agg (csA d.v d.l)), (2, .int .i64 d.p)]).run Try.prog w = .ok (.agg (csD d)) w := by
  obtain ⟨n, v, l, p⟩ := d
  simp only [Okd] at h
  obtain ⟨b0, b1, b2, b3, b4, b5, b6, b7, b8, b9, b10, b11, b12, b13, b14, b15, rfl⟩ := list16 h
  kernel_rfl
theorem run_buildS (w : World) (d : Bd) (h : Okd d) : (Instr.buildSlice 59 1 #[(0, .agg (csD d))]).run Try.prog w = .ok (.slice (some ⟨w.heap.size, 0, none⟩) 1 1) (w.alloc (.cells (csD d) 64)) := by
  obtain ⟨n, v, l, p⟩ := d
  simp only [Okd] at h
  obtain ⟨b0, b1, b2, b3, b4, b5, b6, b7, b8, b9, b10, b11, b12, b13, b14, b15, rfl⟩ := list16 h
  kernel_rfl
theorem wpList_buildE {ops : Array Oper} {rest : List Oper} {o : Oper} {a : Act} {w : World} {Q : Exit → Act → World → Prop} (hg : o.guard = none) (x0 x1 x2 : Operand) (ho : o.op = .build 64 #[(0, x0), (1, x1), (2, x2)])
    (d : Bd) (hd : Okd d) (h0 : a.eval x0 = .int .i64 d.n) (h1 : a.eval x1 = .agg (csA d.v d.l)) (h2 : a.eval x2 = .int .i64 d.p)
    (h : wpList Try.prog ops Q rest (a.put o.dst (.agg (csD d))) w) : wpList Try.prog ops Q (o :: rest) a w := by
  refine wpList_plain hg fun K hK => ?_
  unfold Oper.wp execOp
  simp only [ho, List.map_toArray, List.map_cons, List.map_nil, h0, h1, h2, run_buildE d hd, Sem.run_bind, Result.andThen_ok, Sem.run_pure]
  exact hK _ _ h
theorem yields_buildE {ops : Array Oper} {S : World → Prop} {op : Oper} {a : Act} (hw : Region.wanted op (yielded ops a.tmps) = true) (x0 x1 x2 : Operand) (ho : op.op = .build 64 #[(0, x0), (1, x1), (2, x2)])
    (d : Bd) (hd : Okd d) (h0 : a.eval x0 = .int .i64 d.n) (h1 : a.eval x1 = .agg (csA d.v d.l)) (h2 : a.eval x2 = .int .i64 d.p) : YieldsIf Try.prog ops S op (.agg (csD d)) a :=
  .inl ⟨hw, fun w hw' => by
    unfold execOp
    simp only [ho, List.map_toArray, List.map_cons, List.map_nil, h0, h1, h2, run_buildE d hd, Sem.run_bind, Result.andThen_ok, Sem.run_pure]⟩
theorem wpList_buildS {ops : Array Oper} {rest : List Oper} {o : Oper} {a : Act} {w : World} {Q : Exit → Act → World → Prop} (hg : o.guard = none) (x : Operand) (ho : o.op = .buildSlice 59 1 #[(0, x)]) (d : Bd) (hx : a.eval x = .agg (csD d)) (hd : Okd d)
    (h : ∀ gb w', w.heap.size ≤ gb → BoxD w' gb d → Away [] w w' → wpList Try.prog ops Q rest (a.put o.dst (.slice (some ⟨gb, 0, none⟩) 1 1)) w') : wpList Try.prog ops Q (o :: rest) a w := by
  refine wpList_plain hg fun K hK => ?_
  unfold Oper.wp execOp
  simp only [ho, List.map_toArray, List.map_cons, List.map_nil, hx, run_buildS w d hd, Sem.run_bind, Result.andThen_ok, Sem.run_pure]
  exact hK _ _ (h w.heap.size _ (Nat.le_refl _) (block_new _ _) ((Away.refl [] w).alloc _))
theorem step_buildS {ops : Array Oper} {o : Oper} {a : Act} {w : World} {K : Act → World → Prop} {Q : Exit → Act → World → Prop} {E : Prop} (hg : o.guard = none) (x : Operand) (ho : o.op = .buildSlice 59 1 #[(0, x)]) (d : Bd) (hx : a.eval x = .agg (csD d)) (hd : Okd d)
    (h : ∀ gb w', w.heap.size ≤ gb → BoxD w' gb d → Away [] w w' → K (a.put o.dst (.slice (some ⟨gb, 0, none⟩) 1 1)) w') : if Region.wanted o (yielded ops a.tmps) = true then Oper.wp Try.prog o a w K Q else E := by
  have hw : Region.wanted o (yielded ops a.tmps) = true := by simp [Region.wanted, hg]
  rw [if_pos hw]
  unfold Oper.wp execOp
  simp only [ho, List.map_toArray, List.map_cons, List.map_nil, hx, run_buildS w d hd, Sem.run_bind, Result.andThen_ok, Sem.run_pure]
  exact h w.heap.size _ (Nat.le_refl _) (block_new _ _) ((Away.refl [] w).alloc _)
theorem run_appD (ty : TypeId) (w : World) (v : Value) (xs : List Bd) (hown : LstD w v xs) (g c : Nat) (d : Bd) (hb : BoxD w g d) (ha : Okd d) (hk : xs.length < 64) :
    ∃ v' w', (Builtin.append_ #[59, 59] ty #[v, .slice (some ⟨g, 0, none⟩) 1 c]).run Try.prog w = .ok v' w' ∧ LstD w' v' (xs ++ [d]) ∧ w.grownBy w' v.ownBlock ∧ Moved w v v' :=
  run_appL ty w v xs hown ⟨g, 0, none⟩ 1 c [d] rfl (by simpa using ha) (fun j u hj => by
    rw [add_plain, Nat.zero_add]; have h1 := hb.range j u (by simpa using hj); simpa using h1) (by omega)
theorem wpList_appD {w : World} {ops : Array Oper} {rest : List Oper} {o : Oper} {a : Act} {Q : Exit → Act → World → Prop} (hgd : o.guard = none) (s t : Operand)
    (ho : o.op = .call { callee := .builtin .append, args := #[s, t], argTypes := #[59, 59] }) (v : Value) (L : List Bd) (hs : a.eval s = v) (hown : LstD w v L)
    (g cp : Nat) (ht : a.eval t = .slice (some ⟨g, 0, none⟩) 1 cp) (d : Bd) (hb : BoxD w g d) (hd : Okd d) (hk : L.length < 64)
    (h : ∀ v' w', LstD w' v' (L ++ [d]) → w.grownBy w' v.ownBlock → Moved w v v' → wpList Try.prog ops Q rest (a.put o.dst v') w') : wpList Try.prog ops Q (o :: rest) a w := by
  obtain ⟨v', w', hrun, r1, r2, r3⟩ := run_appD o.type w v L hown g cp d hb hd hk
  refine wpList_plain hgd fun _ hK => ?_
  unfold Oper.wp
  simp [execOp, ho, resolve, invoke, builtin, hs, ht, hrun, Result.andThen]
  exact hK _ _ (h v' w' r1 r2 r3)
theorem step_appS {ops : Array Oper} {o : Oper} {a : Act} {w : World} {K : Act → World → Prop} {Q : Exit → Act → World → Prop} {E : Prop} (hg : o.guard = none) (s x : Operand) (ho : o.op = .call { callee := .builtin .append, args := #[s, x], argTypes := #[59, 59] })
    (v : Value) (xs : List Bd) (g c : Nat) (d : Bd) (hs : a.eval s = v) (hx : a.eval x = .slice (some ⟨g, 0, none⟩) 1 c) (hown : LstD w v xs) (hb : BoxD w g d) (ha : Okd d) (hk : xs.length < 64)
    (h : ∀ v' w', LstD w' v' (xs ++ [d]) → w.grownBy w' v.ownBlock → Moved w v v' → K (a.put o.dst v') w') : if Region.wanted o (yielded ops a.tmps) = true then Oper.wp Try.prog o a w K Q else E := by
  have hw : Region.wanted o (yielded ops a.tmps) = true := by simp [Region.wanted, hg]
  rw [if_pos hw]
  obtain ⟨v', w', hrun, r1, r2, r3⟩ := run_appD o.type w v xs hown g c d hb ha hk
  unfold Oper.wp
  simp [execOp, ho, resolve, invoke, builtin, hs, hx, hrun, Result.andThen]
  exact h v' w' r1 r2 r3
theorem ldL {w : World} {ad : Addr} {a : Option Addr} {n c : Nat} (h : w.cell? ad = some (.slice a n c)) : (Instr.loadAt 59 (.pointer (some ad))).run Try.prog w = .ok (.slice a n c) w := by
  simp [go_sem, Instr.loadAt, Instr.sureAddr, h]
theorem wpList_ixE {ops : Array Oper} {rest : List Oper} {o : Oper} {a : Act} {w : World} {Q : Exit → Act → World → Prop} (hw : Region.wanted o (yielded ops a.tmps) = true) (x ix : Operand) (ho : o.op = .indexAddr 59 x ix) (gb n cap i : Nat) (hx : a.eval x = .slice (some ⟨gb, 0, none⟩) n cap) (hix : a.eval ix = .int .i64 (i : Int)) (hi : i < n)
    (h : wpList Try.prog ops Q rest (a.put o.dst (.pointer (some ⟨gb, i * 19, none⟩))) w) : wpList Try.prog ops Q (o :: rest) a w := by
  refine BigFrame.wpList_want hw fun K hK => ?_
  have he : Try.prog.elem 59 = 64 := by kernel_rfl
  have hsz : (sizeOf 64).run Try.prog w = .ok 19 w := by kernel_rfl
  unfold Oper.wp execOp
  simp only [ho, hx, hix, Sem.run_bind]
  rw [run_indexAt_slice w 59 ⟨gb, 0, none⟩ n cap .i64 (i : Int) underK, he, if_pos ⟨by omega, by omega⟩, hsz]
  simp only [Result.andThen, add_plain, Int.toNat_natCast, Nat.zero_add]
  exact hK _ _ h
theorem LstD.shape {w : World} {v : Value} {L : List Bd} (h : LstD w v L) (hA : ∀ x ∈ L, Okd x) : ∃ a cap, v = .slice a L.length cap ∧ (∀ j x, L[j]? = some x → ∃ b, a = some ⟨b, 0, none⟩ ∧ w.rangeAt b (j * 19) (listD x)) := by
  rcases h.shp with ⟨rfl, rfl⟩ | ⟨b, cap, rfl⟩
  · exact ⟨none, 0, rfl, fun j x hj => by simp at hj⟩
  · exact ⟨some ⟨b, 0, none⟩, cap, rfl, fun j x hj => ⟨b, rfl, by have := h.at hA hj; rwa [Nat.zero_add] at this⟩⟩
end KB
namespace KO
theorem infoE : (Try.prog.info? 45).map (·.size) = some 19 := by kernel_rfl
def BoxD (w : World) (g : Nat) (x : Bd) : Prop := w.heap[g]? = some (.cells (csD x) 45 (0, 0))
theorem BoxD.range {w : World} {g : Nat} {x : Bd} (h : BoxD w g x) : w.rangeAt g 0 (listD x) := fun j u hj => by rw [cell_of_block h]; simpa [csD] using hj
theorem BoxD.on {S : List Nat} {w w' : World} {g : Nat} {x : Bd} (h : BoxD w g x) (hw : Away S w w') (hg : g ∉ S) : BoxD w' g x := hw.keep hg h
theorem loadE_run {w : World} {g k : Nat} {x : Bd} (hc : w.rangeAt g k (listD x)) (ha : Okd x) : (Instr.loadAt 45 (.pointer (some ⟨g, k, none⟩))).run Try.prog w = .ok (.agg (csD x)) w := by
  have := run_loadVar_mid (P := Try.prog) w g k 45 (listD x) _ hc Try.underlying45 rfl (by rw [listD_len ha]; exact infoE)
  simp only [Instr.loadAt, Instr.sureAddr, Sem.run_bind, Sem.run_pure, Result.andThen]
  rw [this]; rfl
theorem wpList_loadE {ops : Array Oper} {rest : List Oper} {o : Oper} {a : Act} {w : World} {Q : Exit → Act → World → Prop} (hw : Region.wanted o (yielded ops a.tmps) = true) (x : Operand) (ho : o.op = .load 45 x)
    (g k : Nat) (hx : a.eval x = .pointer (some ⟨g, k, none⟩)) (d : Bd) (hd : Okd d) (hr : w.rangeAt g k (listD d)) (h : wpList Try.prog ops Q rest (a.put o.dst (.agg (csD d))) w) : wpList Try.prog ops Q (o :: rest) a w := by
  refine BigFrame.wpList_want hw fun K hK => ?_
  unfold Oper.wp execOp
  simp only [ho, hx, Sem.run_bind, loadE_run hr hd, Result.andThen_ok, Sem.run_pure]
  exact hK _ _ h
theorem zeroE : (Try.prog.info? 45).bind (·.zero) = some (.agg zD) := by kernel_rfl
theorem wpList_allocE {ops : Array Oper} {rest : List Oper} {o : Oper} {a : Act} {w : World} {Q : Exit → Act → World → Prop} (hg : o.guard = none) (ho : o.op = .alloc 45)
    (h : ∀ g w1, w.heap.size ≤ g → BoxD w1 g zeroD → Away [] w w1 → wpList Try.prog ops Q rest (a.put o.dst (.pointer (some ⟨g, 0, none⟩))) w1) : wpList Try.prog ops Q (o :: rest) a w := by
  have hz : (zeroValue 45).run Try.prog w = .ok (.agg zD) w := by
    have := zeroE
    cases hi : Try.prog.info? 45 with
    | none => rw [hi] at this; simp at this
    | some i => rw [hi] at this; simp at this; simp [zeroValue, typeInfo, hi, this]
  refine wpList_plain hg fun K hK => ?_
  unfold Oper.wp execOp
  simp only [ho, Sem.run_bind, Instr.alloc, hz, newVar, newRow, run_newObj_alloc, Sem.run_pure, Result.andThen_ok]
  exact hK _ _ (h w.heap.size _ (Nat.le_refl _) (block_new _ _) ((Away.refl [] w).alloc _))
theorem wpList_boxE {ops : Array Oper} {rest : List Oper} {o : Oper} {a : Act} {w : World} {Q : Exit → Act → World → Prop} (hg : o.guard = none) (x : Operand) (ho : o.op = .box 45 x) (d : Bd) (hx : a.eval x = .agg (csD d))
    (h : ∀ g w1, w.heap.size ≤ g → BoxD w1 g d → Away [] w w1 → wpList Try.prog ops Q rest (a.put o.dst (.pointer (some ⟨g, 0, none⟩))) w1) : wpList Try.prog ops Q (o :: rest) a w := by
  refine wpList_plain hg fun K hK => ?_
  unfold Oper.wp execOp
  simp only [ho, hx, Sem.run_bind, Instr.box, newVar, newRow, Value.cells, run_newObj_alloc, Sem.run_pure, Result.andThen_ok]
  exact hK _ _ (h w.heap.size _ (Nat.le_refl _) (block_new _ _) ((Away.refl [] w).alloc _))
theorem wpList_storeE {ops : Array Oper} {rest : List Oper} {o : Oper} {a : Act} {w : World} {Q : Exit → Act → World → Prop} (hw : Region.wanted o (yielded ops a.tmps) = true) (x y : Operand) (ho : o.op = .store 45 x y)
    (g : Nat) (hx : a.eval x = .pointer (some ⟨g, 0, none⟩)) (d e : Bd) (hd : Okd d) (he : Okd e) (hy : a.eval y = .agg (csD d)) (hb : BoxD w g e)
    (h : ∀ w1, BoxD w1 g d → Away [g] w w1 → wpList Try.prog ops Q rest (a.put o.dst undef) w1) : wpList Try.prog ops Q (o :: rest) a w :=
  BigFrame.wpList_want hw fun K hK => wp_store_row 45 x y ho g (csD d) hx hy 45 (csD e) hb (by rw [csD_size hd]; exact infoE) (by rw [csD_size hd, csD_size he]) (csD_one hd) (hK _ _ (h _ (by
    unfold BoxD at hb ⊢; simp [World.setRow, Array.getElem?_modify, hb]) ((Away.refl [g] w).setRow (.inl (by simp)) _)))
theorem run_buildE (d : Bd) (h : Okd d) (w : World) : (Instr.build 45 #[(0, .int .i64 d.n), (1, .agg (csA d.v d.l)), (2, .int .i64 d.p)]).run Try.prog w = .ok (.agg (csD d)) w := by
  obtain ⟨n, v, l, p⟩ := d
  simp only [Okd] at h
  obtain ⟨b0, b1, b2, b3, b4, b5, b6, b7, b8, b9, b10, b11, b12, b13, b14, b15, rfl⟩ := list16 h
  kernel_rfl
theorem run_buildS (w : World) (d : Bd) (h : Okd d) : (Instr.buildSlice 41 1 #[(0, .agg (csD d))]).run Try.prog w = .ok (.slice (some ⟨w.heap.size, 0, none⟩) 1 1) (w.alloc (.cells (csD d) 45)) := by
  obtain ⟨n, v, l, p⟩ := d
  simp only [Okd] at h
  obtain ⟨b0, b1, b2, b3, b4, b5, b6, b7, b8, b9, b10, b11, b12, b13, b14, b15, rfl⟩ := list16 h
  kernel_rfl
theorem wpList_buildE {ops : Array Oper} {rest : List Oper} {o : Oper} {a : Act} {w : World} {Q : Exit → Act → World → Prop} (hg : o.guard = none) (x0 x1 x2 : Operand) (ho : o.op = .build 45 #[(0, x0), (1, x1), (2, x2)])
    (d : Bd) (hd : Okd d) (h0 : a.eval x0 = .int .i64 d.n) (h1 : a.eval x1 = .agg (csA d.v d.l)) (h2 : a.eval x2 = .int .i64 d.p)
    (h : wpList Try.prog ops Q rest (a.put o.dst (.agg (csD d))) w) : wpList Try.prog ops Q (o :: rest) a w := by
  refine wpList_plain hg fun K hK => ?_
  unfold Oper.wp execOp
  simp only [ho, List.map_toArray, List.map_cons, List.map_nil, h0, h1, h2, run_buildE d hd, Sem.run_bind, Result.andThen_ok, Sem.run_pure]
  exact hK _ _ h
theorem yields_buildE {ops : Array Oper} {S : World → Prop} {op : Oper} {a : Act} (hw : Region.wanted op (yielded ops a.tmps) = true) (x0 x1 x2 : Operand) (ho : op.op = .build 45 #[(0, x0), (1, x1), (2, x2)])
    (d : Bd) (hd : Okd d) (h0 : a.eval x0 = .int .i64 d.n) (h1 : a.eval x1 = .agg (csA d.v d.l)) (h2 : a.eval x2 = .int .i64 d.p) : YieldsIf Try.prog ops S op (.agg (csD d)) a :=
  .inl ⟨hw, fun w hw' => by
    unfold execOp
    simp only [ho, List.map_toArray, List.map_cons, List.map_nil, h0, h1, h2, run_buildE d hd, Sem.run_bind, Result.andThen_ok, Sem.run_pure]⟩
theorem wpList_buildS {ops : Array Oper} {rest : List Oper} {o : Oper} {a : Act} {w : World} {Q : Exit → Act → World → Prop} (hg : o.guard = none) (x : Operand) (ho : o.op = .buildSlice 41 1 #[(0, x)]) (d : Bd) (hx : a.eval x = .agg (csD d)) (hd : Okd d)
    (h : ∀ gb w', w.heap.size ≤ gb → BoxD w' gb d → Away [] w w' → wpList Try.prog ops Q rest (a.put o.dst (.slice (some ⟨gb, 0, none⟩) 1 1)) w') : wpList Try.prog ops Q (o :: rest) a w := by
  refine wpList_plain hg fun K hK => ?_
  unfold Oper.wp execOp
  simp only [ho, List.map_toArray, List.map_cons, List.map_nil, hx, run_buildS w d hd, Sem.run_bind, Result.andThen_ok, Sem.run_pure]
  exact hK _ _ (h w.heap.size _ (Nat.le_refl _) (block_new _ _) ((Away.refl [] w).alloc _))
theorem step_buildS {ops : Array Oper} {o : Oper} {a : Act} {w : World} {K : Act → World → Prop} {Q : Exit → Act → World → Prop} {E : Prop} (hg : o.guard = none) (x : Operand) (ho : o.op = .buildSlice 41 1 #[(0, x)]) (d : Bd) (hx : a.eval x = .agg (csD d)) (hd : Okd d)
    (h : ∀ gb w', w.heap.size ≤ gb → BoxD w' gb d → Away [] w w' → K (a.put o.dst (.slice (some ⟨gb, 0, none⟩) 1 1)) w') : if Region.wanted o (yielded ops a.tmps) = true then Oper.wp Try.prog o a w K Q else E := by
  have hw : Region.wanted o (yielded ops a.tmps) = true := by simp [Region.wanted, hg]
  rw [if_pos hw]
  unfold Oper.wp execOp
  simp only [ho, List.map_toArray, List.map_cons, List.map_nil, hx, run_buildS w d hd, Sem.run_bind, Result.andThen_ok, Sem.run_pure]
  exact h w.heap.size _ (Nat.le_refl _) (block_new _ _) ((Away.refl [] w).alloc _)
theorem run_appD (ty : TypeId) (w : World) (v : Value) (xs : List Bd) (hown : LstD w v xs) (g c : Nat) (d : Bd) (hb : BoxD w g d) (ha : Okd d) (hk : xs.length < 64) :
    ∃ v' w', (Builtin.append_ #[41, 41] ty #[v, .slice (some ⟨g, 0, none⟩) 1 c]).run Try.prog w = .ok v' w' ∧ LstD w' v' (xs ++ [d]) ∧ w.grownBy w' v.ownBlock ∧ Moved w v v' :=
  run_appL ty w v xs hown ⟨g, 0, none⟩ 1 c [d] rfl (by simpa using ha) (fun j u hj => by
    rw [add_plain, Nat.zero_add]; have h1 := hb.range j u (by simpa using hj); simpa using h1) (by omega)
theorem wpList_appD {w : World} {ops : Array Oper} {rest : List Oper} {o : Oper} {a : Act} {Q : Exit → Act → World → Prop} (hgd : o.guard = none) (s t : Operand)
    (ho : o.op = .call { callee := .builtin .append, args := #[s, t], argTypes := #[41, 41] }) (v : Value) (L : List Bd) (hs : a.eval s = v) (hown : LstD w v L)
    (g cp : Nat) (ht : a.eval t = .slice (some ⟨g, 0, none⟩) 1 cp) (d : Bd) (hb : BoxD w g d) (hd : Okd d) (hk : L.length < 64)
    (h : ∀ v' w', LstD w' v' (L ++ [d]) → w.grownBy w' v.ownBlock → Moved w v v' → wpList Try.prog ops Q rest (a.put o.dst v') w') : wpList Try.prog ops Q (o :: rest) a w := by
  obtain ⟨v', w', hrun, r1, r2, r3⟩ := run_appD o.type w v L hown g cp d hb hd hk
  refine wpList_plain hgd fun _ hK => ?_
  unfold Oper.wp
  simp [execOp, ho, resolve, invoke, builtin, hs, ht, hrun, Result.andThen]
  exact hK _ _ (h v' w' r1 r2 r3)
theorem step_appS {ops : Array Oper} {o : Oper} {a : Act} {w : World} {K : Act → World → Prop} {Q : Exit → Act → World → Prop} {E : Prop} (hg : o.guard = none) (s x : Operand) (ho : o.op = .call { callee := .builtin .append, args := #[s, x], argTypes := #[41, 41] })
    (v : Value) (xs : List Bd) (g c : Nat) (d : Bd) (hs : a.eval s = v) (hx : a.eval x = .slice (some ⟨g, 0, none⟩) 1 c) (hown : LstD w v xs) (hb : BoxD w g d) (ha : Okd d) (hk : xs.length < 64)
    (h : ∀ v' w', LstD w' v' (xs ++ [d]) → w.grownBy w' v.ownBlock → Moved w v v' → K (a.put o.dst v') w') : if Region.wanted o (yielded ops a.tmps) = true then Oper.wp Try.prog o a w K Q else E := by
  have hw : Region.wanted o (yielded ops a.tmps) = true := by simp [Region.wanted, hg]
  rw [if_pos hw]
  obtain ⟨v', w', hrun, r1, r2, r3⟩ := run_appD o.type w v xs hown g c d hb ha hk
  unfold Oper.wp
  simp [execOp, ho, resolve, invoke, builtin, hs, hx, hrun, Result.andThen]
  exact h v' w' r1 r2 r3
theorem ldL {w : World} {ad : Addr} {a : Option Addr} {n c : Nat} (h : w.cell? ad = some (.slice a n c)) : (Instr.loadAt 41 (.pointer (some ad))).run Try.prog w = .ok (.slice a n c) w := by
  simp [go_sem, Instr.loadAt, Instr.sureAddr, h]
theorem wpList_ixE {ops : Array Oper} {rest : List Oper} {o : Oper} {a : Act} {w : World} {Q : Exit → Act → World → Prop} (hw : Region.wanted o (yielded ops a.tmps) = true) (x ix : Operand) (ho : o.op = .indexAddr 41 x ix) (gb n cap i : Nat) (hx : a.eval x = .slice (some ⟨gb, 0, none⟩) n cap) (hix : a.eval ix = .int .i64 (i : Int)) (hi : i < n)
    (h : wpList Try.prog ops Q rest (a.put o.dst (.pointer (some ⟨gb, i * 19, none⟩))) w) : wpList Try.prog ops Q (o :: rest) a w := by
  refine BigFrame.wpList_want hw fun K hK => ?_
  have he : Try.prog.elem 41 = 45 := by kernel_rfl
  have hsz : (sizeOf 45).run Try.prog w = .ok 19 w := by kernel_rfl
  unfold Oper.wp execOp
  simp only [ho, hx, hix, Sem.run_bind]
  rw [run_indexAt_slice w 41 ⟨gb, 0, none⟩ n cap .i64 (i : Int) underK, he, if_pos ⟨by omega, by omega⟩, hsz]
  simp only [Result.andThen, add_plain, Int.toNat_natCast, Nat.zero_add]
  exact hK _ _ h
theorem LstD.shape {w : World} {v : Value} {L : List Bd} (h : LstD w v L) (hA : ∀ x ∈ L, Okd x) : ∃ a cap, v = .slice a L.length cap ∧ (∀ j x, L[j]? = some x → ∃ b, a = some ⟨b, 0, none⟩ ∧ w.rangeAt b (j * 19) (listD x)) := by
  rcases h.shp with ⟨rfl, rfl⟩ | ⟨b, cap, rfl⟩
  · exact ⟨none, 0, rfl, fun j x hj => by simp at hj⟩
  · exact ⟨some ⟨b, 0, none⟩, cap, rfl, fun j x hj => ⟨b, rfl, by have := h.at hA hj; rwa [Nat.zero_add] at this⟩⟩
end KO
namespace KS
theorem infoE : (Try.prog.info? 83).map (·.size) = some 19 := by kernel_rfl
def BoxD (w : World) (g : Nat) (x : Bd) : Prop := w.heap[g]? = some (.cells (csD x) 83 (0, 0))
theorem BoxD.range {w : World} {g : Nat} {x : Bd} (h : BoxD w g x) : w.rangeAt g 0 (listD x) := fun j u hj => by rw [cell_of_block h]; simpa [csD] using hj
theorem BoxD.on {S : List Nat} {w w' : World} {g : Nat} {x : Bd} (h : BoxD w g x) (hw : Away S w w') (hg : g ∉ S) : BoxD w' g x := hw.keep hg h
theorem loadE_run {w : World} {g k : Nat} {x : Bd} (hc : w.rangeAt g k (listD x)) (ha : Okd x) : (Instr.loadAt 83 (.pointer (some ⟨g, k, none⟩))).run Try.prog w = .ok (.agg (csD x)) w := by
  have := run_loadVar_mid (P := Try.prog) w g k 83 (listD x) _ hc Try.underlying83 rfl (by rw [listD_len ha]; exact infoE)
  simp only [Instr.loadAt, Instr.sureAddr, Sem.run_bind, Sem.run_pure, Result.andThen]
  rw [this]; rfl
theorem wpList_loadE {ops : Array Oper} {rest : List Oper} {o : Oper} {a : Act} {w : World} {Q : Exit → Act → World → Prop} (hw : Region.wanted o (yielded ops a.tmps) = true) (x : Operand) (ho : o.op = .load 83 x)
    (g k : Nat) (hx : a.eval x = .pointer (some ⟨g, k, none⟩)) (d : Bd) (hd : Okd d) (hr : w.rangeAt g k (listD d)) (h : wpList Try.prog ops Q rest (a.put o.dst (.agg (csD d))) w) : wpList Try.prog ops Q (o :: rest) a w := by
  refine BigFrame.wpList_want hw fun K hK => ?_
  unfold Oper.wp execOp
  simp only [ho, hx, Sem.run_bind, loadE_run hr hd, Result.andThen_ok, Sem.run_pure]
  exact hK _ _ h
theorem zeroE : (Try.prog.info? 83).bind (·.zero) = some (.agg zD) := by kernel_rfl
theorem wpList_allocE {ops : Array Oper} {rest : List Oper} {o : Oper} {a : Act} {w : World} {Q : Exit → Act → World → Prop} (hg : o.guard = none) (ho : o.op = .alloc 83)
    (h : ∀ g w1, w.heap.size ≤ g → BoxD w1 g zeroD → Away [] w w1 → wpList Try.prog ops Q rest (a.put o.dst (.pointer (some ⟨g, 0, none⟩))) w1) : wpList Try.prog ops Q (o :: rest) a w := by
  have hz : (zeroValue 83).run Try.prog w = .ok (.agg zD) w := by
    have := zeroE
    cases hi : Try.prog.info? 83 with
    | none => rw [hi] at this; simp at this
    | some i => rw [hi] at this; simp at this; simp [zeroValue, typeInfo, hi, this]
  refine wpList_plain hg fun K hK => ?_
  unfold Oper.wp execOp
  simp only [ho, Sem.run_bind, Instr.alloc, hz, newVar, newRow, run_newObj_alloc, Sem.run_pure, Result.andThen_ok]
  exact hK _ _ (h w.heap.size _ (Nat.le_refl _) (block_new _ _) ((Away.refl [] w).alloc _))
theorem wpList_boxE {ops : Array Oper} {rest : List Oper} {o : Oper} {a : Act} {w : World} {Q : Exit → Act → World → Prop} (hg : o.guard = none) (x : Operand) (ho : o.op = .box 83 x) (d : Bd) (hx : a.eval x = .agg (csD d))
    (h : ∀ g w1, w.heap.size ≤ g → BoxD w1 g d → Away [] w w1 → wpList Try.prog ops Q rest (a.put o.dst (.pointer (some ⟨g, 0, none⟩))) w1) : wpList Try.prog ops Q (o :: rest) a w := by
  refine wpList_plain hg fun K hK => ?_
  unfold Oper.wp execOp
  simp only [ho, hx, Sem.run_bind, Instr.box, newVar, newRow, Value.cells, run_newObj_alloc, Sem.run_pure, Result.andThen_ok]
  exact hK _ _ (h w.heap.size _ (Nat.le_refl _) (block_new _ _) ((Away.refl [] w).alloc _))
theorem wpList_storeE {ops : Array Oper} {rest : List Oper} {o : Oper} {a : Act} {w : World} {Q : Exit → Act → World → Prop} (hw : Region.wanted o (yielded ops a.tmps) = true) (x y : Operand) (ho : o.op = .store 83 x y)
    (g : Nat) (hx : a.eval x = .pointer (some ⟨g, 0, none⟩)) (d e : Bd) (hd : Okd d) (he : Okd e) (hy : a.eval y = .agg (csD d)) (hb : BoxD w g e)
    (h : ∀ w1, BoxD w1 g d → Away [g] w w1 → wpList Try.prog ops Q rest (a.put o.dst undef) w1) : wpList Try.prog ops Q (o :: rest) a w :=
  BigFrame.wpList_want hw fun K hK => wp_store_row 83 x y ho g (csD d) hx hy 83 (csD e) hb (by rw [csD_size hd]; exact infoE) (by rw [csD_size hd, csD_size he]) (csD_one hd) (hK _ _ (h _ (by
    unfold BoxD at hb ⊢; simp [World.setRow, Array.getElem?_modify, hb]) ((Away.refl [g] w).setRow (.inl (by simp)) _)))
theorem run_buildE (d : Bd) (h : Okd d) (w : World) : (Instr.build 83 #[(0, .int .i64 d.n), (1, .agg (csA d.v d.l)), (2, .int .i64 d.p)]).run Try.prog w = .ok (.agg (csD d)) w := by
  obtain ⟨n, v, l, p⟩ := d
  simp only [Okd] at h
  obtain ⟨b0, b1, b2, b3, b4, b5, b6, b7, b8, b9, b10, b11, b12, b13, b14, b15, rfl⟩ := list16 h
  kernel_rfl
theorem run_buildS (w : World) (d : Bd) (h : Okd d) : (Instr.buildSlice 72 1 #[(0, .agg (csD d))]).run Try.prog w = .ok (.slice (some ⟨w.heap.size, 0, none⟩) 1 1) (w.alloc (.cells (csD d) 83)) := by
  obtain ⟨n, v, l, p⟩ := d
  simp only [Okd] at h
  obtain ⟨b0, b1, b2, b3, b4, b5, b6, b7, b8, b9, b10, b11, b12, b13, b14, b15, rfl⟩ := list16 h
  kernel_rfl
theorem wpList_buildE {ops : Array Oper} {rest : List Oper} {o : Oper} {a : Act} {w : World} {Q : Exit → Act → World → Prop} (hg : o.guard = none) (x0 x1 x2 : Operand) (ho : o.op = .build 83 #[(0, x0), (1, x1), (2, x2)])
    (d : Bd) (hd : Okd d) (h0 : a.eval x0 = .int .i64 d.n) (h1 : a.eval x1 = .agg (csA d.v d.l)) (h2 : a.eval x2 = .int .i64 d.p)
    (h : wpList Try.prog ops Q rest (a.put o.dst (.agg (csD d))) w) : wpList Try.prog ops Q (o :: rest) a w := by
  refine wpList_plain hg fun K hK => ?_
  unfold Oper.wp execOp
  simp only [ho, List.map_toArray, List.map_cons, List.map_nil, h0, h1, h2, run_buildE d hd, Sem.run_bind, Result.andThen_ok, Sem.run_pure]
  exact hK _ _ h
theorem yields_buildE {ops : Array Oper} {S : World → Prop} {op : Oper} {a : Act} (hw : Region.wanted op (yielded ops a.tmps) = true) (x0 x1 x2 : Operand) (ho : op.op = .build 83 #[(0, x0), (1, x1), (2, x2)])
    (d : Bd) (hd : Okd d) (h0 : a.eval x0 = .int .i64 d.n) (h1 : a.eval x1 = .agg (csA d.v d.l)) (h2 : a.eval x2 = .int .i64 d.p) : YieldsIf Try.prog ops S op (.agg (csD d)) a :=
  .inl ⟨hw, fun w hw' => by
    unfold execOp
    simp only [ho, List.map_toArray, List.map_cons, List.map_nil, h0, h1, h2, run_buildE d hd, Sem.run_bind, Result.andThen_ok, Sem.run_pure]⟩
theorem wpList_buildS {ops : Array Oper} {rest : List Oper} {o : Oper} {a : Act} {w : World} {Q : Exit → Act → World → Prop} (hg : o.guard = none) (x : Operand) (ho : o.op = .buildSlice 72 1 #[(0, x)]) (d : Bd) (hx : a.eval x = .agg (csD d)) (hd : Okd d)
    (h : ∀ gb w', w.heap.size ≤ gb → BoxD w' gb d → Away [] w w' → wpList Try.prog ops Q rest (a.put o.dst (.slice (some ⟨gb, 0, none⟩) 1 1)) w') : wpList Try.prog ops Q (o :: rest) a w := by
  refine wpList_plain hg fun K hK => ?_
  unfold Oper.wp execOp
  simp only [ho, List.map_toArray, List.map_cons, List.map_nil, hx, run_buildS w d hd, Sem.run_bind, Result.andThen_ok, Sem.run_pure]
  exact hK _ _ (h w.heap.size _ (Nat.le_refl _) (block_new _ _) ((Away.refl [] w).alloc _))
theorem step_buildS {ops : Array Oper} {o : Oper} {a : Act} {w : World} {K : Act → World → Prop} {Q : Exit → Act → World → Prop} {E : Prop} (hg : o.guard = none) (x : Operand) (ho : o.op = .buildSlice 72 1 #[(0, x)]) (d : Bd) (hx : a.eval x = .agg (csD d)) (hd : Okd d)
    (h : ∀ gb w', w.heap.size ≤ gb → BoxD w' gb d → Away [] w w' → K (a.put o.dst (.slice (some ⟨gb, 0, none⟩) 1 1)) w') : if Region.wanted o (yielded ops a.tmps) = true then Oper.wp Try.prog o a w K Q else E := by
  have hw : Region.wanted o (yielded ops a.tmps) = true := by simp [Region.wanted, hg]
  rw [if_pos hw]
  unfold Oper.wp execOp
  simp only [ho, List.map_toArray, List.map_cons, List.map_nil, hx, run_buildS w d hd, Sem.run_bind, Result.andThen_ok, Sem.run_pure]
  exact h w.heap.size _ (Nat.le_refl _) (block_new _ _) ((Away.refl [] w).alloc _)
theorem run_appD (ty : TypeId) (w : World) (v : Value) (xs : List Bd) (hown : LstD w v xs) (g c : Nat) (d : Bd) (hb : BoxD w g d) (ha : Okd d) (hk : xs.length < 64) :
    ∃ v' w', (Builtin.append_ #[72, 72] ty #[v, .slice (some ⟨g, 0, none⟩) 1 c]).run Try.prog w = .ok v' w' ∧ LstD w' v' (xs ++ [d]) ∧ w.grownBy w' v.ownBlock ∧ Moved w v v' :=
  run_appL ty w v xs hown ⟨g, 0, none⟩ 1 c [d] rfl (by simpa using ha) (fun j u hj => by
    rw [add_plain, Nat.zero_add]; have h1 := hb.range j u (by simpa using hj); simpa using h1) (by omega)
theorem wpList_appD {w : World} {ops : Array Oper} {rest : List Oper} {o : Oper} {a : Act} {Q : Exit → Act → World → Prop} (hgd : o.guard = none) (s t : Operand)
    (ho : o.op = .call { callee := .builtin .append, args := #[s, t], argTypes := #[72, 72] }) (v : Value) (L : List Bd) (hs : a.eval s = v) (hown : LstD w v L)
    (g cp : Nat) (ht : a.eval t = .slice (some ⟨g, 0, none⟩) 1 cp) (d : Bd) (hb : BoxD w g d) (hd : Okd d) (hk : L.length < 64)
    (h : ∀ v' w', LstD w' v' (L ++ [d]) → w.grownBy w' v.ownBlock → Moved w v v' → wpList Try.prog ops Q rest (a.put o.dst v') w') : wpList Try.prog ops Q (o :: rest) a w := by
  obtain ⟨v', w', hrun, r1, r2, r3⟩ := run_appD o.type w v L hown g cp d hb hd hk
  refine wpList_plain hgd fun _ hK => ?_
  unfold Oper.wp
  simp [execOp, ho, resolve, invoke, builtin, hs, ht, hrun, Result.andThen]
  exact hK _ _ (h v' w' r1 r2 r3)
theorem step_appS {ops : Array Oper} {o : Oper} {a : Act} {w : World} {K : Act → World → Prop} {Q : Exit → Act → World → Prop} {E : Prop} (hg : o.guard = none) (s x : Operand) (ho : o.op = .call { callee := .builtin .append, args := #[s, x], argTypes := #[72, 72] })
    (v : Value) (xs : List Bd) (g c : Nat) (d : Bd) (hs : a.eval s = v) (hx : a.eval x = .slice (some ⟨g, 0, none⟩) 1 c) (hown : LstD w v xs) (hb : BoxD w g d) (ha : Okd d) (hk : xs.length < 64)
    (h : ∀ v' w', LstD w' v' (xs ++ [d]) → w.grownBy w' v.ownBlock → Moved w v v' → K (a.put o.dst v') w') : if Region.wanted o (yielded ops a.tmps) = true then Oper.wp Try.prog o a w K Q else E := by
  have hw : Region.wanted o (yielded ops a.tmps) = true := by simp [Region.wanted, hg]
  rw [if_pos hw]
  obtain ⟨v', w', hrun, r1, r2, r3⟩ := run_appD o.type w v xs hown g c d hb ha hk
  unfold Oper.wp
  simp [execOp, ho, resolve, invoke, builtin, hs, hx, hrun, Result.andThen]
  exact h v' w' r1 r2 r3
theorem ldL {w : World} {ad : Addr} {a : Option Addr} {n c : Nat} (h : w.cell? ad = some (.slice a n c)) : (Instr.loadAt 72 (.pointer (some ad))).run Try.prog w = .ok (.slice a n c) w := by
  simp [go_sem, Instr.loadAt, Instr.sureAddr, h]
theorem wpList_ixE {ops : Array Oper} {rest : List Oper} {o : Oper} {a : Act} {w : World} {Q : Exit → Act → World → Prop} (hw : Region.wanted o (yielded ops a.tmps) = true) (x ix : Operand) (ho : o.op = .indexAddr 72 x ix) (gb n cap i : Nat) (hx : a.eval x = .slice (some ⟨gb, 0, none⟩) n cap) (hix : a.eval ix = .int .i64 (i : Int)) (hi : i < n)
    (h : wpList Try.prog ops Q rest (a.put o.dst (.pointer (some ⟨gb, i * 19, none⟩))) w) : wpList Try.prog ops Q (o :: rest) a w := by
  refine BigFrame.wpList_want hw fun K hK => ?_
  have he : Try.prog.elem 72 = 83 := by kernel_rfl
  have hsz : (sizeOf 83).run Try.prog w = .ok 19 w := by kernel_rfl
  unfold Oper.wp execOp
  simp only [ho, hx, hix, Sem.run_bind]
  rw [run_indexAt_slice w 72 ⟨gb, 0, none⟩ n cap .i64 (i : Int) underK, he, if_pos ⟨by omega, by omega⟩, hsz]
  simp only [Result.andThen, add_plain, Int.toNat_natCast, Nat.zero_add]
  exact hK _ _ h
theorem LstD.shape {w : World} {v : Value} {L : List Bd} (h : LstD w v L) (hA : ∀ x ∈ L, Okd x) : ∃ a cap, v = .slice a L.length cap ∧ (∀ j x, L[j]? = some x → ∃ b, a = some ⟨b, 0, none⟩ ∧ w.rangeAt b (j * 19) (listD x)) := by
  rcases h.shp with ⟨rfl, rfl⟩ | ⟨b, cap, rfl⟩
  · exact ⟨none, 0, rfl, fun j x hj => by simp at hj⟩
  · exact ⟨some ⟨b, 0, none⟩, cap, rfl, fun j x hj => ⟨b, rfl, by have := h.at hA hj; rwa [Nat.zero_add] at this⟩⟩
end KS
end Go.Proofs.Ytemdgggpfadecaa
