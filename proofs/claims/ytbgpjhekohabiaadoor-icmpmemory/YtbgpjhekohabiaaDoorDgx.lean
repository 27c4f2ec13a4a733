/-
  Memory: slices that can be read, addresses and datagrams in boxes, loads and stores of a whole one at once.
-/
import Derived.Test.YtbgpjhekohabiaaDoorPkt
import Derived.Test.YtbgpjhekohabiaaDoorQt
import Derived.Test.YtbgpjhekohabiaaDoorStp
import Derived.Test.YtbgpjhekohabiaaDoorRefR
import Derived.Test.YtbgpjhekohabiaaDoorDg
import Derived.Deep.MidRow
import Derived.Laws.CopyRow
import Derived.Deep.DrawnRows
import Derived.Deep.RegionHeld3
import Derived.BigQuiet
import Derived.BigCall
import Derived.Deep.CutBlock
import Derived.Deep.DeepCutAuto
namespace Go.Proofs.YtbgpjhekohabiaaDoor
open Go.ChangeShapes Go.WideShapes Go.ChangeAt Go.RowKit Num
set_option linter.unusedVariables false
set_option maxHeartbeats 4000000
set_option maxRecDepth 100000

/-- An append of what can be read, nil or not, to a list of the call's own. -/
theorem wpList_appS {w : World} {ops : Array Oper} {rest : List Oper} {o : Oper} {a : Act} {Q : Exit → Act → World → Prop} (hgd : o.guard = none) (s x : Operand)
    (ho : o.op = .call { callee := .builtin .append, args := #[s, x], argTypes := #[23, 23] }) (v : Value) (l m : List Int) (hs : a.eval s = v) (hown : Owns w v l)
    (u : Value) (hx : a.eval x = u) (hsl : Sl w u m) (hlen : l.length + m.length ≤ 140737488355328)
    (h : ∀ v' w', Owns w' v' (l ++ m) → Away v.ownBlock.toList w w' → Moved w v v' → wpList Tryd.prog ops Q rest (a.put o.dst v') w') : wpList Tryd.prog ops Q (o :: rest) a w := by
  obtain ⟨ad, cap, rfl, h1, h2, h3⟩ := hsl
  rcases ad with _ | ad
  · have h0 : m = [] := by rcases h3.2.2 with h | ⟨_, _, h, _⟩ <;> simp_all
    subst h0
    obtain rfl := h2 rfl
    refine wpList_app_none hgd s x ho v l hs hown hx (h v w (by simpa using hown) (Away.refl _ _) (Moved.refl _ _))
  · refine wpList_app hgd s x ho v l m hs hown ad m.length cap hx rfl h3.src hlen (fun v' w' r1 r2 r3 => h v' w' r1 ((Away.refl _ w).grown r2 (fun k hk => .inl (by simp [hk]))) r3)
theorem owns_lit0 (w : World) (g : Nat) (hg : g = w.heap.size) : Owns (w.alloc (.cells #[] 5)) (.slice (some ⟨g, 0, none⟩) 0 0) [] := by subst hg; exact World.ownsRow_lit w #[] 0 (Nat.zero_le _) (Nat.zero_le _) rfl
/-- What an append to an empty list that was just made did. -/
theorem fresh {w w' : World} {v' : Value} (h : Away (Value.ownBlock (.slice (some ⟨w.heap.size, 0, none⟩) 0 0)).toList (w.alloc (.cells #[] 5)) w') (hm : Moved (w.alloc (.cells #[] 5)) (.slice (some ⟨w.heap.size, 0, none⟩) 0 0) v') :
    Away [] w w' ∧ New w.heap.size v' := by
  refine ⟨((Away.refl [] w).alloc _).next h (fun x hx => .inr ?_), fun k hk => ?_⟩
  · simp [Value.ownBlock] at hx; omega
  · rcases hm k hk with h | h
    · simp [Value.ownBlock] at h; omega
    · have : w.heap.size + 1 ≤ k := by simpa using h
      omega
theorem Owns.block {w : World} {v : Value} {l : List Int} (h : Owns w v l) (hl : l ≠ []) : ∃ g c, v = .slice (some ⟨g, 0, none⟩) l.length c ∧ l.length ≤ c := by
  obtain ⟨h1, h2⟩ := h
  rcases h2 with ⟨rfl, h3⟩ | ⟨g, cap, cur, rfl, _, _, h4, _⟩
  · exact absurd (by simpa using h3) hl
  · exact ⟨g, cap, by simp, by simpa using h4⟩
theorem ld3 {w : World} {ad : Addr} {z : Int} (h : w.cell? ad = some (.int .i64 z)) : (Instr.loadAt 3 (.pointer (some ad))).run Tryd.prog w = .ok (.int .i64 z) w := by
  simp [go_sem, Instr.loadAt, Instr.sureAddr, h]
theorem ld4 {w : World} {ad : Addr} {z : Bool} (h : w.cell? ad = some (.bool z)) : (Instr.loadAt 4 (.pointer (some ad))).run Tryd.prog w = .ok (.bool z) w := by
  simp [go_sem, Instr.loadAt, Instr.sureAddr, h]
theorem ld5 {w : World} {ad : Addr} {z : Int} (h : w.cell? ad = some (.int .u8 z)) : (Instr.loadAt 5 (.pointer (some ad))).run Tryd.prog w = .ok (.int .u8 z) w := by
  simp [go_sem, Instr.loadAt, Instr.sureAddr, h]
theorem ldB {w : World} {ad : Addr} {a : Option Addr} {n c : Nat} (h : w.cell? ad = some (.slice a n c)) : (Instr.loadAt 23 (.pointer (some ad))).run Tryd.prog w = .ok (.slice a n c) w := by
  simp [go_sem, Instr.loadAt, Instr.sureAddr, h]
theorem quiet_ld {o : Oper} {a : Act} {C : World → Prop} {K : Act → Prop} {t : TypeId} {v : Value} {ad : Addr} (x : Operand) (ho : o.op = .load t x) (hx : a.eval x = .pointer (some ad)) (hC : ∀ w, C w → (Instr.loadAt t (.pointer (some ad))).run Tryd.prog w = .ok v w) (hk : K (a.put o.dst v)) : o.quiet Tryd.prog a C K := by
  refine ⟨v, fun w hw => ?_, hk⟩
  unfold Oper.quietAt execOp
  simp only [ho, hx, Sem.run_bind, hC w hw, Result.andThen_ok]
  exact ⟨rfl, rfl⟩

/-! An address in a box. -/
def BoxX (w : World) (g : Nat) (s : Ax) : Prop := w.heap[g]? = some (.cells (csA s.v s.l) 30 (0, 0))
theorem BoxX.away {S : List Nat} {w w' : World} {g : Nat} {s : Ax} (h : BoxX w g s) (hw : Away S w w') (hg : g ∉ S) : BoxX w' g s := hw.keep hg h
theorem BoxX.on {w w' : World} {g : Nat} {s : Ax} (h : BoxX w g s) (hw : Away [] w w') : BoxX w' g s := h.away hw (by simp)
theorem BoxX.lt {w : World} {g : Nat} {s : Ax} (h : BoxX w g s) : g < w.heap.size := lt_of_block h
theorem BoxX.cell {w : World} {g : Nat} {s : Ax} (h : BoxX w g s) : w.cell? ⟨g, 0, none⟩ = some (.int .i64 s.v) := by rw [cell_of_block h, csA_zero]
theorem BoxX.byte {w : World} {g : Nat} {s : Ax} (h : BoxX w g s) (i : Nat) (hi : i < s.l.length) : w.cell? ⟨g, 1 + i, none⟩ = some (.int .u8 (s.l[i]?.getD 0)) := by
  rw [cell_of_block h, Nat.add_comm]; simp [csA, cellsA, hi]
theorem BoxX.row {w : World} {g : Nat} {s : Ax} (h : BoxX w g s) (hs : WfA s) : Row w (some ⟨g, 1, none⟩) s.l :=
  ⟨by have := hs.n; omega, hs.l, .inr ⟨g, 1, rfl, fun i hi => h.byte i hi⟩⟩
theorem BoxX.row4 {w : World} {g : Nat} {s : Ax} (h : BoxX w g s) (hs : WfA s) : Row w (some ⟨g, 1, none⟩) (s.l.take 4) := (h.row hs).head 4
theorem load24_run {w : World} {g : Nat} {s : Ax} (hb : BoxX w g s) (hs : WfA s) : (Instr.loadAt 30 (.pointer (some ⟨g, 0, none⟩))).run Tryd.prog w = .ok (.agg (csA s.v s.l)) w := by
  simp only [Instr.loadAt, Instr.sureAddr, Sem.run_bind, Sem.run_pure, Result.andThen]
  rw [run_loadVar_row w g 30 30 (csA s.v s.l) (0, 0) _ hb Tryd.underlying30 rfl (by rw [csA_size hs.n]; exact info24)]
theorem wpList_boxX {ops : Array Oper} {rest : List Oper} {o : Oper} {a : Act} {w : World} {Q : Exit → Act → World → Prop} (hg : o.guard = none) (x : Operand) (ho : o.op = .box 30 x)
    (s : Ax) (hx : a.eval x = .agg (csA s.v s.l))
    (h : ∀ g w1, w.heap.size ≤ g → BoxX w1 g s → Away [] w w1 → wpList Tryd.prog ops Q rest (a.put o.dst (.pointer (some ⟨g, 0, none⟩))) w1) : wpList Tryd.prog ops Q (o :: rest) a w := by
  refine wpList_plain hg fun K hK => ?_
  unfold Oper.wp execOp
  simp only [ho, hx, Sem.run_bind, Instr.box, newVar, newRow, run_newObj_alloc, Sem.run_pure, Result.andThen_ok]
  exact hK _ _ (h w.heap.size _ (Nat.le_refl _) (block_new _ _) ((Away.refl [] w).alloc _))
theorem wpList_loadX {ops : Array Oper} {rest : List Oper} {o : Oper} {a : Act} {w : World} {Q : Exit → Act → World → Prop} (hw : Region.wanted o (yielded ops a.tmps) = true) (x : Operand) (ho : o.op = .load 30 x)
    (g : Nat) (hx : a.eval x = .pointer (some ⟨g, 0, none⟩)) (s : Ax) (hb : BoxX w g s) (hs : WfA s) (h : wpList Tryd.prog ops Q rest (a.put o.dst (.agg (csA s.v s.l))) w) : wpList Tryd.prog ops Q (o :: rest) a w :=
  BigFrame.wpList_want hw fun K hK => wp_load_row 30 x ho g hx 30 _ (0, 0) _ hb Tryd.underlying30 rfl (by rw [csA_size hs.n]; exact info24) (hK _ _ h)
def zeroAx : Ax := ⟨0, z16⟩
theorem zeroX_wf : WfA zeroAx := ⟨⟨by decide, by decide⟩, rfl, fun n hn => by simp [zeroAx, z16] at hn; omega⟩
theorem zero24x : (Tryd.prog.info? 30).bind (·.zero) = some (.agg (csA zeroAx.v zeroAx.l)) := by kernel_rfl
theorem wpList_allocX {ops : Array Oper} {rest : List Oper} {o : Oper} {a : Act} {w : World} {Q : Exit → Act → World → Prop} (hg : o.guard = none) (ho : o.op = .alloc 30)
    (h : ∀ g w1, w.heap.size ≤ g → BoxX w1 g zeroAx → Away [] w w1 → wpList Tryd.prog ops Q rest (a.put o.dst (.pointer (some ⟨g, 0, none⟩))) w1) : wpList Tryd.prog ops Q (o :: rest) a w := by
  have hz : (zeroValue 30).run Tryd.prog w = .ok (.agg (csA zeroAx.v zeroAx.l)) w := by
    have := zero24x
    cases hi : Tryd.prog.info? 30 with
    | none => rw [hi] at this; simp at this
    | some i => rw [hi] at this; simp at this; simp [zeroValue, typeInfo, hi, this]
  refine wpList_plain hg fun K hK => ?_
  unfold Oper.wp execOp
  simp only [ho, Sem.run_bind, Instr.alloc, hz, newVar, newRow, run_newObj_alloc, Sem.run_pure, Result.andThen_ok]
  exact hK _ _ (h w.heap.size _ (Nat.le_refl _) (block_new _ _) ((Away.refl [] w).alloc _))
theorem wpList_storeX {ops : Array Oper} {rest : List Oper} {o : Oper} {a : Act} {w : World} {Q : Exit → Act → World → Prop} (hw : Region.wanted o (yielded ops a.tmps) = true) (x y : Operand) (ho : o.op = .store 30 x y)
    (g : Nat) (hx : a.eval x = .pointer (some ⟨g, 0, none⟩)) (s : Ax) (hy : a.eval y = .agg (csA s.v s.l)) (t : Ax) (hb : BoxX w g t) (hs : s.l.length = 16) (ht : t.l.length = 16)
    (h : ∀ w1, BoxX w1 g s → Away [g] w w1 → wpList Tryd.prog ops Q rest (a.put o.dst undef) w1) : wpList Tryd.prog ops Q (o :: rest) a w :=
  BigFrame.wpList_want hw fun K hK => wp_store_row 30 x y ho g (csA s.v s.l) hx hy 30 (csA t.v t.l) hb (by rw [csA_size hs]; exact info24) (by rw [csA_size hs, csA_size ht]) (csA_one s.v s.l) (hK _ _ (h _ (by
    unfold BoxX at hb ⊢; simp [World.setRow, Array.getElem?_modify, hb]) ((Away.refl [g] w).setRow (.inl (by simp)) _)))
/-- A variable of its own for an address. -/
theorem wpList_newX {ops : Array Oper} {rest : List Oper} {o o2 : Oper} {a : Act} {w : World} {Q : Exit → Act → World → Prop} (hg : o.guard = none) (ho : o.op = .alloc 30) (hg2 : o2.guard = none) (x y : Operand) (ho2 : o2.op = .store 30 x y)
    (s : Ax) (hx : ∀ g, (a.put o.dst (.pointer (some ⟨g, 0, none⟩))).eval x = .pointer (some ⟨g, 0, none⟩)) (hy : ∀ g, (a.put o.dst (.pointer (some ⟨g, 0, none⟩))).eval y = .agg (csA s.v s.l)) (hs : s.l.length = 16)
    (h : ∀ g w1, w.heap.size ≤ g → BoxX w1 g s → Away [] w w1 → wpList Tryd.prog ops Q rest ((a.put o.dst (.pointer (some ⟨g, 0, none⟩))).put o2.dst undef) w1) : wpList Tryd.prog ops Q (o :: o2 :: rest) a w :=
  wpList_allocX hg ho fun g w1 hg1 hb1 ha1 => wpList_storeX (by simp [Region.wanted, hg2]) x y ho2 g (hx g) s (hy g) zeroAx hb1 hs rfl fun w2 hb2 ha2 => h g w2 hg1 hb2 (ha1.next ha2 (fun x hx => .inr (by simp at hx; omega)))
theorem result24x {fn : Func} {t : Tmp} (h : fn.results = #[.cell t 30]) (tmps : Array Value) (w : World) (g : Nat) (s : Ax) (ht : tmps.getD t undef = .pointer (some ⟨g, 0, none⟩)) (hb : BoxX w g s) (hs : s.l.length = 16) :
    (results fn tmps).run Tryd.prog w = .ok (.agg (csA s.v s.l)) w :=
  results_cell_row h tmps w g 30 (csA s.v s.l) (0, 0) _ ht hb Tryd.underlying30 rfl (by rw [csA_size hs]; exact info24)

end Go.Proofs.YtbgpjhekohabiaaDoor
