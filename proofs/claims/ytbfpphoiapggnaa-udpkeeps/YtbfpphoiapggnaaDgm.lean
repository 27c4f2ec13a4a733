/-
  Memory: slices that can be read, addresses and datagrams in boxes, loads and stores of a whole one at once.
-/
import Derived.Test.YtbfpphoiapggnaaAdr
import Derived.Deep.MidRow
import Derived.Laws.CopyRow
import Derived.Deep.DrawnRows
import Derived.Deep.RegionHeld3
import Derived.BigQuiet
import Derived.BigCall
import Derived.Deep.CutBlock
import Derived.Deep.DeepCutAuto
namespace Go.Proofs.Ytbfpphoiapggnaa
open Go.ChangeShapes Go.WideShapes Go.ChangeAt Go.RowKit Num
set_option linter.unusedVariables false
set_option maxHeartbeats 4000000
set_option maxRecDepth 100000

/-- A slice that can be read. -/
def Sl (w : World) (v : Value) (l : List Int) : Prop := ∃ a cap, v = .slice a l.length cap ∧ l.length ≤ cap ∧ (a = none → cap = 0) ∧ Row w a l
theorem Sl.away {S : List Nat} {w w' : World} {v : Value} {l : List Int} (h : Sl w v l) (hw : Away S w w') (hv : l ≠ [] → ∀ k, v.ownBlock = some k → k ∉ S) : Sl w' v l := by
  obtain ⟨a, cap, rfl, h1, h2, h3⟩ := h
  by_cases hl : l = []
  · subst hl; exact ⟨a, cap, rfl, h1, h2, Row.nil _ _⟩
  · refine ⟨a, cap, rfl, h1, h2, h3.away hw (fun x hx => hv hl _ ?_)⟩
    subst hx; rfl
/-- It lies in blocks below B, if it has bytes at all. -/
def Old (B : Nat) (v : Value) (l : List Int) : Prop := l ≠ [] → ∀ k, v.ownBlock = some k → k < B
theorem Old.mono {B C : Nat} {v : Value} {l : List Int} (h : Old B v l) (hc : B ≤ C) : Old C v l := fun hl k hk => Nat.lt_of_lt_of_le (h hl k hk) hc
theorem Sl.old {w : World} {v : Value} {l : List Int} (h : Sl w v l) : Old w.heap.size v l := by
  obtain ⟨a, cap, rfl, h1, h2, h3⟩ := h
  intro hl k hk
  rcases h3.2.2 with h4 | ⟨b, off, rfl, hc⟩
  · exact absurd h4 hl
  · have hk' : b = k := by simpa [Value.ownBlock] using hk
    subst hk'
    exact block_lt_of_cell (hc 0 (List.length_pos_iff.2 hl))
theorem Sl.on {w w' : World} {v : Value} {l : List Int} (h : Sl w v l) (hw : Away [] w w') : Sl w' v l := h.away hw (by simp)
theorem Sl.bytes {w : World} {v : Value} {l : List Int} (h : Sl w v l) : Bytes l ∧ l.length ≤ 140737488355328 := by
  obtain ⟨a, cap, rfl, h1, h2, h3⟩ := h; exact ⟨h3.2.1, h3.1⟩
theorem Sl.nil (w : World) : Sl w (.slice none 0 0) [] := ⟨none, 0, rfl, by simp, by simp, Row.nil _ _⟩
theorem Owns.sl {w : World} {v : Value} {l : List Int} (h : Owns w v l) (hb : Bytes l) (hl : l.length ≤ 140737488355328) : Sl w v l := by
  obtain ⟨a, cap, h1, h2, h3, h4, _⟩ := h.row hl hb
  exact ⟨a, cap, h1, h2, h3, h4⟩
theorem Sl.one {w : World} {v : Value} {l : List Int} (h : Sl w v l) : v.oneCell' = true := by obtain ⟨a, cap, rfl, _⟩ := h; rfl
theorem Sl.of {w : World} {a : Option Addr} {n cap : Nat} {l : List Int} (h : Sl w (.slice a n cap) l) : l.length = n ∧ n ≤ cap ∧ (a = none → cap = 0) ∧ Row w a l := by
  obtain ⟨a', cap', h1, h2, h3, h4⟩ := h
  simp only [Value.slice.injEq] at h1
  obtain ⟨rfl, rfl, rfl⟩ := h1
  exact ⟨rfl, h2, h3, h4⟩

theorem Away.setRow {S : List Nat} {a w : World} (h : Away S a w) {g : Nat} (hg : g ∈ S ∨ a.heap.size ≤ g) (c : Array Value) : Away S a (w.setRow g c) :=
  ⟨h.os, h.tape, h.output, by simpa [World.setRow] using h.size, fun k hk hn => by
    rw [← h.block k hk hn]; simp [World.setRow, Array.getElem?_modify]; intro e; subst e; rcases hg with hg | hg; exact absurd hg hn; omega⟩
theorem Away.on {a b c : World} (h : Away [] a b) (k : Away [] b c) : Away [] a c := h.next k (by simp)
theorem Row.on {w w' : World} {a : Option Addr} {l : List Int} (h : Row w a l) (hw : Away [] w w') : Row w' a l := h.away hw (by simp)
theorem Owns.on {w w' : World} {v : Value} {l : List Int} (h : Owns w v l) (hw : Away [] w w') : Owns w' v l := h.away hw (by simp)
theorem Owns.shp {w : World} {v : Value} {l : List Int} (h : Owns w v l) : ∃ a n c, v = .slice a n c := by
  rcases h.2 with ⟨rfl, _⟩ | ⟨g, cap, cur, rfl, _⟩
  · exact ⟨_, _, _, rfl⟩
  · exact ⟨_, _, _, rfl⟩
/-- An append of what can be read, nil or not, to a list of the call's own. -/
theorem wpList_appS {w : World} {ops : Array Oper} {rest : List Oper} {o : Oper} {a : Act} {Q : Exit → Act → World → Prop} (hgd : o.guard = none) (s x : Operand)
    (ho : o.op = .call { callee := .builtin .append, args := #[s, x], argTypes := #[25, 25] }) (v : Value) (l m : List Int) (hs : a.eval s = v) (hown : Owns w v l)
    (u : Value) (hx : a.eval x = u) (hsl : Sl w u m) (hlen : l.length + m.length ≤ 140737488355328)
    (h : ∀ v' w', Owns w' v' (l ++ m) → Away v.ownBlock.toList w w' → Moved w v v' → wpList Try.prog ops Q rest (a.put o.dst v') w') : wpList Try.prog ops Q (o :: rest) a w := by
  obtain ⟨ad, cap, rfl, h1, h2, h3⟩ := hsl
  rcases ad with _ | ad
  · have h0 : m = [] := by rcases h3.2.2 with h | ⟨_, _, h, _⟩ <;> simp_all
    subst h0
    obtain rfl := h2 rfl
    refine wpList_app_none hgd s x ho v l hs hown hx (h v w (by simpa using hown) (Away.refl _ _) (Moved.refl _ _))
  · refine wpList_app hgd s x ho v l m hs hown ad m.length cap hx rfl h3.src hlen (fun v' w' r1 r2 r3 => h v' w' r1 ((Away.refl _ w).grown r2 (fun k hk => .inl (by simp [hk]))) r3)
theorem owns_lit0 (w : World) (g : Nat) (hg : g = w.heap.size) : Owns (w.alloc (.cells #[] 5)) (.slice (some ⟨g, 0, none⟩) 0 0) [] := by subst hg; exact World.ownsRow_lit w #[] 0 (Nat.zero_le _) (Nat.zero_le _) rfl
/-- What an append to an empty list that was just made did. -/
theorem fresh {w w' : World} {v' : Value} (h : Away (Value.ownBlock (.slice (some ⟨w.heap.size, 0, none⟩) 0 0)).toList (w.alloc (.cells #[] 5)) w') (hm : Moved (w.alloc (.cells #[] 5)) (.slice (some ⟨w.heap.size, 0, none⟩) 0 0) v') :
    Away [] w w' ∧ New w.heap.size v' := by
  refine ⟨((Away.refl [] w).alloc _).next h (fun x hx => .inr ?_), fun k hk => ?_⟩
  · simp [Value.ownBlock] at hx; omega
  · rcases hm k hk with h | h
    · simp [Value.ownBlock] at h; omega
    · have : w.heap.size + 1 ≤ k := by simpa using h
      omega
theorem Owns.block {w : World} {v : Value} {l : List Int} (h : Owns w v l) (hl : l ≠ []) : ∃ g c, v = .slice (some ⟨g, 0, none⟩) l.length c ∧ l.length ≤ c := by
  obtain ⟨h1, h2⟩ := h
  rcases h2 with ⟨rfl, h3⟩ | ⟨g, cap, cur, rfl, _, _, h4, _⟩
  · exact absurd (by simpa using h3) hl
  · exact ⟨g, cap, by simp, by simpa using h4⟩
theorem wp_region_cls {C : World → Prop} {id : Nat} {Q : Exit → Act → World → Prop} {a : Act} {w : World} {l : List Oper} (hm : Try.prog.follows .mixedOrders = true) (hB : Region.lexB .any l.toArray = true) (hC : C w.drew)
    (h : wpQuiet Try.prog l.toArray C (fun a' => ∀ w', C w' → Q .normal a' w') l a) : (Code.region id l.toArray true).wp Try.prog Q a w :=
  wp_region_quiet (C := C) hm hB hC (by simpa using h)
theorem quiet_val {o : Oper} {a : Act} {C : World → Prop} {K : Act → Prop} (v : Value) (h : ∀ w, (execOp a.eval o).run Try.prog w = .ok (.value v) w) (hk : K (a.put o.dst v)) : o.quiet Try.prog a C K :=
  ⟨v, fun w _ => by unfold Oper.quietAt; rw [h w]; exact ⟨rfl, rfl⟩, hk⟩
theorem quiet_call {o : Oper} {a : Act} {C : World → Prop} {K : Act → Prop} (f : FuncId) (args : Array Value) (v : Value) (h : ∀ w, (execOp a.eval o).run Try.prog w = .ok (.enter f args) w) (hc : ∀ W, C W → Calls Try.prog f args W fun e w' => e = .returned v ∧ C w') (hk : K (a.put o.dst v)) : o.quiet Try.prog a C K :=
  ⟨v, fun w hw => by unfold Oper.quietAt; rw [h w]; exact ⟨rfl, hc w hw⟩, hk⟩
theorem ld3 {w : World} {ad : Addr} {z : Int} (h : w.cell? ad = some (.int .i64 z)) : (Instr.loadAt 3 (.pointer (some ad))).run Try.prog w = .ok (.int .i64 z) w := by
  simp [go_sem, Instr.loadAt, Instr.sureAddr, h]
theorem ld4 {w : World} {ad : Addr} {z : Bool} (h : w.cell? ad = some (.bool z)) : (Instr.loadAt 4 (.pointer (some ad))).run Try.prog w = .ok (.bool z) w := by
  simp [go_sem, Instr.loadAt, Instr.sureAddr, h]
theorem ld5 {w : World} {ad : Addr} {z : Int} (h : w.cell? ad = some (.int .u8 z)) : (Instr.loadAt 5 (.pointer (some ad))).run Try.prog w = .ok (.int .u8 z) w := by
  simp [go_sem, Instr.loadAt, Instr.sureAddr, h]
theorem ldB {w : World} {ad : Addr} {a : Option Addr} {n c : Nat} (h : w.cell? ad = some (.slice a n c)) : (Instr.loadAt 25 (.pointer (some ad))).run Try.prog w = .ok (.slice a n c) w := by
  simp [go_sem, Instr.loadAt, Instr.sureAddr, h]
theorem quiet_ld {o : Oper} {a : Act} {C : World → Prop} {K : Act → Prop} {t : TypeId} {v : Value} {ad : Addr} (x : Operand) (ho : o.op = .load t x) (hx : a.eval x = .pointer (some ad)) (hC : ∀ w, C w → (Instr.loadAt t (.pointer (some ad))).run Try.prog w = .ok v w) (hk : K (a.put o.dst v)) : o.quiet Try.prog a C K := by
  refine ⟨v, fun w hw => ?_, hk⟩
  unfold Oper.quietAt execOp
  simp only [ho, hx, Sem.run_bind, hC w hw, Result.andThen_ok]
  exact ⟨rfl, rfl⟩

/-! An address in a box. -/
def BoxX (w : World) (g : Nat) (s : Ax) : Prop := w.heap[g]? = some (.cells (csA s.v s.l) 24 (0, 0))
theorem BoxX.away {S : List Nat} {w w' : World} {g : Nat} {s : Ax} (h : BoxX w g s) (hw : Away S w w') (hg : g ∉ S) : BoxX w' g s := hw.keep hg h
theorem BoxX.on {w w' : World} {g : Nat} {s : Ax} (h : BoxX w g s) (hw : Away [] w w') : BoxX w' g s := h.away hw (by simp)
theorem BoxX.lt {w : World} {g : Nat} {s : Ax} (h : BoxX w g s) : g < w.heap.size := lt_of_block h
theorem BoxX.cell {w : World} {g : Nat} {s : Ax} (h : BoxX w g s) : w.cell? ⟨g, 0, none⟩ = some (.int .i64 s.v) := by rw [cell_of_block h, csA_zero]
theorem BoxX.byte {w : World} {g : Nat} {s : Ax} (h : BoxX w g s) (i : Nat) (hi : i < s.l.length) : w.cell? ⟨g, 1 + i, none⟩ = some (.int .u8 (s.l[i]?.getD 0)) := by
  rw [cell_of_block h, Nat.add_comm]; simp [csA, cellsA, hi]
theorem BoxX.row {w : World} {g : Nat} {s : Ax} (h : BoxX w g s) (hs : WfA s) : Row w (some ⟨g, 1, none⟩) s.l :=
  ⟨by have := hs.n; omega, hs.l, .inr ⟨g, 1, rfl, fun i hi => h.byte i hi⟩⟩
theorem BoxX.row4 {w : World} {g : Nat} {s : Ax} (h : BoxX w g s) (hs : WfA s) : Row w (some ⟨g, 1, none⟩) (s.l.take 4) := (h.row hs).head 4
theorem load24_run {w : World} {g : Nat} {s : Ax} (hb : BoxX w g s) (hs : WfA s) : (Instr.loadAt 24 (.pointer (some ⟨g, 0, none⟩))).run Try.prog w = .ok (.agg (csA s.v s.l)) w := by
  simp only [Instr.loadAt, Instr.sureAddr, Sem.run_bind, Sem.run_pure, Result.andThen]
  rw [run_loadVar_row w g 24 24 (csA s.v s.l) (0, 0) _ hb Try.underlying24 rfl (by rw [csA_size hs.n]; exact info24)]
theorem wpList_box24 {ops : Array Oper} {rest : List Oper} {o : Oper} {a : Act} {w : World} {Q : Exit → Act → World → Prop} (hg : o.guard = none) (x : Operand) (ho : o.op = .box 24 x)
    (s : Ax) (hx : a.eval x = .agg (csA s.v s.l))
    (h : ∀ g w1, w.heap.size ≤ g → BoxX w1 g s → Away [] w w1 → wpList Try.prog ops Q rest (a.put o.dst (.pointer (some ⟨g, 0, none⟩))) w1) : wpList Try.prog ops Q (o :: rest) a w := by
  refine wpList_plain hg fun K hK => ?_
  unfold Oper.wp execOp
  simp only [ho, hx, Sem.run_bind, Instr.box, newVar, newRow, run_newObj_alloc, Sem.run_pure, Result.andThen_ok]
  exact hK _ _ (h w.heap.size _ (Nat.le_refl _) (block_new _ _) ((Away.refl [] w).alloc _))
theorem wpList_loadX {ops : Array Oper} {rest : List Oper} {o : Oper} {a : Act} {w : World} {Q : Exit → Act → World → Prop} (hw : Region.wanted o (yielded ops a.tmps) = true) (x : Operand) (ho : o.op = .load 24 x)
    (g : Nat) (hx : a.eval x = .pointer (some ⟨g, 0, none⟩)) (s : Ax) (hb : BoxX w g s) (hs : WfA s) (h : wpList Try.prog ops Q rest (a.put o.dst (.agg (csA s.v s.l))) w) : wpList Try.prog ops Q (o :: rest) a w :=
  BigFrame.wpList_want hw fun K hK => wp_load_row 24 x ho g hx 24 _ (0, 0) _ hb Try.underlying24 rfl (by rw [csA_size hs.n]; exact info24) (hK _ _ h)
def zeroAx : Ax := ⟨0, z16⟩
theorem zeroX_wf : WfA zeroAx := ⟨⟨by decide, by decide⟩, rfl, fun n hn => by simp [zeroAx, z16] at hn; omega⟩
theorem zero24 : (Try.prog.info? 24).bind (·.zero) = some (.agg (csA zeroAx.v zeroAx.l)) := by kernel_rfl
theorem wpList_allocX {ops : Array Oper} {rest : List Oper} {o : Oper} {a : Act} {w : World} {Q : Exit → Act → World → Prop} (hg : o.guard = none) (ho : o.op = .alloc 24)
    (h : ∀ g w1, w.heap.size ≤ g → BoxX w1 g zeroAx → Away [] w w1 → wpList Try.prog ops Q rest (a.put o.dst (.pointer (some ⟨g, 0, none⟩))) w1) : wpList Try.prog ops Q (o :: rest) a w := by
  have hz : (zeroValue 24).run Try.prog w = .ok (.agg (csA zeroAx.v zeroAx.l)) w := by
    have := zero24
    cases hi : Try.prog.info? 24 with
    | none => rw [hi] at this; simp at this
    | some i => rw [hi] at this; simp at this; simp [zeroValue, typeInfo, hi, this]
  refine wpList_plain hg fun K hK => ?_
  unfold Oper.wp execOp
  simp only [ho, Sem.run_bind, Instr.alloc, hz, newVar, newRow, run_newObj_alloc, Sem.run_pure, Result.andThen_ok]
  exact hK _ _ (h w.heap.size _ (Nat.le_refl _) (block_new _ _) ((Away.refl [] w).alloc _))
theorem wpList_storeX {ops : Array Oper} {rest : List Oper} {o : Oper} {a : Act} {w : World} {Q : Exit → Act → World → Prop} (hw : Region.wanted o (yielded ops a.tmps) = true) (x y : Operand) (ho : o.op = .store 24 x y)
    (g : Nat) (hx : a.eval x = .pointer (some ⟨g, 0, none⟩)) (s : Ax) (hy : a.eval y = .agg (csA s.v s.l)) (t : Ax) (hb : BoxX w g t) (hs : s.l.length = 16) (ht : t.l.length = 16)
    (h : ∀ w1, BoxX w1 g s → Away [g] w w1 → wpList Try.prog ops Q rest (a.put o.dst undef) w1) : wpList Try.prog ops Q (o :: rest) a w :=
  BigFrame.wpList_want hw fun K hK => wp_store_row 24 x y ho g (csA s.v s.l) hx hy 24 (csA t.v t.l) hb (by rw [csA_size hs]; exact info24) (by rw [csA_size hs, csA_size ht]) (csA_one s.v s.l) (hK _ _ (h _ (by
    unfold BoxX at hb ⊢; simp [World.setRow, Array.getElem?_modify, hb]) ((Away.refl [g] w).setRow (.inl (by simp)) _)))
/-- A variable of its own for an address. -/
theorem wpList_newX {ops : Array Oper} {rest : List Oper} {o o2 : Oper} {a : Act} {w : World} {Q : Exit → Act → World → Prop} (hg : o.guard = none) (ho : o.op = .alloc 24) (hg2 : o2.guard = none) (x y : Operand) (ho2 : o2.op = .store 24 x y)
    (s : Ax) (hx : ∀ g, (a.put o.dst (.pointer (some ⟨g, 0, none⟩))).eval x = .pointer (some ⟨g, 0, none⟩)) (hy : ∀ g, (a.put o.dst (.pointer (some ⟨g, 0, none⟩))).eval y = .agg (csA s.v s.l)) (hs : s.l.length = 16)
    (h : ∀ g w1, w.heap.size ≤ g → BoxX w1 g s → Away [] w w1 → wpList Try.prog ops Q rest ((a.put o.dst (.pointer (some ⟨g, 0, none⟩))).put o2.dst undef) w1) : wpList Try.prog ops Q (o :: o2 :: rest) a w :=
  wpList_allocX hg ho fun g w1 hg1 hb1 ha1 => wpList_storeX (by simp [Region.wanted, hg2]) x y ho2 g (hx g) s (hy g) zeroAx hb1 hs rfl fun w2 hb2 ha2 => h g w2 hg1 hb2 (ha1.next ha2 (fun x hx => .inr (by simp at hx; omega)))
theorem result24x {fn : Func} {t : Tmp} (h : fn.results = #[.cell t 24]) (tmps : Array Value) (w : World) (g : Nat) (s : Ax) (ht : tmps.getD t undef = .pointer (some ⟨g, 0, none⟩)) (hb : BoxX w g s) (hs : s.l.length = 16) :
    (results fn tmps).run Try.prog w = .ok (.agg (csA s.v s.l)) w :=
  results_cell_row h tmps w g 24 (csA s.v s.l) (0, 0) _ ht hb Try.underlying24 rfl (by rw [csA_size hs]; exact info24)

/-! A datagram in a box. -/
def csD (g : Dg) (dv : Value) : Array Value := #[.int .i64 g.sp, .int .i64 g.dp, .bool g.ns, dv]
def BoxD (w : World) (k : Nat) (g : Dg) (dv : Value) : Prop := w.heap[k]? = some (.cells (csD g dv) 27 (0, 0))
structure Dat (w : World) (g : Dg) (dv : Value) : Prop where
  wf : WfD g
  d : Sl w dv g.d
theorem Dat.on {w w' : World} {g : Dg} {dv : Value} (h : Dat w g dv) (hw : Away [] w w') : Dat w' g dv := ⟨h.wf, h.d.on hw⟩
theorem Dat.zero (w : World) : Dat w zeroDg (.slice none 0 0) := ⟨zero_wf, Sl.nil _⟩
theorem BoxD.away {S : List Nat} {w w' : World} {k : Nat} {g : Dg} {dv : Value} (h : BoxD w k g dv) (hw : Away S w w') (hg : k ∉ S) : BoxD w' k g dv := hw.keep hg h
theorem BoxD.on {w w' : World} {k : Nat} {g : Dg} {dv : Value} (h : BoxD w k g dv) (hw : Away [] w w') : BoxD w' k g dv := h.away hw (by simp)
theorem BoxD.lt {w : World} {k : Nat} {g : Dg} {dv : Value} (h : BoxD w k g dv) : k < w.heap.size := lt_of_block h
theorem BoxD.c0 {w : World} {k : Nat} {g : Dg} {dv : Value} (h : BoxD w k g dv) : w.cell? ⟨k, 0, none⟩ = some (.int .i64 g.sp) := by rw [cell_of_block h]; rfl
theorem BoxD.c1 {w : World} {k : Nat} {g : Dg} {dv : Value} (h : BoxD w k g dv) : w.cell? ⟨k, 1, none⟩ = some (.int .i64 g.dp) := by rw [cell_of_block h]; rfl
theorem BoxD.c2 {w : World} {k : Nat} {g : Dg} {dv : Value} (h : BoxD w k g dv) : w.cell? ⟨k, 2, none⟩ = some (.bool g.ns) := by rw [cell_of_block h]; rfl
theorem BoxD.c3 {w : World} {k : Nat} {g : Dg} {dv : Value} (h : BoxD w k g dv) : w.cell? ⟨k, 3, none⟩ = some dv := by rw [cell_of_block h]; rfl
theorem BoxD.free {w : World} {k : Nat} {g : Dg} {dv : Value} (h : BoxD w k g dv) (i : Nat) : w.frozen? ⟨k, i, none⟩ = false := free_of_block h i
theorem BoxD.put {w : World} {k : Nat} {g g' : Dg} {dv dv' : Value} (h : BoxD w k g dv) (i : Nat) (x : Value) (hx : (csD g dv).setIfInBounds i x = csD g' dv') : BoxD (w.setCell ⟨k, i, none⟩ x) k g' dv' := by
  unfold BoxD; rw [block_set h, hx]
theorem away_put {w : World} {g : Nat} (i : Nat) (x : Value) : Away [g] w (w.setCell ⟨g, i, none⟩ x) := (Away.refl [g] w).setCell (.inl (by simp)) _
theorem info27 : (Try.prog.info? 27).map (·.size) = some 4 := by kernel_rfl
theorem zero27 : (Try.prog.info? 27).bind (·.zero) = some (.agg (csD zeroDg (.slice none 0 0))) := by kernel_rfl
theorem csD_one (g : Dg) (dv : Value) (hd : dv.oneCell' = true) : (csD g dv).all (·.oneCell') = true := by
  simp only [Array.all_eq_true_iff_forall_mem]
  intro x hx
  simp [csD] at hx
  rcases hx with rfl | rfl | rfl | rfl
  · rfl
  · rfl
  · rfl
  · exact hd
theorem load27_run {w : World} {k : Nat} {g : Dg} {dv : Value} (hb : BoxD w k g dv) : (Instr.loadAt 27 (.pointer (some ⟨k, 0, none⟩))).run Try.prog w = .ok (.agg (csD g dv)) w := by
  simp only [Instr.loadAt, Instr.sureAddr, Sem.run_bind, Sem.run_pure, Result.andThen]
  rw [run_loadVar_row w k 27 27 (csD g dv) (0, 0) _ hb Try.underlying27 rfl info27]
theorem wpList_boxD {ops : Array Oper} {rest : List Oper} {o : Oper} {a : Act} {w : World} {Q : Exit → Act → World → Prop} (hg : o.guard = none) (x : Operand) (ho : o.op = .box 27 x)
    (g : Dg) (dv : Value) (hx : a.eval x = .agg (csD g dv))
    (h : ∀ k w1, w.heap.size ≤ k → BoxD w1 k g dv → Away [] w w1 → wpList Try.prog ops Q rest (a.put o.dst (.pointer (some ⟨k, 0, none⟩))) w1) : wpList Try.prog ops Q (o :: rest) a w := by
  refine wpList_plain hg fun K hK => ?_
  unfold Oper.wp execOp
  simp only [ho, hx, Sem.run_bind, Instr.box, newVar, newRow, run_newObj_alloc, Sem.run_pure, Result.andThen_ok]
  exact hK _ _ (h w.heap.size _ (Nat.le_refl _) (block_new _ _) ((Away.refl [] w).alloc _))
theorem wpList_loadD {ops : Array Oper} {rest : List Oper} {o : Oper} {a : Act} {w : World} {Q : Exit → Act → World → Prop} (hw : Region.wanted o (yielded ops a.tmps) = true) (x : Operand) (ho : o.op = .load 27 x)
    (k : Nat) (hx : a.eval x = .pointer (some ⟨k, 0, none⟩)) (g : Dg) (dv : Value) (hb : BoxD w k g dv) (h : wpList Try.prog ops Q rest (a.put o.dst (.agg (csD g dv))) w) : wpList Try.prog ops Q (o :: rest) a w :=
  BigFrame.wpList_want hw fun K hK => wp_load_row 27 x ho k hx 27 _ (0, 0) _ hb Try.underlying27 rfl info27 (hK _ _ h)
theorem wpList_allocD {ops : Array Oper} {rest : List Oper} {o : Oper} {a : Act} {w : World} {Q : Exit → Act → World → Prop} (hg : o.guard = none) (ho : o.op = .alloc 27)
    (h : ∀ k w1, w.heap.size ≤ k → BoxD w1 k zeroDg (.slice none 0 0) → Away [] w w1 → wpList Try.prog ops Q rest (a.put o.dst (.pointer (some ⟨k, 0, none⟩))) w1) : wpList Try.prog ops Q (o :: rest) a w := by
  have hz : (zeroValue 27).run Try.prog w = .ok (.agg (csD zeroDg (.slice none 0 0))) w := by
    have := zero27
    cases hi : Try.prog.info? 27 with
    | none => rw [hi] at this; simp at this
    | some i => rw [hi] at this; simp at this; simp [zeroValue, typeInfo, hi, this]
  refine wpList_plain hg fun K hK => ?_
  unfold Oper.wp execOp
  simp only [ho, Sem.run_bind, Instr.alloc, hz, newVar, newRow, run_newObj_alloc, Sem.run_pure, Result.andThen_ok]
  exact hK _ _ (h w.heap.size _ (Nat.le_refl _) (block_new _ _) ((Away.refl [] w).alloc _))
theorem wpList_storeD {ops : Array Oper} {rest : List Oper} {o : Oper} {a : Act} {w : World} {Q : Exit → Act → World → Prop} (hw : Region.wanted o (yielded ops a.tmps) = true) (x y : Operand) (ho : o.op = .store 27 x y)
    (k : Nat) (hx : a.eval x = .pointer (some ⟨k, 0, none⟩)) (g : Dg) (dv : Value) (hy : a.eval y = .agg (csD g dv)) (q : Dg) (du : Value) (hb : BoxD w k q du) (h2 : dv.oneCell' = true)
    (h : ∀ w1, BoxD w1 k g dv → Away [k] w w1 → wpList Try.prog ops Q rest (a.put o.dst undef) w1) : wpList Try.prog ops Q (o :: rest) a w :=
  BigFrame.wpList_want hw fun K hK => wp_store_row 27 x y ho k (csD g dv) hx hy 27 (csD q du) hb info27 rfl (csD_one g dv h2) (hK _ _ (h _ (by
    unfold BoxD at hb ⊢; simp [World.setRow, Array.getElem?_modify, hb]) ((Away.refl [k] w).setRow (.inl (by simp)) _)))
theorem wpList_newD {ops : Array Oper} {rest : List Oper} {o o2 : Oper} {a : Act} {w : World} {Q : Exit → Act → World → Prop} (hg : o.guard = none) (ho : o.op = .alloc 27) (hg2 : o2.guard = none) (x y : Operand) (ho2 : o2.op = .store 27 x y)
    (g : Dg) (dv : Value) (hx : ∀ k, (a.put o.dst (.pointer (some ⟨k, 0, none⟩))).eval x = .pointer (some ⟨k, 0, none⟩)) (hy : ∀ k, (a.put o.dst (.pointer (some ⟨k, 0, none⟩))).eval y = .agg (csD g dv)) (h2 : dv.oneCell' = true)
    (h : ∀ k w1, w.heap.size ≤ k → BoxD w1 k g dv → Away [] w w1 → wpList Try.prog ops Q rest ((a.put o.dst (.pointer (some ⟨k, 0, none⟩))).put o2.dst undef) w1) : wpList Try.prog ops Q (o :: o2 :: rest) a w :=
  wpList_allocD hg ho fun k w1 hg1 hb1 ha1 => wpList_storeD (by simp [Region.wanted, hg2]) x y ho2 k (hx k) g dv (hy k) zeroDg _ hb1 h2 fun w2 hb2 ha2 => h k w2 hg1 hb2 (ha1.next ha2 (fun x hx => .inr (by simp at hx; omega)))
theorem result27 {fn : Func} {t : Tmp} (h : fn.results = #[.cell t 27]) (tmps : Array Value) (w : World) (k : Nat) (g : Dg) (dv : Value) (ht : tmps.getD t undef = .pointer (some ⟨k, 0, none⟩)) (hb : BoxD w k g dv) :
    (results fn tmps).run Try.prog w = .ok (.agg (csD g dv)) w :=
  results_cell_row h tmps w k 27 (csD g dv) (0, 0) _ ht hb Try.underlying27 rfl info27
theorem result27t {fn : Func} {t u : Tmp} (h : fn.results = #[.cell t 27, .tmp u]) (tmps : Array Value) (w : World) (k : Nat) (g : Dg) (dv v : Value) (ht : tmps.getD t undef = .pointer (some ⟨k, 0, none⟩)) (hu : tmps.getD u undef = v) (hb : BoxD w k g dv) :
    (results fn tmps).run Try.prog w = .ok (.tuple #[.agg (csD g dv), v]) w := by
  rw [results_cell_tmp h, ht, hu]
  simp only [asAddr, Sem.run_pure, Result.andThen, run_loadVar_row w k 27 27 (csD g dv) (0, 0) _ hb Try.underlying27 rfl info27]
end Go.Proofs.Ytbfpphoiapggnaa
