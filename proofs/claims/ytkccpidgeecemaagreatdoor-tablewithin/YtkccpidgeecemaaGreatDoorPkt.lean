/-
  Packets in memory: boxes, loads and stores of a whole packet at once.
-/
import Derived.Test.YtkccpidgeecemaaGreatDoorAdr
import Derived.Deep.MidRow
import Derived.Laws.CopyRow
namespace Go.Proofs.YtkccpidgeecemaaGreatDoor
open Go.ChangeShapes Go.WideShapes Go.ChangeAt Go.RowKit Num
set_option linter.unusedVariables false
set_option maxHeartbeats 4000000
set_option maxRecDepth 100000

/-- A slice that can be read. -/
def Sl (w : World) (v : Value) (l : List Int) : Prop := ∃ a cap, v = .slice a l.length cap ∧ l.length ≤ cap ∧ (a = none → cap = 0) ∧ Row w a l
theorem Sl.away {S : List Nat} {w w' : World} {v : Value} {l : List Int} (h : Sl w v l) (hw : Away S w w') (hv : l ≠ [] → ∀ k, v.ownBlock = some k → k ∉ S) : Sl w' v l := by
  obtain ⟨a, cap, rfl, h1, h2, h3⟩ := h
  by_cases hl : l = []
  · subst hl; exact ⟨a, cap, rfl, h1, h2, Row.nil _ _⟩
  · refine ⟨a, cap, rfl, h1, h2, h3.away hw (fun x hx => hv hl _ ?_)⟩
    subst hx; rfl
/-- It lies in blocks below B, if it has bytes at all. -/
def Old (B : Nat) (v : Value) (l : List Int) : Prop := l ≠ [] → ∀ k, v.ownBlock = some k → k < B
theorem Old.mono {B C : Nat} {v : Value} {l : List Int} (h : Old B v l) (hc : B ≤ C) : Old C v l := fun hl k hk => Nat.lt_of_lt_of_le (h hl k hk) hc
theorem Sl.old {w : World} {v : Value} {l : List Int} (h : Sl w v l) : Old w.heap.size v l := by
  obtain ⟨a, cap, rfl, h1, h2, h3⟩ := h
  intro hl k hk
  rcases h3.2.2 with h4 | ⟨b, off, rfl, hc⟩
  · exact absurd h4 hl
  · have hk' : b = k := by simpa [Value.ownBlock] using hk
    subst hk'
    exact block_lt_of_cell (hc 0 (List.length_pos_iff.2 hl))
theorem Sl.on {w w' : World} {v : Value} {l : List Int} (h : Sl w v l) (hw : Away [] w w') : Sl w' v l := h.away hw (by simp)
theorem Sl.bytes {w : World} {v : Value} {l : List Int} (h : Sl w v l) : Bytes l ∧ l.length ≤ 140737488355328 := by
  obtain ⟨a, cap, rfl, h1, h2, h3⟩ := h; exact ⟨h3.2.1, h3.1⟩
theorem Sl.nil (w : World) : Sl w (.slice none 0 0) [] := ⟨none, 0, rfl, by simp, by simp, Row.nil _ _⟩
theorem Owns.sl {w : World} {v : Value} {l : List Int} (h : Owns w v l) (hb : Bytes l) (hl : l.length ≤ 140737488355328) : Sl w v l := by
  obtain ⟨a, cap, h1, h2, h3, h4, _⟩ := h.row hl hb
  exact ⟨a, cap, h1, h2, h3, h4⟩
theorem Sl.one {w : World} {v : Value} {l : List Int} (h : Sl w v l) : v.oneCell' = true := by obtain ⟨a, cap, rfl, _⟩ := h; rfl
theorem Sl.of {w : World} {a : Option Addr} {n cap : Nat} {l : List Int} (h : Sl w (.slice a n cap) l) : l.length = n ∧ n ≤ cap ∧ (a = none → cap = 0) ∧ Row w a l := by
  obtain ⟨a', cap', h1, h2, h3, h4⟩ := h
  simp only [Value.slice.injEq] at h1
  obtain ⟨rfl, rfl, rfl⟩ := h1
  exact ⟨rfl, h2, h3, h4⟩

/-! The cells of a packet. -/
def listP (p : Pk) (ov dv : Value) : List Value :=
  Value.int .i64 p.v :: .int .i64 p.tos :: .int .i64 p.flow :: (cellsA p.sv p.sb ++ (cellsA p.dv p.db ++ [.int .i64 p.proto, .int .i64 p.ttl, .int .u32 p.id, .bool p.df, .bool p.more, .bool p.frag, .int .i64 p.off, ov, dv]))
def csP (p : Pk) (ov dv : Value) : Array Value := (listP p ov dv).toArray
/-- Both addresses have sixteen bytes. -/
def Ad (p : Pk) : Prop := p.sb.length = 16 ∧ p.db.length = 16
theorem Wf.ad {p : Pk} (h : Wf p) : Ad p := ⟨h.sl, h.dl⟩
theorem listP_len {p : Pk} (h : Ad p) (ov dv : Value) : (listP p ov dv).length = 46 := by simp [listP, cellsA, h.1, h.2]
theorem csP_size {p : Pk} (h : Ad p) (ov dv : Value) : (csP p ov dv).size = 46 := by simpa [csP] using listP_len h ov dv
theorem listP_one (p : Pk) (ov dv : Value) (ho : ov.oneCell' = true) (hd : dv.oneCell' = true) : ∀ x ∈ listP p ov dv, x.oneCell' = true := by
  intro x hx
  simp only [listP, cellsA, List.mem_cons, List.mem_append, List.mem_map, List.not_mem_nil, or_false, List.cons_append] at hx
  rcases hx with rfl | rfl | rfl | rfl | ⟨n, _, rfl⟩ | rfl | ⟨n, _, rfl⟩ | rfl | rfl | rfl | rfl | rfl | rfl | rfl | rfl | rfl <;> first | rfl | assumption
theorem csP_one (p : Pk) (ov dv : Value) (ho : ov.oneCell' = true) (hd : dv.oneCell' = true) : (csP p ov dv).all (·.oneCell') = true := by
  simp only [Array.all_eq_true_iff_forall_mem]
  intro x hx
  exact listP_one p ov dv ho hd x (by simpa [csP] using hx)

def BoxP (w : World) (g : Nat) (p : Pk) (ov dv : Value) : Prop := w.heap[g]? = some (.cells (csP p ov dv) 39 (0, 0))
theorem BoxP.away {S : List Nat} {w w' : World} {g : Nat} {p : Pk} {ov dv : Value} (h : BoxP w g p ov dv) (hw : Away S w w') (hg : g ∉ S) : BoxP w' g p ov dv := hw.keep hg h
theorem BoxP.on {w w' : World} {g : Nat} {p : Pk} {ov dv : Value} (h : BoxP w g p ov dv) (hw : Away [] w w') : BoxP w' g p ov dv := h.away hw (by simp)
theorem BoxP.lt {w : World} {g : Nat} {p : Pk} {ov dv : Value} (h : BoxP w g p ov dv) : g < w.heap.size := lt_of_block h
theorem BoxP.free {w : World} {g : Nat} {p : Pk} {ov dv : Value} (h : BoxP w g p ov dv) (i : Nat) : w.frozen? ⟨g, i, none⟩ = false := free_of_block h i
theorem csP_get {p : Pk} (h : Ad p) (ov dv : Value) :
    (csP p ov dv)[0]? = some (.int .i64 p.v) ∧ (csP p ov dv)[1]? = some (.int .i64 p.tos) ∧ (csP p ov dv)[2]? = some (.int .i64 p.flow) ∧ (csP p ov dv)[3]? = some (.int .i64 p.sv) ∧ (csP p ov dv)[20]? = some (.int .i64 p.dv) ∧
    (csP p ov dv)[37]? = some (.int .i64 p.proto) ∧ (csP p ov dv)[38]? = some (.int .i64 p.ttl) ∧ (csP p ov dv)[39]? = some (.int .u32 p.id) ∧ (csP p ov dv)[40]? = some (.bool p.df) ∧ (csP p ov dv)[41]? = some (.bool p.more) ∧ (csP p ov dv)[42]? = some (.bool p.frag) ∧
    (csP p ov dv)[43]? = some (.int .i64 p.off) ∧ (csP p ov dv)[44]? = some ov ∧ (csP p ov dv)[45]? = some dv := by
  obtain ⟨v, tos, flow, sv, sb, dv', db, proto, ttl, id, df, more, frag, off, o, d⟩ := p
  obtain ⟨h1, h2⟩ := h
  simp only at h1 h2
  obtain ⟨b0, b1, b2, b3, b4, b5, b6, b7, b8, b9, b10, b11, b12, b13, b14, b15, rfl⟩ := list16 h1
  obtain ⟨c0, c1, c2, c3, c4, c5, c6, c7, c8, c9, c10, c11, c12, c13, c14, c15, rfl⟩ := list16 h2
  exact ⟨rfl, rfl, rfl, rfl, rfl, rfl, rfl, rfl, rfl, rfl, rfl, rfl, rfl, rfl⟩
structure Cells (w : World) (g : Nat) (p : Pk) (ov dv : Value) : Prop where
  v : w.cell? ⟨g, 0, none⟩ = some (.int .i64 p.v)
  tos : w.cell? ⟨g, 1, none⟩ = some (.int .i64 p.tos)
  flow : w.cell? ⟨g, 2, none⟩ = some (.int .i64 p.flow)
  sv : w.cell? ⟨g, 3, none⟩ = some (.int .i64 p.sv)
  dv' : w.cell? ⟨g, 20, none⟩ = some (.int .i64 p.dv)
  proto : w.cell? ⟨g, 37, none⟩ = some (.int .i64 p.proto)
  ttl : w.cell? ⟨g, 38, none⟩ = some (.int .i64 p.ttl)
  id : w.cell? ⟨g, 39, none⟩ = some (.int .u32 p.id)
  df : w.cell? ⟨g, 40, none⟩ = some (.bool p.df)
  more : w.cell? ⟨g, 41, none⟩ = some (.bool p.more)
  frag : w.cell? ⟨g, 42, none⟩ = some (.bool p.frag)
  off : w.cell? ⟨g, 43, none⟩ = some (.int .i64 p.off)
  o : w.cell? ⟨g, 44, none⟩ = some ov
  d : w.cell? ⟨g, 45, none⟩ = some dv
theorem BoxP.cells {w : World} {g : Nat} {p : Pk} {ov dv : Value} (h : BoxP w g p ov dv) (ha : Ad p) : Cells w g p ov dv := by
  obtain ⟨k0, k1, k2, k3, k4, k5, k6, k7, k8, k9, k10, k11, k12, k13⟩ := csP_get ha ov dv
  have e := cell_of_block h
  exact ⟨by rw [e, k0], by rw [e, k1], by rw [e, k2], by rw [e, k3], by rw [e, k4], by rw [e, k5], by rw [e, k6], by rw [e, k7], by rw [e, k8], by rw [e, k9], by rw [e, k10], by rw [e, k11], by rw [e, k12], by rw [e, k13]⟩
theorem info28 : (Tryz.prog.info? 39).map (·.size) = some 46 := by kernel_rfl
/-- The source address, as bytes that lie in the box. -/
theorem BoxP.srow {w : World} {g : Nat} {p : Pk} {ov dv : Value} (h : BoxP w g p ov dv) : w.rangeAt g 3 (cellsA p.sv p.sb) := by
  intro j x hj
  rw [cell_of_block h]
  have hl : j < (cellsA p.sv p.sb).length := by
    rcases Nat.lt_or_ge j (cellsA p.sv p.sb).length with h | h
    · exact h
    · rw [List.getElem?_eq_none h] at hj; simp at hj
  simp only [csP, listP, List.getElem?_toArray]
  rw [show 3 + j = j + 1 + 1 + 1 from by omega, List.getElem?_cons_succ, List.getElem?_cons_succ, List.getElem?_cons_succ, List.getElem?_append_left hl, hj]
theorem BoxP.drow {w : World} {g : Nat} {p : Pk} {ov dv : Value} (h : BoxP w g p ov dv) (ha : Ad p) : w.rangeAt g 20 (cellsA p.dv p.db) := by
  intro j x hj
  rw [cell_of_block h]
  have hl : j < (cellsA p.dv p.db).length := by
    rcases Nat.lt_or_ge j (cellsA p.dv p.db).length with h | h
    · exact h
    · rw [List.getElem?_eq_none h] at hj; simp at hj
  have hs : (cellsA p.sv p.sb).length = 17 := by simp [cellsA, ha.1]
  simp only [csP, listP, List.getElem?_toArray]
  rw [show 20 + j = j + 17 + 1 + 1 + 1 from by omega, List.getElem?_cons_succ, List.getElem?_cons_succ, List.getElem?_cons_succ, List.getElem?_append_right (by omega), hs, show j + 17 - 17 = j from by omega, List.getElem?_append_left hl, hj]
/-! Steps of a walk. -/
theorem wpList_box28 {ops : Array Oper} {rest : List Oper} {o : Oper} {a : Act} {w : World} {Q : Exit → Act → World → Prop} (hg : o.guard = none) (x : Operand) (ho : o.op = .box 39 x)
    (p : Pk) (ov dv : Value) (hx : a.eval x = .agg (csP p ov dv))
    (h : ∀ g w1, w.heap.size ≤ g → BoxP w1 g p ov dv → Away [] w w1 → wpList Tryz.prog ops Q rest (a.put o.dst (.pointer (some ⟨g, 0, none⟩))) w1) : wpList Tryz.prog ops Q (o :: rest) a w := by
  refine wpList_plain hg fun K hK => ?_
  unfold Oper.wp execOp
  simp only [ho, hx, Sem.run_bind, Instr.box, newVar, newRow, run_newObj_alloc, Sem.run_pure, Result.andThen_ok]
  exact hK _ _ (h w.heap.size _ (Nat.le_refl _) (block_new _ _) ((Away.refl [] w).alloc _))
theorem wpList_load28 {ops : Array Oper} {rest : List Oper} {o : Oper} {a : Act} {w : World} {Q : Exit → Act → World → Prop} (hw : Region.wanted o (yielded ops a.tmps) = true) (x : Operand) (ho : o.op = .load 39 x)
    (g : Nat) (hx : a.eval x = .pointer (some ⟨g, 0, none⟩)) (p : Pk) (ov dv : Value) (hb : BoxP w g p ov dv) (ha : Ad p) (h : wpList Tryz.prog ops Q rest (a.put o.dst (.agg (csP p ov dv))) w) : wpList Tryz.prog ops Q (o :: rest) a w :=
  BigFrame.wpList_want hw fun K hK => wp_load_row 39 x ho g hx 39 _ (0, 0) _ hb Tryz.underlying39 rfl (by rw [csP_size ha]; exact info28) (hK _ _ h)
/-- A load of one of a packet's addresses. -/
theorem wpList_load24m {ops : Array Oper} {rest : List Oper} {o : Oper} {a : Act} {w : World} {Q : Exit → Act → World → Prop} (hw : Region.wanted o (yielded ops a.tmps) = true) (x : Operand) (ho : o.op = .load 35 x)
    (g k : Nat) (hx : a.eval x = .pointer (some ⟨g, k, none⟩)) (v : Int) (l : List Int) (hc : w.rangeAt g k (cellsA v l)) (hl : l.length = 16) (h : wpList Tryz.prog ops Q rest (a.put o.dst (.agg (csA v l))) w) : wpList Tryz.prog ops Q (o :: rest) a w :=
  BigFrame.wpList_want hw fun K hK => wp_load_mid 35 x ho g k hx (cellsA v l) _ hc Tryz.underlying35 rfl (by rw [show (cellsA v l).length = 17 from by simp [cellsA, hl]]; exact info24) (hK _ _ h)
theorem zero28 : (Tryz.prog.info? 39).bind (·.zero) = some (.agg (csP zeroPk (.slice none 0 0) (.slice none 0 0))) := by kernel_rfl
theorem wpList_alloc28 {ops : Array Oper} {rest : List Oper} {o : Oper} {a : Act} {w : World} {Q : Exit → Act → World → Prop} (hg : o.guard = none) (ho : o.op = .alloc 39)
    (h : ∀ g w1, w.heap.size ≤ g → BoxP w1 g zeroPk (.slice none 0 0) (.slice none 0 0) → Away [] w w1 → wpList Tryz.prog ops Q rest (a.put o.dst (.pointer (some ⟨g, 0, none⟩))) w1) : wpList Tryz.prog ops Q (o :: rest) a w := by
  have hz : (zeroValue 39).run Tryz.prog w = .ok (.agg (csP zeroPk (.slice none 0 0) (.slice none 0 0))) w := by
    have := zero28
    cases hi : Tryz.prog.info? 39 with
    | none => rw [hi] at this; simp at this
    | some i => rw [hi] at this; simp at this; simp [zeroValue, typeInfo, hi, this]
  refine wpList_plain hg fun K hK => ?_
  unfold Oper.wp execOp
  simp only [ho, Sem.run_bind, Instr.alloc, hz, newVar, newRow, run_newObj_alloc, Sem.run_pure, Result.andThen_ok]
  exact hK _ _ (h w.heap.size _ (Nat.le_refl _) (block_new _ _) ((Away.refl [] w).alloc _))
theorem Away.setRow {S : List Nat} {a w : World} (h : Away S a w) {g : Nat} (hg : g ∈ S ∨ a.heap.size ≤ g) (c : Array Value) : Away S a (w.setRow g c) :=
  ⟨h.os, h.tape, h.output, by simpa [World.setRow] using h.size, fun k hk hn => by
    rw [← h.block k hk hn]; simp [World.setRow, Array.getElem?_modify]; intro e; subst e; rcases hg with hg | hg; exact absurd hg hn; omega⟩
theorem wpList_store28 {ops : Array Oper} {rest : List Oper} {o : Oper} {a : Act} {w : World} {Q : Exit → Act → World → Prop} (hw : Region.wanted o (yielded ops a.tmps) = true) (x y : Operand) (ho : o.op = .store 39 x y)
    (g : Nat) (hx : a.eval x = .pointer (some ⟨g, 0, none⟩)) (p : Pk) (ov dv : Value) (hy : a.eval y = .agg (csP p ov dv)) (q : Pk) (ou du : Value) (hb : BoxP w g q ou du) (ha : Ad p) (hq : Ad q) (h1 : ov.oneCell' = true) (h2 : dv.oneCell' = true)
    (h : ∀ w1, BoxP w1 g p ov dv → Away [g] w w1 → wpList Tryz.prog ops Q rest (a.put o.dst undef) w1) : wpList Tryz.prog ops Q (o :: rest) a w :=
  BigFrame.wpList_want hw fun K hK => wp_store_row 39 x y ho g (csP p ov dv) hx hy 39 (csP q ou du) hb (by rw [csP_size ha]; exact info28) (by rw [csP_size ha, csP_size hq]) (csP_one p ov dv h1 h2) (hK _ _ (h _ (by
    unfold BoxP at hb ⊢; simp [World.setRow, Array.getElem?_modify, hb]) ((Away.refl [g] w).setRow (.inl (by simp)) _)))
/-- The result of a function: a packet, or a packet and something plain. -/
theorem result28 {fn : Func} {t : Tmp} (h : fn.results = #[.cell t 39]) (tmps : Array Value) (w : World) (g : Nat) (p : Pk) (ov dv : Value) (ht : tmps.getD t undef = .pointer (some ⟨g, 0, none⟩)) (hb : BoxP w g p ov dv) (ha : Ad p) :
    (results fn tmps).run Tryz.prog w = .ok (.agg (csP p ov dv)) w :=
  results_cell_row h tmps w g 39 (csP p ov dv) (0, 0) _ ht hb Tryz.underlying39 rfl (by rw [csP_size ha]; exact info28)
theorem result28t {fn : Func} {t u : Tmp} (h : fn.results = #[.cell t 39, .tmp u]) (tmps : Array Value) (w : World) (g : Nat) (p : Pk) (ov dv v : Value) (ht : tmps.getD t undef = .pointer (some ⟨g, 0, none⟩)) (hu : tmps.getD u undef = v) (hb : BoxP w g p ov dv) (ha : Ad p) :
    (results fn tmps).run Tryz.prog w = .ok (.tuple #[.agg (csP p ov dv), v]) w := by
  rw [results_cell_tmp h, ht, hu]
  simp only [asAddr, Sem.run_pure, Result.andThen, run_loadVar_row w g 39 39 (csP p ov dv) (0, 0) _ hb Tryz.underlying39 rfl (by rw [csP_size ha]; exact info28)]

/-! Stores of one field. -/
theorem BoxP.put {w : World} {g : Nat} {p q : Pk} {ov dv ou du : Value} (h : BoxP w g p ov dv) (i : Nat) (x : Value) (hx : (csP p ov dv).setIfInBounds i x = csP q ou du) : BoxP (w.setCell ⟨g, i, none⟩ x) g q ou du := by
  unfold BoxP; rw [block_set h, hx]
theorem away_put {w : World} {g : Nat} (i : Nat) (x : Value) : Away [g] w (w.setCell ⟨g, i, none⟩ x) := (Away.refl [g] w).setCell (.inl (by simp)) _
theorem csP_set {p : Pk} (h : Ad p) (ov dv : Value) :
    (∀ n, (csP p ov dv).setIfInBounds 0 (.int .i64 n) = csP { p with v := n } ov dv) ∧ (∀ n, (csP p ov dv).setIfInBounds 1 (.int .i64 n) = csP { p with tos := n } ov dv) ∧ (∀ n, (csP p ov dv).setIfInBounds 2 (.int .i64 n) = csP { p with flow := n } ov dv) ∧
    (∀ n, (csP p ov dv).setIfInBounds 3 (.int .i64 n) = csP { p with sv := n } ov dv) ∧ (∀ n, (csP p ov dv).setIfInBounds 20 (.int .i64 n) = csP { p with dv := n } ov dv) ∧
    (∀ n, (csP p ov dv).setIfInBounds 37 (.int .i64 n) = csP { p with proto := n } ov dv) ∧ (∀ n, (csP p ov dv).setIfInBounds 38 (.int .i64 n) = csP { p with ttl := n } ov dv) ∧ (∀ n, (csP p ov dv).setIfInBounds 39 (.int .u32 n) = csP { p with id := n } ov dv) ∧
    (∀ n, (csP p ov dv).setIfInBounds 40 (.bool n) = csP { p with df := n } ov dv) ∧ (∀ n, (csP p ov dv).setIfInBounds 41 (.bool n) = csP { p with more := n } ov dv) ∧ (∀ n, (csP p ov dv).setIfInBounds 42 (.bool n) = csP { p with frag := n } ov dv) ∧
    (∀ n, (csP p ov dv).setIfInBounds 43 (.int .i64 n) = csP { p with off := n } ov dv) ∧ (∀ (l : List Int) x, (csP p ov dv).setIfInBounds 44 x = csP { p with o := l } x dv) ∧ (∀ (l : List Int) x, (csP p ov dv).setIfInBounds 45 x = csP { p with d := l } ov x) := by
  obtain ⟨v, tos, flow, sv, sb, dv', db, proto, ttl, id, df, more, frag, off, o, d⟩ := p
  obtain ⟨h1, h2⟩ := h
  simp only at h1 h2
  obtain ⟨b0, b1, b2, b3, b4, b5, b6, b7, b8, b9, b10, b11, b12, b13, b14, b15, rfl⟩ := list16 h1
  obtain ⟨c0, c1, c2, c3, c4, c5, c6, c7, c8, c9, c10, c11, c12, c13, c14, c15, rfl⟩ := list16 h2
  exact ⟨fun _ => rfl, fun _ => rfl, fun _ => rfl, fun _ => rfl, fun _ => rfl, fun _ => rfl, fun _ => rfl, fun _ => rfl, fun _ => rfl, fun _ => rfl, fun _ => rfl, fun _ => rfl, fun _ _ => rfl, fun _ _ => rfl⟩
end Go.Proofs.YtkccpidgeecemaaGreatDoor
