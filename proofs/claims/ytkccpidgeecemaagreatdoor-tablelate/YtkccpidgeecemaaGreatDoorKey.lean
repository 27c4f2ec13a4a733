/-
  Join.
-/
import Derived.Test.YtkccpidgeecemaaGreatDoorLp
import Derived.Test.YtkccpidgeecemaaGreatDoorEn
import Derived.Test.YtkccpidgeecemaaGreatDoorSameP
namespace Go.Proofs.YtkccpidgeecemaaGreatDoor
open Go.ChangeShapes Go.WideShapes Go.ChangeAt Go.RowKit Num
set_option linter.unusedVariables false
set_option maxHeartbeats 4000000
set_option maxRecDepth 100000
def listK (p : Pk) : List Value := .int .i64 p.v :: (cellsA p.sv p.sb ++ (cellsA p.dv p.db ++ [.int .i64 p.proto, .int .u32 p.id]))
def csK (p : Pk) : Array Value := (listK p).toArray
theorem csK_size {p : Pk} (h : Ad p) : (csK p).size = 37 := by simp [csK, listK, cellsA, h.1, h.2]
theorem csK_one (p : Pk) : (csK p).all (·.oneCell') = true := by
  simp only [Array.all_eq_true_iff_forall_mem]
  intro x hx
  simp [csK, listK, cellsA] at hx
  rcases hx with rfl | rfl | ⟨a, -, rfl⟩ | rfl | ⟨a, -, rfl⟩ | rfl | rfl <;> rfl
def zK : Array Value := csK zeroPk
theorem zero78 : (Tryz.prog.info? 55).bind (·.zero) = some (.agg zK) := by kernel_rfl
theorem info78 : (Tryz.prog.info? 55).map (·.size) = some 37 := by kernel_rfl
theorem run_build78 {p : Pk} (h : Ad p) (w : World) : (Instr.build 55 #[(0, .int .i64 p.v), (1, .agg (csA p.sv p.sb)), (2, .agg (csA p.dv p.db)), (3, .int .i64 p.proto), (4, .int .u32 p.id)]).run Tryz.prog w = .ok (.agg (csK p)) w := by
  obtain ⟨v, tos, flow, sv, sb, dv', db, proto, ttl, id, df, more, frag, off, o, d⟩ := p
  obtain ⟨h1, h2⟩ := h
  simp only at h1 h2
  obtain ⟨b0, b1, b2, b3, b4, b5, b6, b7, b8, b9, b10, b11, b12, b13, b14, b15, rfl⟩ := list16 h1
  obtain ⟨c0, c1, c2, c3, c4, c5, c6, c7, c8, c9, c10, c11, c12, c13, c14, c15, rfl⟩ := list16 h2
  kernel_rfl
theorem wpList_build78 {ops : Array Oper} {rest : List Oper} {o : Oper} {a : Act} {w : World} {Q : Exit → Act → World → Prop} (hg : o.guard = none) (x0 x1 x2 x3 x4 : Operand) (ho : o.op = .build 55 #[(0, x0), (1, x1), (2, x2), (3, x3), (4, x4)])
    (p : Pk) (ha : Ad p) (h0 : a.eval x0 = .int .i64 p.v) (h1 : a.eval x1 = .agg (csA p.sv p.sb)) (h2 : a.eval x2 = .agg (csA p.dv p.db)) (h3 : a.eval x3 = .int .i64 p.proto) (h4 : a.eval x4 = .int .u32 p.id)
    (h : wpList Tryz.prog ops Q rest (a.put o.dst (.agg (csK p))) w) : wpList Tryz.prog ops Q (o :: rest) a w := by
  refine wpList_plain hg fun K hK => ?_
  unfold Oper.wp execOp
  simp only [ho, List.map_toArray, List.map_cons, List.map_nil, h0, h1, h2, h3, h4, run_build78 ha, Sem.run_bind, Result.andThen_ok, Sem.run_pure]
  exact hK _ _ h
def BoxK (w : World) (g : Nat) (c : Array Value) : Prop := w.heap[g]? = some (.cells c 55 (0, 0))
theorem wpList_alloc78 {ops : Array Oper} {rest : List Oper} {o : Oper} {a : Act} {w : World} {Q : Exit → Act → World → Prop} (hg : o.guard = none) (ho : o.op = .alloc 55)
    (h : ∀ g w1, w.heap.size ≤ g → BoxK w1 g zK → Away [] w w1 → wpList Tryz.prog ops Q rest (a.put o.dst (.pointer (some ⟨g, 0, none⟩))) w1) : wpList Tryz.prog ops Q (o :: rest) a w := by
  have hz : (zeroValue 55).run Tryz.prog w = .ok (.agg zK) w := by
    have := zero78
    cases hi : Tryz.prog.info? 55 with
    | none => rw [hi] at this; simp at this
    | some i => rw [hi] at this; simp at this; simp [zeroValue, typeInfo, hi, this]
  refine wpList_plain hg fun K hK => ?_
  unfold Oper.wp execOp
  simp only [ho, Sem.run_bind, Instr.alloc, hz, newVar, newRow, run_newObj_alloc, Sem.run_pure, Result.andThen_ok]
  exact hK _ _ (h w.heap.size _ (Nat.le_refl _) (block_new _ _) ((Away.refl [] w).alloc _))
theorem wpList_store78 {ops : Array Oper} {rest : List Oper} {o : Oper} {a : Act} {w : World} {Q : Exit → Act → World → Prop} (hw : Region.wanted o (yielded ops a.tmps) = true) (x y : Operand) (ho : o.op = .store 55 x y)
    (g : Nat) (hx : a.eval x = .pointer (some ⟨g, 0, none⟩)) (p : Pk) (ha : Ad p) (hy : a.eval y = .agg (csK p)) (hb : BoxK w g zK)
    (h : ∀ w1, BoxK w1 g (csK p) → Away [g] w w1 → wpList Tryz.prog ops Q rest (a.put o.dst undef) w1) : wpList Tryz.prog ops Q (o :: rest) a w :=
  BigFrame.wpList_want hw fun K hK => wp_store_row 55 x y ho g (csK p) hx hy 55 zK hb (by rw [csK_size ha]; exact info78) (by rw [csK_size ha]; exact csK_size ⟨rfl, rfl⟩) (csK_one p) (hK _ _ (h _ (by
    unfold BoxK at hb ⊢; simp [World.setRow, Array.getElem?_modify, hb]) ((Away.refl [g] w).setRow (.inl (by simp)) _)))
theorem result78 {fn : Func} {t : Tmp} (h : fn.results = #[.cell t 55]) (tmps : Array Value) (w : World) (g : Nat) (p : Pk) (ht : tmps.getD t undef = .pointer (some ⟨g, 0, none⟩)) (hb : BoxK w g (csK p)) (ha : Ad p) :
    (results fn tmps).run Tryz.prog w = .ok (.agg (csK p)) w :=
  results_cell_row h tmps w g 55 (csK p) (0, 0) _ ht hb Tryz.underlying55 rfl (by rw [csK_size ha]; exact info78)
theorem key_c (p : Pk) (ov dv : Value) (w : World) (ha : Ad p) :
    Calls Tryz.prog 79 #[.agg (csP p ov dv)] w fun E w' => E = .returned (.agg (csK p)) ∧ Away [] w w' := by
  have HAD := Lib.hid ha
  clear ha
  go_enter Tryz.func79, Tryz.ntmps79
  go_wp2_with (refine wpList_box28 rfl _ rfl p _ _ rfl ?_; refine Hid.out ?_)
  refine Lib.hid ?_
  intro g1 w1 hg1 hb1 haw1
  have HB1 := Lib.hid hb1; have HA1 := Lib.hid haw1
  have hl1 := hb1.lt
  clear hb1 haw1
  go_wp2_with (refine wpList_alloc78 rfl rfl ?_; refine Hid.out ?_)
  refine Lib.hid ?_
  intro g2 w2 hg2 hb2 haw2
  have HB2 := Lib.hid hb2
  replace HB1 := Lib.hid (HB1.out.on haw2)
  replace HA1 := Lib.hid (HA1.out.next haw2 (by simp))
  have hs2 := haw2.size
  clear hb2 haw2
  have s0 := (HB1.out.cells HAD.out).v
  have s37 := (HB1.out.cells HAD.out).proto
  have s39 := (HB1.out.cells HAD.out).id
  go_wp2_with (first
    | (refine wpList_load24m rfl _ rfl g1 3 rfl p.sv p.sb (by exact HB1.out.srow) HAD.out.1 ?_)
    | (refine wpList_load24m rfl _ rfl g1 20 rfl p.dv p.db (by exact HB1.out.drow HAD.out) HAD.out.2 ?_)
    | (refine wpList_build78 rfl _ _ _ _ _ rfl p HAD.out rfl rfl rfl rfl rfl ?_)
    | (refine wpList_store78 rfl _ _ rfl g2 rfl p HAD.out rfl (by exact HB2.out) ?_; refine Hid.out ?_))
  refine Lib.hid ?_
  intro w3 hb3 haw3
  have HB3 := Lib.hid hb3
  have HA3 : Hid (Away [] w w3) := HA1.out.next haw3 (fun x hx => .inr (by simp at hx; omega))
  clear hb3 haw3 s0 s37 s39
  go_wp2_with fail
  exact bodyPost_ret (result78 rfl _ _ _ _ rfl HB3.out HAD.out) rfl ⟨rfl, HA3.out⟩
/-! Two keys. -/
def keyB (p q : Pk) : Bool := decide (p.v = q.v) && ((decide (p.sv = q.sv) && eqL p.sb q.sb) && ((decide (p.dv = q.dv) && eqL p.db q.db) && (decide (p.proto = q.proto) && decide (p.id = q.id))))
theorem held78 : Tryz.prog.stoodInHeld 55 = false := by kernel_rfl
theorem guard78 : Tryz.prog.eqGuardType Tryz.prog.depth 55 = false := by kernel_rfl
theorem fields78 : (Tryz.prog.fieldsOf 55).toList.map (fun f => (f.name, f.type, f.offset)) = [("V", 3, 0), ("Src", 35, 1), ("Dst", 35, 18), ("Proto", 3, 35), ("ID", 36, 36)] := by kernel_rfl
theorem csK_get {p : Pk} (h : Ad p) : (csK p)[0]? = some (.int .i64 p.v) ∧ (csK p)[35]? = some (.int .i64 p.proto) ∧ (csK p)[36]? = some (.int .u32 p.id) ∧ (csK p).extract 1 18 = csA p.sv p.sb ∧ (csK p).extract 18 35 = csA p.dv p.db := by
  obtain ⟨v, tos, flow, sv, sb, dv', db, proto, ttl, id, df, more, frag, off, o, d⟩ := p
  obtain ⟨h1, h2⟩ := h
  simp only at h1 h2
  obtain ⟨b0, b1, b2, b3, b4, b5, b6, b7, b8, b9, b10, b11, b12, b13, b14, b15, rfl⟩ := list16 h1
  obtain ⟨c0, c1, c2, c3, c4, c5, c6, c7, c8, c9, c10, c11, c12, c13, c14, c15, rfl⟩ := list16 h2
  exact ⟨rfl, rfl, rfl, by kernel_rfl, by kernel_rfl⟩
theorem part24 {p : Pk} (h : Ad p) (w : World) : (part 35 (csK p) 1).run Tryz.prog w = .ok (.agg (csA p.sv p.sb)) w ∧ (part 35 (csK p) 18).run Tryz.prog w = .ok (.agg (csA p.dv p.db)) w := by
  have h24 : (isAgg 35).run Tryz.prog w = .ok true w := by kernel_rfl
  obtain ⟨-, -, -, e1, e2⟩ := csK_get h
  constructor
  · simp [part, h24, e1, csK_size h]
  · simp [part, h24, e2, csK_size h]
theorem eq78' (d : Nat) (p q : Pk) (hp : Ad p) (hq : Ad q) (w : World) :
    (Op.equalIn (d + 4) 55 (.agg (csK p)) (.agg (csK q))).run Tryz.prog w = .ok (keyB p q) w := by
  have hf : ∃ f1 f2 f3 f4 f5 : Field, (Tryz.prog.fieldsOf 55).toList = [f1, f2, f3, f4, f5] ∧ (f1.name ≠ "_" ∧ f1.type = 3 ∧ f1.offset = 0) ∧ (f2.name ≠ "_" ∧ f2.type = 35 ∧ f2.offset = 1) ∧ (f3.name ≠ "_" ∧ f3.type = 35 ∧ f3.offset = 18) ∧ (f4.name ≠ "_" ∧ f4.type = 3 ∧ f4.offset = 35) ∧ (f5.name ≠ "_" ∧ f5.type = 36 ∧ f5.offset = 36) := by
    have h := fields78
    generalize (Tryz.prog.fieldsOf 55).toList = fs at h
    rcases fs with _ | ⟨f1, _ | ⟨f2, _ | ⟨f3, _ | ⟨f4, _ | ⟨f5, _ | ⟨f6, fs⟩⟩⟩⟩⟩⟩ <;> simp at h
    obtain ⟨⟨a1, a2, a3⟩, ⟨b1, b2, b3⟩, ⟨c1, c2, c3⟩, ⟨d1, d2, d3⟩, e1, e2, e3⟩ := h
    exact ⟨f1, f2, f3, f4, f5, rfl, ⟨by rw [a1]; decide, a2, a3⟩, ⟨by rw [b1]; decide, b2, b3⟩, ⟨by rw [c1]; decide, c2, c3⟩, ⟨by rw [d1]; decide, d2, d3⟩, ⟨by rw [e1]; decide, e2, e3⟩⟩
  obtain ⟨f1, f2, f3, f4, f5, hfs, ⟨n1, t1, o1⟩, ⟨n2, t2, o2⟩, ⟨n3, t3, o3⟩, ⟨n4, t4, o4⟩, n5, t5, o5⟩ := hf
  obtain ⟨p0, p35, p36, -, -⟩ := csK_get hp
  obtain ⟨q0, q35, q36, -, -⟩ := csK_get hq
  have a1 := part_int 3 .i64 Tryz.underlying3 (csK p) 0 _ p0 w
  have b1 := part_int 3 .i64 Tryz.underlying3 (csK q) 0 _ q0 w
  have a2 := (part24 hp w).1
  have b2 := (part24 hq w).1
  have a3 := (part24 hp w).2
  have b3 := (part24 hq w).2
  have a4 := part_int 3 .i64 Tryz.underlying3 (csK p) 35 _ p35 w
  have b4 := part_int 3 .i64 Tryz.underlying3 (csK q) 35 _ q35 w
  have a5 := part_int 36 .u32 Tryz.underlying36 (csK p) 36 _ p36 w
  have b5 := part_int 36 .u32 Tryz.underlying36 (csK q) 36 _ q36 w
  have e1 := run_equalIn_int w (d + 2) 3 .i64 .i64 p.v q.v Tryz.underlying3
  have e2 := eq24' d p.sv q.sv p.sb q.sb hp.1 hq.1 w
  have e3 := eq24' d p.dv q.dv p.db q.db hp.2 hq.2 w
  have e4 := run_equalIn_int w (d + 2) 3 .i64 .i64 p.proto q.proto Tryz.underlying3
  have e5 := run_equalIn_int w (d + 2) 36 .u32 .u32 p.id q.id Tryz.underlying36
  unfold keyB
  rw [show d + 4 = (d + 3) + 1 from rfl, run_equalIn_struct w (d + 3) 55 _ _ (by kernel_rfl) held78, hfs]
  rw [Op.eqFields, if_pos n1, t1, o1, Sem.run_bind, a1, Result.andThen_ok, Sem.run_bind, b1, Result.andThen_ok, Sem.run_bind, e1, Result.andThen_ok]
  by_cases h1 : p.v = q.v
  · rw [if_neg (by simp [h1]), decide_eq_true h1, Bool.true_and, Op.eqFields, if_pos n2, t2, o2, Sem.run_bind, a2, Result.andThen_ok, Sem.run_bind, b2, Result.andThen_ok, Sem.run_bind, e2, Result.andThen_ok]
    generalize (decide (p.sv = q.sv) && eqL p.sb q.sb) = z2
    cases z2
    · rw [if_pos (by simp)]; simp
    rw [if_neg (by simp), Bool.true_and, Op.eqFields, if_pos n3, t3, o3, Sem.run_bind, a3, Result.andThen_ok, Sem.run_bind, b3, Result.andThen_ok, Sem.run_bind, e3, Result.andThen_ok]
    generalize (decide (p.dv = q.dv) && eqL p.db q.db) = z3
    cases z3
    · rw [if_pos (by simp)]; simp
    rw [if_neg (by simp), Bool.true_and, Op.eqFields, if_pos n4, t4, o4, Sem.run_bind, a4, Result.andThen_ok, Sem.run_bind, b4, Result.andThen_ok, Sem.run_bind, e4, Result.andThen_ok]
    by_cases h4 : p.proto = q.proto
    · rw [if_neg (by simp [h4]), decide_eq_true h4, Bool.true_and, Op.eqFields, if_pos n5, t5, o5, Sem.run_bind, a5, Result.andThen_ok, Sem.run_bind, b5, Result.andThen_ok, Sem.run_bind, e5, Result.andThen_ok]
      by_cases h5 : p.id = q.id
      · rw [if_neg (by simp [h5])]; simp [h5, Op.eqFields]
      · rw [if_pos (by simp [h5])]; simp [h5]
    · rw [if_pos (by simp [h4])]; simp [h4]
  · rw [if_pos (by simp [h1])]; simp [h1]
theorem eq78 (p q : Pk) (hp : Ad p) (hq : Ad q) (w : World) : (Op.equalIn 10000 55 (.agg (csK p)) (.agg (csK q))).run Tryz.prog w = .ok (keyB p q) w := eq78' 9996 p q hp hq w
end Go.Proofs.YtkccpidgeecemaaGreatDoor
namespace Go.Proofs.YtkccpidgeecemaaGreatDoor
open Go.ChangeShapes Go.WideShapes Go.ChangeAt Go.RowKit Num S6
set_option linter.unusedVariables false
set_option maxHeartbeats 4000000
set_option maxRecDepth 100000
end Go.Proofs.YtkccpidgeecemaaGreatDoor
