/-
  Join.
-/
import Derived.Test.YtaicckenpplceaaGreatDoorRecM
import Derived.Test.YtaicckenpplceaaGreatDoorShelf
namespace Go.Proofs.YtaicckenpplceaaGreatDoor
open Go.ChangeShapes Go.WideShapes Go.ChangeAt Go.RowKit Num
set_option linter.unusedVariables false
set_option maxHeartbeats 4000000
set_option maxRecDepth 100000

namespace R
def listK (p : Pk) : List Value := .int .i64 p.v :: (cellsA p.sv p.sb ++ (cellsA p.dv p.db ++ [.int .i64 p.proto, .int .u32 p.id]))
def csK (p : Pk) : Array Value := (listK p).toArray
theorem csK_size {p : Pk} (h : Ad p) : (csK p).size = 37 := by simp [csK, listK, cellsA, h.1, h.2]
theorem csK_one (p : Pk) : (csK p).all (·.oneCell') = true := by
  simp only [Array.all_eq_true_iff_forall_mem]
  intro x hx
  simp [csK, listK, cellsA] at hx
  rcases hx with rfl | rfl | ⟨a, -, rfl⟩ | rfl | ⟨a, -, rfl⟩ | rfl | rfl <;> rfl
def zK : Array Value := csK zeroPk
theorem zero78 : (Tryz.prog.info? 54).bind (·.zero) = some (.agg zK) := by kernel_rfl
theorem info78 : (Tryz.prog.info? 54).map (·.size) = some 37 := by kernel_rfl
theorem run_build78 {p : Pk} (h : Ad p) (w : World) : (Instr.build 54 #[(0, .int .i64 p.v), (1, .agg (csA p.sv p.sb)), (2, .agg (csA p.dv p.db)), (3, .int .i64 p.proto), (4, .int .u32 p.id)]).run Tryz.prog w = .ok (.agg (csK p)) w := by
  obtain ⟨v, tos, flow, sv, sb, dv', db, proto, ttl, id, df, more, frag, off, o, d⟩ := p
  obtain ⟨h1, h2⟩ := h
  simp only at h1 h2
  obtain ⟨b0, b1, b2, b3, b4, b5, b6, b7, b8, b9, b10, b11, b12, b13, b14, b15, rfl⟩ := list16 h1
  obtain ⟨c0, c1, c2, c3, c4, c5, c6, c7, c8, c9, c10, c11, c12, c13, c14, c15, rfl⟩ := list16 h2
  kernel_rfl
theorem wpList_build78 {ops : Array Oper} {rest : List Oper} {o : Oper} {a : Act} {w : World} {Q : Exit → Act → World → Prop} (hg : o.guard = none) (x0 x1 x2 x3 x4 : Operand) (ho : o.op = .build 54 #[(0, x0), (1, x1), (2, x2), (3, x3), (4, x4)])
    (p : Pk) (ha : Ad p) (h0 : a.eval x0 = .int .i64 p.v) (h1 : a.eval x1 = .agg (csA p.sv p.sb)) (h2 : a.eval x2 = .agg (csA p.dv p.db)) (h3 : a.eval x3 = .int .i64 p.proto) (h4 : a.eval x4 = .int .u32 p.id)
    (h : wpList Tryz.prog ops Q rest (a.put o.dst (.agg (csK p))) w) : wpList Tryz.prog ops Q (o :: rest) a w := by
  refine wpList_plain hg fun K hK => ?_
  unfold Oper.wp execOp
  simp only [ho, List.map_toArray, List.map_cons, List.map_nil, h0, h1, h2, h3, h4, run_build78 ha, Sem.run_bind, Result.andThen_ok, Sem.run_pure]
  exact hK _ _ h
def BoxK (w : World) (g : Nat) (c : Array Value) : Prop := w.heap[g]? = some (.cells c 54 (0, 0))
theorem wpList_alloc78 {ops : Array Oper} {rest : List Oper} {o : Oper} {a : Act} {w : World} {Q : Exit → Act → World → Prop} (hg : o.guard = none) (ho : o.op = .alloc 54)
    (h : ∀ g w1, w.heap.size ≤ g → BoxK w1 g zK → Away [] w w1 → wpList Tryz.prog ops Q rest (a.put o.dst (.pointer (some ⟨g, 0, none⟩))) w1) : wpList Tryz.prog ops Q (o :: rest) a w := by
  have hz : (zeroValue 54).run Tryz.prog w = .ok (.agg zK) w := by
    have := zero78
    cases hi : Tryz.prog.info? 54 with
    | none => rw [hi] at this; simp at this
    | some i => rw [hi] at this; simp at this; simp [zeroValue, typeInfo, hi, this]
  refine wpList_plain hg fun K hK => ?_
  unfold Oper.wp execOp
  simp only [ho, Sem.run_bind, Instr.alloc, hz, newVar, newRow, run_newObj_alloc, Sem.run_pure, Result.andThen_ok]
  exact hK _ _ (h w.heap.size _ (Nat.le_refl _) (block_new _ _) ((Away.refl [] w).alloc _))
theorem wpList_store78 {ops : Array Oper} {rest : List Oper} {o : Oper} {a : Act} {w : World} {Q : Exit → Act → World → Prop} (hw : Region.wanted o (yielded ops a.tmps) = true) (x y : Operand) (ho : o.op = .store 54 x y)
    (g : Nat) (hx : a.eval x = .pointer (some ⟨g, 0, none⟩)) (p : Pk) (ha : Ad p) (hy : a.eval y = .agg (csK p)) (hb : BoxK w g zK)
    (h : ∀ w1, BoxK w1 g (csK p) → Away [g] w w1 → wpList Tryz.prog ops Q rest (a.put o.dst undef) w1) : wpList Tryz.prog ops Q (o :: rest) a w :=
  BigFrame.wpList_want hw fun K hK => wp_store_row 54 x y ho g (csK p) hx hy 54 zK hb (by rw [csK_size ha]; exact info78) (by rw [csK_size ha]; exact csK_size ⟨rfl, rfl⟩) (csK_one p) (hK _ _ (h _ (by
    unfold BoxK at hb ⊢; simp [World.setRow, Array.getElem?_modify, hb]) ((Away.refl [g] w).setRow (.inl (by simp)) _)))
theorem result78 {fn : Func} {t : Tmp} (h : fn.results = #[.cell t 54]) (tmps : Array Value) (w : World) (g : Nat) (p : Pk) (ht : tmps.getD t undef = .pointer (some ⟨g, 0, none⟩)) (hb : BoxK w g (csK p)) (ha : Ad p) :
    (results fn tmps).run Tryz.prog w = .ok (.agg (csK p)) w :=
  results_cell_row h tmps w g 54 (csK p) (0, 0) _ ht hb Tryz.underlying54 rfl (by rw [csK_size ha]; exact info78)
/-- keyOf. -/
theorem key_c (p : Pk) (ov dv : Value) (w : World) (ha : Ad p) :
    Calls Tryz.prog 27 #[.agg (csP p ov dv)] w fun E w' => E = .returned (.agg (csK p)) ∧ Away [] w w' := by
  have HAD := Lib.hid ha
  clear ha
  go_enter Tryz.func27, Tryz.ntmps27
  go_wp2_with (refine wpList_box28 rfl _ rfl p _ _ rfl ?_; refine Hid.out ?_)
  refine Lib.hid ?_
  intro g1 w1 hg1 hb1 haw1
  have HB1 := Lib.hid hb1; have HA1 := Lib.hid haw1
  have hl1 := hb1.lt
  clear hb1 haw1
  go_wp2_with (refine wpList_alloc78 rfl rfl ?_; refine Hid.out ?_)
  refine Lib.hid ?_
  intro g2 w2 hg2 hb2 haw2
  have HB2 := Lib.hid hb2
  replace HB1 := Lib.hid (HB1.out.on haw2)
  replace HA1 := Lib.hid (HA1.out.next haw2 (by simp))
  have hs2 := haw2.size
  clear hb2 haw2
  have s0 := (HB1.out.cells HAD.out).v
  have s37 := (HB1.out.cells HAD.out).proto
  have s39 := (HB1.out.cells HAD.out).id
  go_wp2_with (first
    | (refine wpList_load24m rfl _ rfl g1 3 rfl p.sv p.sb (by exact HB1.out.srow) HAD.out.1 ?_)
    | (refine wpList_load24m rfl _ rfl g1 20 rfl p.dv p.db (by exact HB1.out.drow HAD.out) HAD.out.2 ?_)
    | (refine wpList_build78 rfl _ _ _ _ _ rfl p HAD.out rfl rfl rfl rfl rfl ?_)
    | (refine wpList_store78 rfl _ _ rfl g2 rfl p HAD.out rfl (by exact HB2.out) ?_; refine Hid.out ?_))
  refine Lib.hid ?_
  intro w3 hb3 haw3
  have HB3 := Lib.hid hb3
  have HA3 : Hid (Away [] w w3) := HA1.out.next haw3 (fun x hx => .inr (by simp at hx; omega))
  clear hb3 haw3 s0 s37 s39
  go_wp2_with fail
  exact bodyPost_ret (result78 rfl _ _ _ _ rfl HB3.out HAD.out) rfl ⟨rfl, HA3.out⟩
/-! Two keys. -/
def keyB (p q : Pk) : Bool := decide (p.v = q.v) && ((decide (p.sv = q.sv) && eqL p.sb q.sb) && ((decide (p.dv = q.dv) && eqL p.db q.db) && (decide (p.proto = q.proto) && decide (p.id = q.id))))
theorem held78 : Tryz.prog.stoodInHeld 54 = false := by kernel_rfl
theorem guard78 : Tryz.prog.eqGuardType Tryz.prog.depth 54 = false := by kernel_rfl
theorem fields78 : (Tryz.prog.fieldsOf 54).toList.map (fun f => (f.name, f.type, f.offset)) = [("V", 3, 0), ("Src", 25, 1), ("Dst", 25, 18), ("Proto", 3, 35), ("ID", 26, 36)] := by kernel_rfl
theorem csK_get {p : Pk} (h : Ad p) : (csK p)[0]? = some (.int .i64 p.v) ∧ (csK p)[35]? = some (.int .i64 p.proto) ∧ (csK p)[36]? = some (.int .u32 p.id) ∧ (csK p).extract 1 18 = csA p.sv p.sb ∧ (csK p).extract 18 35 = csA p.dv p.db := by
  obtain ⟨v, tos, flow, sv, sb, dv', db, proto, ttl, id, df, more, frag, off, o, d⟩ := p
  obtain ⟨h1, h2⟩ := h
  simp only at h1 h2
  obtain ⟨b0, b1, b2, b3, b4, b5, b6, b7, b8, b9, b10, b11, b12, b13, b14, b15, rfl⟩ := list16 h1
  obtain ⟨c0, c1, c2, c3, c4, c5, c6, c7, c8, c9, c10, c11, c12, c13, c14, c15, rfl⟩ := list16 h2
  exact ⟨rfl, rfl, rfl, by kernel_rfl, by kernel_rfl⟩
theorem part24 {p : Pk} (h : Ad p) (w : World) : (part 25 (csK p) 1).run Tryz.prog w = .ok (.agg (csA p.sv p.sb)) w ∧ (part 25 (csK p) 18).run Tryz.prog w = .ok (.agg (csA p.dv p.db)) w := by
  have h24 : (isAgg 25).run Tryz.prog w = .ok true w := by kernel_rfl
  obtain ⟨-, -, -, e1, e2⟩ := csK_get h
  constructor
  · simp [part, h24, e1, csK_size h]
  · simp [part, h24, e2, csK_size h]
theorem eq78' (d : Nat) (p q : Pk) (hp : Ad p) (hq : Ad q) (w : World) :
    (Op.equalIn (d + 4) 54 (.agg (csK p)) (.agg (csK q))).run Tryz.prog w = .ok (keyB p q) w := by
  have hf : ∃ f1 f2 f3 f4 f5 : Field, (Tryz.prog.fieldsOf 54).toList = [f1, f2, f3, f4, f5] ∧ (f1.name ≠ "_" ∧ f1.type = 3 ∧ f1.offset = 0) ∧ (f2.name ≠ "_" ∧ f2.type = 25 ∧ f2.offset = 1) ∧ (f3.name ≠ "_" ∧ f3.type = 25 ∧ f3.offset = 18) ∧ (f4.name ≠ "_" ∧ f4.type = 3 ∧ f4.offset = 35) ∧ (f5.name ≠ "_" ∧ f5.type = 26 ∧ f5.offset = 36) := by
    have h := fields78
    generalize (Tryz.prog.fieldsOf 54).toList = fs at h
    rcases fs with _ | ⟨f1, _ | ⟨f2, _ | ⟨f3, _ | ⟨f4, _ | ⟨f5, _ | ⟨f6, fs⟩⟩⟩⟩⟩⟩ <;> simp at h
    obtain ⟨⟨a1, a2, a3⟩, ⟨b1, b2, b3⟩, ⟨c1, c2, c3⟩, ⟨d1, d2, d3⟩, e1, e2, e3⟩ := h
    exact ⟨f1, f2, f3, f4, f5, rfl, ⟨by rw [a1]; decide, a2, a3⟩, ⟨by rw [b1]; decide, b2, b3⟩, ⟨by rw [c1]; decide, c2, c3⟩, ⟨by rw [d1]; decide, d2, d3⟩, ⟨by rw [e1]; decide, e2, e3⟩⟩
  obtain ⟨f1, f2, f3, f4, f5, hfs, ⟨n1, t1, o1⟩, ⟨n2, t2, o2⟩, ⟨n3, t3, o3⟩, ⟨n4, t4, o4⟩, n5, t5, o5⟩ := hf
  obtain ⟨p0, p35, p36, -, -⟩ := csK_get hp
  obtain ⟨q0, q35, q36, -, -⟩ := csK_get hq
  have a1 := part_int 3 .i64 Tryz.underlying3 (csK p) 0 _ p0 w
  have b1 := part_int 3 .i64 Tryz.underlying3 (csK q) 0 _ q0 w
  have a2 := (part24 hp w).1
  have b2 := (part24 hq w).1
  have a3 := (part24 hp w).2
  have b3 := (part24 hq w).2
  have a4 := part_int 3 .i64 Tryz.underlying3 (csK p) 35 _ p35 w
  have b4 := part_int 3 .i64 Tryz.underlying3 (csK q) 35 _ q35 w
  have a5 := part_int 26 .u32 Tryz.underlying26 (csK p) 36 _ p36 w
  have b5 := part_int 26 .u32 Tryz.underlying26 (csK q) 36 _ q36 w
  have e1 := run_equalIn_int w (d + 2) 3 .i64 .i64 p.v q.v Tryz.underlying3
  have e2 := eq24' d p.sv q.sv p.sb q.sb hp.1 hq.1 w
  have e3 := eq24' d p.dv q.dv p.db q.db hp.2 hq.2 w
  have e4 := run_equalIn_int w (d + 2) 3 .i64 .i64 p.proto q.proto Tryz.underlying3
  have e5 := run_equalIn_int w (d + 2) 26 .u32 .u32 p.id q.id Tryz.underlying26
  unfold keyB
  rw [show d + 4 = (d + 3) + 1 from rfl, run_equalIn_struct w (d + 3) 54 _ _ (by kernel_rfl) held78, hfs]
  rw [Op.eqFields, if_pos n1, t1, o1, Sem.run_bind, a1, Result.andThen_ok, Sem.run_bind, b1, Result.andThen_ok, Sem.run_bind, e1, Result.andThen_ok]
  by_cases h1 : p.v = q.v
  · rw [if_neg (by simp [h1]), decide_eq_true h1, Bool.true_and, Op.eqFields, if_pos n2, t2, o2, Sem.run_bind, a2, Result.andThen_ok, Sem.run_bind, b2, Result.andThen_ok, Sem.run_bind, e2, Result.andThen_ok]
    generalize (decide (p.sv = q.sv) && eqL p.sb q.sb) = z2
    cases z2
    · rw [if_pos (by simp)]; simp
    rw [if_neg (by simp), Bool.true_and, Op.eqFields, if_pos n3, t3, o3, Sem.run_bind, a3, Result.andThen_ok, Sem.run_bind, b3, Result.andThen_ok, Sem.run_bind, e3, Result.andThen_ok]
    generalize (decide (p.dv = q.dv) && eqL p.db q.db) = z3
    cases z3
    · rw [if_pos (by simp)]; simp
    rw [if_neg (by simp), Bool.true_and, Op.eqFields, if_pos n4, t4, o4, Sem.run_bind, a4, Result.andThen_ok, Sem.run_bind, b4, Result.andThen_ok, Sem.run_bind, e4, Result.andThen_ok]
    by_cases h4 : p.proto = q.proto
    · rw [if_neg (by simp [h4]), decide_eq_true h4, Bool.true_and, Op.eqFields, if_pos n5, t5, o5, Sem.run_bind, a5, Result.andThen_ok, Sem.run_bind, b5, Result.andThen_ok, Sem.run_bind, e5, Result.andThen_ok]
      by_cases h5 : p.id = q.id
      · rw [if_neg (by simp [h5])]; simp [h5, Op.eqFields]
      · rw [if_pos (by simp [h5])]; simp [h5]
    · rw [if_pos (by simp [h4])]; simp [h4]
  · rw [if_pos (by simp [h1])]; simp [h1]
theorem eq78 (p q : Pk) (hp : Ad p) (hq : Ad q) (w : World) : (Op.equalIn 10000 54 (.agg (csK p)) (.agg (csK q))).run Tryz.prog w = .ok (keyB p q) w := eq78' 9996 p q hp hq w
theorem quiet_ne78 {o : Oper} {a : Act} {C : World → Prop} {K : Act → Prop} (x y : Operand) (ho : o.op = .binOp .neq 54 x y 54) (c1 c2 : Array Value) (hx : a.eval x = .agg c1) (hy : a.eval y = .agg c2) (b : Bool) (hq : ∀ w, (Op.equalIn 10000 54 (.agg c1) (.agg c2)).run Tryz.prog w = .ok b w) (hk : K (a.put o.dst (.bool (!b)))) : o.quiet Tryz.prog a C K :=
  S6.quiet_val _ (fun w => by
    have hg := guard78
    unfold execOp
    simp only [ho, hx, hy]
    simp [go_sem, hq, hg]) hk
end R
#print axioms R.eq78
end Go.Proofs.YtaicckenpplceaaGreatDoor

namespace Go.Proofs.YtaicckenpplceaaGreatDoor
open Go.ChangeShapes Go.WideShapes Go.ChangeAt Go.RowKit Num S6
set_option linter.unusedVariables false
set_option maxHeartbeats 4000000
set_option maxRecDepth 100000

namespace R
def likeB (h p : Pk) : Bool := rgtP p && keyB p h
def akinL : List Pk → Bool
  | [] => true
  | h :: r => (h :: r).all (likeB h)
theorem take_succ_all {α : Type} (f : α → Bool) (l : List α) (k : Nat) (x : α) (hx : l[k]? = some x) (h : (l.take k).all f = true) : (l.take (k + 1)).all f = f x := by
  have hk := lt_of_get hx
  have e : l[k] = x := by rw [List.getElem?_eq_getElem hk] at hx; simpa using hx
  rw [List.take_succ_eq_append_getElem hk, List.all_append, h, e]; simp
theorem all_false {α : Type} (f : α → Bool) (l : List α) (x : α) (hx : x ∈ l) (h : f x = false) : l.all f = false := by
  rw [List.all_eq_false]; exact ⟨x, hx, by simp [h]⟩
/-- A packet of a list, laid into a variable of its own. -/
theorem wpList_pick28 {ops : Array Oper} {rest : List Oper} {o1 o2 o3 : Oper} {a : Act} {w : World} {Q : Exit → Act → World → Prop} (hg1 : o1.guard = none) (x : Operand) (ho1 : o1.op = .load 29 x) (hg2 : o2.guard = none) (ho2 : o2.op = .alloc 29) (hg3 : o3.guard = none) (y z : Operand) (ho3 : o3.op = .store 29 y z)
    (b k : Nat) (hx : a.eval x = .pointer (some ⟨b, k, none⟩)) (p : Pk) (ov dv : Value) (hc : w.rangeAt b k (listP p ov dv)) (ha : Ad p) (h1 : ov.oneCell' = true) (h2 : dv.oneCell' = true)
    (hy : ∀ g, ((a.put o1.dst (.agg (csP p ov dv))).put o2.dst (.pointer (some ⟨g, 0, none⟩))).eval y = .pointer (some ⟨g, 0, none⟩)) (hz : ∀ g, ((a.put o1.dst (.agg (csP p ov dv))).put o2.dst (.pointer (some ⟨g, 0, none⟩))).eval z = .agg (csP p ov dv))
    (h : ∀ g w1, w.heap.size ≤ g → BoxP w1 g p ov dv → Away [] w w1 → wpList Tryz.prog ops Q rest (((a.put o1.dst (.agg (csP p ov dv))).put o2.dst (.pointer (some ⟨g, 0, none⟩))).put o3.dst undef) w1) : wpList Tryz.prog ops Q (o1 :: o2 :: o3 :: rest) a w :=
  wpList_load28m (by simp [Region.wanted, hg1]) x ho1 b k hx p ov dv hc ha (wpList_new28 hg2 ho2 hg3 y z ho3 p ov dv hy hz ha h1 h2 h)
theorem akin_c (a : Option Addr) (xs : List X) (n cap : Nat) (w : World) (hn : xs.length = n) (hx : Pks w a xs) (hg : Glob w) :
    Calls Tryz.prog 9 #[.slice a n cap] w fun E w' => E = .returned (.bool (akinL (xs.map X.p))) ∧ Away [] w w' := by
  have HX := Lib.hid hx; have HG := Lib.hid hg; have HN := Lib.hid hn
  have hxl := hx.1
  rw [hn] at hxl
  obtain ⟨hd, hhd⟩ : ∃ hd : X, ∀ x, xs[0]? = some x → x = hd := by
    cases xs with
    | nil => exact ⟨⟨zeroPk, undef, undef⟩, by simp⟩
    | cons y r => exact ⟨y, by simp⟩
  have HHD := Lib.hid hhd
  have HAK : Hid (akinL (xs.map X.p) = xs.all (fun x => likeB hd.p x.p)) := by
    show _ = _
    cases xs with
    | nil => rfl
    | cons y r =>
      have := hhd y rfl
      subst this
      show ((y :: r).map X.p).all (likeB y.p) = _
      rw [List.all_map]; rfl
  obtain ⟨z, hz⟩ : ∃ z, z = akinL (xs.map X.p) := ⟨_, rfl⟩
  rw [← hz]
  have HZ : Hid (z = xs.all (fun x => likeB hd.p x.p)) := by show _ = _; rw [hz]; exact HAK.out
  clear hz HAK hhd hx hg hn
  go_enter Tryz.func9, Tryz.ntmps9
  go_wp2_with fail
  go_loopw [7] (fun i wr => ∃ k : Nat, i = .int .i64 (k : Int) ∧ k ≤ n ∧ (xs.take k).all (fun x => likeB hd.p x.p) = true ∧ Away [] w wr) (fun i _ => n - (intOf i).toNat)
  case atStart => exact ⟨0, rfl, by omega, by simp, Away.refl _ _⟩
  case round =>
    obtain ⟨k, rfl, hk, hall, haw⟩ := hrel
    have HALL := Lib.hid hall; have HAW := Lib.hid haw
    clear hall haw
    by_cases hlt : k < n
    · obtain ⟨x, hxk, hxm⟩ := get_of (show k < xs.length by have := HN.out; omega)
      obtain ⟨x0, hx0, hxm0⟩ := get_of (show 0 < xs.length by have := HN.out; omega)
      obtain rfl := HHD.out x0 hx0
      obtain ⟨xb, xo, hxa, hrx, hokx⟩ := (HX.out.on HAW.out).at hxk
      subst hxa
      obtain ⟨b', o', hbo, hr0, hok0⟩ := (HX.out.on HAW.out).at hx0
      obtain ⟨rfl, rfl⟩ : xb = b' ∧ xo = o' := by simpa using hbo
      have HXK := Lib.hid hxk; have HXM := Lib.hid hxm
      have HRX : Hid (wr.rangeAt xb (xo + k * 46) (listP x.p x.o x.d)) := hrx
      have HR0 : Hid (wr.rangeAt xb xo (listP x0.p x0.o x0.d)) := by
        have : wr.rangeAt xb (xo + 0 * 46) (listP x0.p x0.o x0.d) := hr0
        show wr.rangeAt xb xo (listP x0.p x0.o x0.d)
        simpa using this
      have HOK : Hid (Pkt wr x.p x.o x.d) := hokx
      have HAX := Lib.hid hokx.wf.ad; have HA0 := Lib.hid hok0.wf.ad
      have HOV := Lib.hid hokx.ov; have HDV := Lib.hid hokx.dv
      have HGr := Lib.hid (HG.out.on HAW.out)
      clear hxk hx0 hxm hxm0 hrx hokx hbo hr0 hok0
      have i2 : 0 ≤ (k : Int) := by omega
      have i3 : (k : Int) < (n : Int) := by omega
      have i4 : ((k : Int)).toNat = k := by omega
      go_wp2_with (refine wpList_pick28 rfl _ rfl rfl rfl rfl _ _ rfl xb (xo + k * 46) rfl x.p x.o x.d (by exact HRX.out) HAX.out HOV.out HDV.out (fun g => rfl) (fun g => rfl) ?_; refine Hid.out ?_)
      refine Lib.hid ?_
      intro g4 v1 hg4 hb4 haw4
      replace HR0 := Lib.hid (range_away haw4 (by simp) HR0.out)
      replace HOK := Lib.hid (HOK.out.on haw4)
      replace HGr := Lib.hid (HGr.out.on haw4)
      replace HAW := Lib.hid (HAW.out.on haw4)
      have HB4 := Lib.hid hb4
      clear hb4 haw4 hg4 HRX
      obtain ⟨lx, hlx⟩ : ∃ z, z = longP x.p := ⟨_, rfl⟩
      have HLX := Lib.hid hlx
      clear hlx
      obtain ⟨bk, hbk⟩ : ∃ z, z = keyB x.p x0.p := ⟨_, rfl⟩
      have HBK := Lib.hid hbk
      clear hbk
      have KL : Hid (∀ W, (Away [] v1 W ∧ BoxP W g4 x.p x.o x.d) → Calls Tryz.prog 17 #[.agg (csP x.p x.o x.d)] W fun E w'' => E = .returned (.int .i64 lx) ∧ (Away [] v1 w'' ∧ BoxP w'' g4 x.p x.o x.d)) := fun W hW => by rw [HLX.out]; exact (length_c x.p x.o x.d W (HOK.out.on hW.1) (HGr.out.on hW.1)).mono fun E w'' h => ⟨h.1, hW.1.on h.2, hW.2.on h.2⟩
      have K1 : Hid (∀ W, (Away [] v1 W ∧ BoxP W g4 x.p x.o x.d) → Calls Tryz.prog 27 #[.agg (csP x.p x.o x.d)] W fun E w'' => E = .returned (.agg (csK x.p)) ∧ (Away [] v1 w'' ∧ BoxP w'' g4 x.p x.o x.d)) := fun W hW => (key_c x.p x.o x.d W HAX.out).mono fun E w'' h => ⟨h.1, hW.1.on h.2, hW.2.on h.2⟩
      have K0 : Hid (∀ W, (Away [] v1 W ∧ BoxP W g4 x.p x.o x.d) → Calls Tryz.prog 27 #[.agg (csP x0.p x0.o x0.d)] W fun E w'' => E = .returned (.agg (csK x0.p)) ∧ (Away [] v1 w'' ∧ BoxP w'' g4 x.p x.o x.d)) := fun W hW => (key_c x0.p x0.o x0.d W HA0.out).mono fun E w'' h => ⟨h.1, hW.1.on h.2, hW.2.on h.2⟩
      have HQ : Hid (∀ w, (Op.equalIn 10000 54 (.agg (csK x.p)) (.agg (csK x0.p))).run Tryz.prog w = .ok bk w) := fun w => by rw [HBK.out]; exact eq78 _ _ HAX.out HA0.out w
      have HC : Hid (Away [] v1 v1.drew ∧ BoxP v1.drew g4 x.p x.o x.d) := ⟨(Away.refl [] v1).drew, HB4.out⟩
      have i5 : (0 : Int) < (n : Int) := by omega
      have i6 : 0 < n := by omega
      go_wp2_with fail
      refine wp_region_cls (C := fun w' => Away [] v1 w' ∧ BoxP w' g4 x.p x.o x.d) (by kernel_rfl) (by kernel_rfl) HC.out ?_
      go_big_quiet_want; refine quiet_ld _ rfl (ad := ⟨g4, 0, none⟩) rfl (fun w' h => load28_run h.2 HAX.out) ?_; go_simp; go_big_quiet_on
      go_big_quiet_want; refine quiet_call 17 #[.agg (csP x.p x.o x.d)] (.int .i64 lx) ?_ KL.out ?_
      · intro w; go_simp; all_goals (with_reducible rfl)
      go_simp; go_big_quiet_on
      by_cases hlz : lx = 0
      · subst hlz
        have HF : Hid (likeB x0.p x.p = false) := by
          show _ = _
          unfold likeB; rw [(long_zero x.p).1 HLX.out.symm]; rfl
        go_big_quiet_want; (refine quiet_val ?_ ?_ ?_; rotate_left; (intro w; go_simp; rfl); go_simp; go_big_quiet_on)
        go_big_quiet_want; (refine quiet_val ?_ ?_ ?_; rotate_left; (intro w; go_simp; rfl); go_simp; go_big_quiet_on)
        repeat (first | go_big_quiet_skip | (go_big_quiet_want; (refine quiet_val ?_ ?_ ?_; rotate_left; (intro w; go_simp; rfl); go_simp; go_big_quiet_on)))
        refine wpQuiet_nil ?_
        intro V hV
        have HV := Lib.hid (HAW.out.on hV.1)
        clear hV
        obtain rfl : z = false := by rw [HZ.out]; exact all_false _ _ x HXM.out HF.out
        go_wp2_with fail
        go_ret
        exact ⟨rfl, HV.out⟩
      have dlz : decide (lx = 0) = false := by simp [hlz]
      have dlb : (lx == 0) = false := by simp [hlz]
      have HRG : Hid (rgtP x.p = true) := by
        show _ = _
        by_cases h : rgtP x.p = true
        · exact h
        · exact absurd ((long_zero x.p).2 (by simpa using h)) (HLX.out ▸ hlz)
      go_big_quiet_want; (refine quiet_val ?_ ?_ ?_; rotate_left; (intro w; go_simp; rfl); go_simp; go_big_quiet_on)
      go_big_quiet_want; (refine quiet_val ?_ ?_ ?_; rotate_left; (intro w; go_simp; rfl); go_simp; go_big_quiet_on)
      go_big_quiet_want; refine quiet_ld _ rfl (ad := ⟨g4, 0, none⟩) rfl (fun w' h => load28_run h.2 HAX.out) ?_; go_simp; go_big_quiet_on
      go_big_quiet_want; refine quiet_call 27 #[.agg (csP x.p x.o x.d)] (.agg (csK x.p)) ?_ K1.out ?_
      · intro w; go_simp; all_goals (with_reducible rfl)
      go_simp; go_big_quiet_on
      go_big_quiet_want; (refine quiet_val ?_ ?_ ?_; rotate_left; (intro w; go_simp; rfl); go_simp; go_big_quiet_on)
      go_big_quiet_want; (refine quiet_val ?_ ?_ ?_; rotate_left; (intro w; go_simp; rfl); go_simp; go_big_quiet_on)
      go_big_quiet_want; refine quiet_ld _ rfl (ad := ⟨xb, xo, none⟩) rfl (fun w' h => load28m_run (by exact range_away h.1 (by simp) HR0.out) HA0.out) ?_; go_simp; go_big_quiet_on
      go_big_quiet_want; refine quiet_call 27 #[.agg (csP x0.p x0.o x0.d)] (.agg (csK x0.p)) ?_ K0.out ?_
      · intro w; go_simp; all_goals (with_reducible rfl)
      go_simp; go_big_quiet_on
      go_big_quiet_want; refine quiet_ne78 _ _ rfl (csK x.p) (csK x0.p) rfl rfl bk HQ.out ?_; go_simp; go_big_quiet_on
      cases bk
      · have HF : Hid (likeB x0.p x.p = false) := by
          show _ = _
          unfold likeB; rw [← HBK.out]; simp
        go_big_quiet_want; (refine quiet_val ?_ ?_ ?_; rotate_left; (intro w; go_simp; rfl); go_simp; go_big_quiet_on)
        refine wpQuiet_nil ?_
        intro V hV
        have HV := Lib.hid (HAW.out.on hV.1)
        clear hV
        obtain rfl : z = false := by rw [HZ.out]; exact all_false _ _ x HXM.out HF.out
        go_wp2_with fail
        go_ret
        exact ⟨rfl, HV.out⟩
      go_big_quiet_want; (refine quiet_val ?_ ?_ ?_; rotate_left; (intro w; go_simp; rfl); go_simp; go_big_quiet_on)
      refine wpQuiet_nil ?_
      intro V hV
      have HV := Lib.hid (HAW.out.on hV.1)
      clear hV
      have HT : Hid ((xs.take (k + 1)).all (fun x => likeB x0.p x.p) = true) := by
        show _ = _
        rw [take_succ_all _ xs k x HXK.out HALL.out]
        unfold likeB; rw [HRG.out, ← HBK.out]; rfl
      go_wp2_with fail
      go_roundw
      case rel => exact ⟨k + 1, by go_num, by omega, HT.out, HV.out⟩
      case measure => simp [intOf]; omega
    · obtain rfl : k = n := by omega
      obtain rfl : z = true := by rw [HZ.out, ← HALL.out, List.take_of_length_le (by have := HN.out; omega)]
      go_wp2_with fail
      go_ret
      exact ⟨rfl, HAW.out⟩
end R
#print axioms R.akin_c
end Go.Proofs.YtaicckenpplceaaGreatDoor

namespace Go.Proofs.YtaicckenpplceaaGreatDoor
open Go.ChangeShapes Go.WideShapes Go.ChangeAt Go.RowKit Num S6
set_option linter.unusedVariables false
set_option maxHeartbeats 4000000
set_option maxRecDepth 100000

namespace R
theorem rgt_off {p : Pk} (h : rgtP p = true) : 0 ≤ p.off ∧ p.off ≤ 65528 ∧ p.off + p.d.length ≤ 65535 := by
  unfold rgtP at h
  by_cases hv : p.v = 6
  · rw [if_pos hv, S6.right_iff] at h
    exact ⟨h.o0, h.o1, h.reach⟩
  · rw [if_neg hv, right_iff] at h
    exact ⟨h.1.o0, h.1.o1, h.1.reach⟩
def clashL : List Pk → Bool
  | [] => false
  | [_] => false
  | p :: q :: r => !p.more || decide (q.off < p.off + p.d.length) || clashL (q :: r)
def complL (e : Int) : List Pk → Bool
  | [] => true
  | p :: r => decide (p.off = e) && complL (p.off + p.d.length) r
theorem drop_two {α : Type} {l : List α} {k : Nat} {x y : α} (hx : l[k]? = some x) (hy : l[k + 1]? = some y) : l.drop k = x :: y :: l.drop (k + 2) := by
  have h1 := lt_of_get hx; have h2 := lt_of_get hy
  rw [List.drop_eq_getElem_cons h1, List.drop_eq_getElem_cons h2]
  rw [List.getElem?_eq_getElem h1] at hx
  rw [List.getElem?_eq_getElem h2] at hy
  simp at hx hy
  rw [hx, hy]
theorem drop_one {α : Type} {l : List α} {k : Nat} {x : α} (hx : l[k]? = some x) : l.drop k = x :: l.drop (k + 1) := by
  have h1 := lt_of_get hx
  rw [List.drop_eq_getElem_cons h1]
  rw [List.getElem?_eq_getElem h1] at hx
  simp at hx
  rw [hx]
theorem clash_c (a : Option Addr) (xs : List X) (n cap : Nat) (w : World) (hn : xs.length = n) (hx : Pks w a xs) (hr : ∀ x ∈ xs, rgtP x.p = true) :
    Calls Tryz.prog 14 #[.slice a n cap] w fun E w' => E = .returned (.bool (clashL (xs.map X.p))) ∧ Away [] w w' := by
  have HX := Lib.hid hx; have HN := Lib.hid hn; have HRG := Lib.hid hr
  have hxl := hx.1
  rw [hn] at hxl
  obtain ⟨z, hz⟩ : ∃ z, z = clashL (xs.map X.p) := ⟨_, rfl⟩
  rw [← hz]
  have HZ := Lib.hid hz
  clear hz hx hn hr
  go_enter Tryz.func14, Tryz.ntmps14
  go_wp2_with fail
  go_loopw [3] (fun i wr => ∃ k : Nat, i = .int .i64 (k : Int) ∧ 1 ≤ k ∧ k ≤ n + 1 ∧ z = clashL ((xs.drop (k - 1)).map X.p) ∧ Away [] w wr) (fun i _ => n - (intOf i).toNat)
  case atStart => exact ⟨1, rfl, by omega, by omega, HZ.out, Away.refl _ _⟩
  case round =>
    obtain ⟨k, rfl, hk1, hk, hzk, haw⟩ := hrel
    have HZK := Lib.hid hzk; have HAW := Lib.hid haw
    clear hzk haw
    by_cases hlt : k < n
    · obtain ⟨x, hxk, hxm⟩ := get_of (show k - 1 < xs.length by have := HN.out; omega)
      obtain ⟨y, hyk, hym⟩ := get_of (show k < xs.length by have := HN.out; omega)
      obtain ⟨xb, xo, hxa, hrx, hokx⟩ := (HX.out.on HAW.out).at hxk
      subst hxa
      have HRX : Hid (wr.rangeAt xb (xo + (k - 1) * 46) (listP x.p x.o x.d)) := hrx
      have HOK : Hid (Pkt wr x.p x.o x.d) := hokx
      have HAX := Lib.hid hokx.wf.ad
      have HOV := Lib.hid hokx.ov; have HDV := Lib.hid hokx.dv
      obtain ⟨b', o', hbo, hry, hoky⟩ := (HX.out.on HAW.out).at hyk
      obtain ⟨rfl, rfl⟩ : xb = b' ∧ xo = o' := by simpa using hbo
      have HCY : Hid (wr.cell? ⟨xb, xo + k * 46 + 43, none⟩ = some (.int .i64 y.p.off)) := hry 43 _ (by
        have := (csP_get hoky.wf.ad y.o y.d).2.2.2.2.2.2.2.2.2.2.2.1
        unfold csP at this; rw [List.getElem?_toArray] at this; exact this)
      have hd := drop_two hxk (show xs[k - 1 + 1]? = some y by rw [show k - 1 + 1 = k from by omega]; exact hyk)
      rw [hd] at HZK
      have HZ2 : Hid (z = (!x.p.more || decide (y.p.off < x.p.off + x.p.d.length) || clashL ((xs.drop k).map X.p))) := by
        show _ = _
        rw [HZK.out, show xs.drop k = y :: xs.drop (k - 1 + 2) by rw [drop_one hyk, show k - 1 + 2 = k + 1 from by omega]]; rfl
      have hro := rgt_off (HRG.out x hxm)
      have HRO := Lib.hid hro
      clear hd hxk hyk hxm hym hrx hokx hbo hry hoky HZK hro
      have i2 : 0 ≤ (k : Int) - 1 := by omega
      have i3 : (k : Int) - 1 < (n : Int) := by omega
      have i4 : ((k : Int) - 1).toNat = k - 1 := by omega
      go_wp2_with (refine wpList_pick28 rfl _ rfl rfl rfl rfl _ _ rfl xb (xo + (k - 1) * 46) rfl x.p x.o x.d (by exact HRX.out) HAX.out HOV.out HDV.out (fun g => rfl) (fun g => rfl) ?_; refine Hid.out ?_)
      refine Lib.hid ?_
      intro g4 v1 hg4 hb4 haw4
      replace HCY := Lib.hid (haw4.cell (by simp) HCY.out)
      replace HOK := Lib.hid (HOK.out.on haw4)
      replace HAW := Lib.hid (HAW.out.on haw4)
      have HB4 := Lib.hid hb4
      clear hb4 haw4 hg4 HRX i2 i3 i4
      have j2 : 0 ≤ (k : Int) := by omega
      have j3 : (k : Int) < (n : Int) := by omega
      have j4 : ((k : Int)).toNat = k := by omega
      obtain ⟨xe, hxe⟩ : ∃ z, z = x.p.off + x.p.d.length := ⟨_, rfl⟩
      have KE : Hid (∀ W, (Away [] v1 W ∧ BoxP W g4 x.p x.o x.d) → Calls Tryz.prog 31 #[.agg (csP x.p x.o x.d)] W fun E w'' => E = .returned (.int .i64 xe) ∧ (Away [] v1 w'' ∧ BoxP w'' g4 x.p x.o x.d)) := fun W hW => by
        rw [hxe]; exact (end_c x.p x.o x.d W (HOK.out.on hW.1) HRO.out.1 HRO.out.2.1).mono fun E w'' h => ⟨h.1, hW.1.on h.2, hW.2.on h.2⟩
      rw [← hxe] at HZ2
      clear hxe
      obtain ⟨ye, hye⟩ : ∃ z, z = y.p.off := ⟨_, rfl⟩
      rw [← hye] at HZ2 HCY
      clear hye
      obtain ⟨mo, hmo⟩ : ∃ z, z = x.p.more := ⟨_, rfl⟩
      rw [← hmo] at HZ2
      have HMO := Lib.hid hmo
      clear hmo
      have HC : Hid (Away [] v1 v1.drew ∧ BoxP v1.drew g4 x.p x.o x.d) := ⟨(Away.refl [] v1).drew, HB4.out⟩
      go_wp2_with fail
      refine wp_region_cls (C := fun w' => Away [] v1 w' ∧ BoxP w' g4 x.p x.o x.d) (by kernel_rfl) (by kernel_rfl) HC.out ?_
      go_big_quiet_want; (refine quiet_val ?_ ?_ ?_; rotate_left; (intro w; go_simp; rfl); go_simp; go_big_quiet_on)
      go_big_quiet_want; refine quiet_ld _ rfl (ad := ⟨g4, 41, none⟩) rfl (fun w' h => ld4 (z := mo) (by rw [HMO.out]; exact (h.2.cells HAX.out).more)) ?_; go_simp; go_big_quiet_on
      cases mo
      · go_big_quiet_want; (refine quiet_val ?_ ?_ ?_; rotate_left; (intro w; go_simp; rfl); go_simp; go_big_quiet_on)
        go_big_quiet_want; (refine quiet_val ?_ ?_ ?_; rotate_left; (intro w; go_simp; rfl); go_simp; go_big_quiet_on)
        repeat (first | go_big_quiet_skip | (go_big_quiet_want; (refine quiet_val ?_ ?_ ?_; rotate_left; (intro w; go_simp; rfl); go_simp; go_big_quiet_on)))
        refine wpQuiet_nil ?_
        intro V hV
        have HV := Lib.hid (HAW.out.on hV.1)
        clear hV
        obtain rfl : z = true := by rw [HZ2.out]; rfl
        go_wp2_with fail
        go_ret
        exact ⟨rfl, HV.out⟩
      go_big_quiet_want; (refine quiet_val ?_ ?_ ?_; rotate_left; (intro w; go_simp; rfl); go_simp; go_big_quiet_on)
      go_big_quiet_want; (refine quiet_val ?_ ?_ ?_; rotate_left; (intro w; go_simp; rfl); go_simp; go_big_quiet_on)
      go_big_quiet_want; (refine quiet_val ?_ ?_ ?_; rotate_left; (intro w; go_simp; rfl); go_simp; go_big_quiet_on)
      go_big_quiet_want; (refine quiet_val ?_ ?_ ?_; rotate_left; (intro w; go_simp; rfl); go_simp; go_big_quiet_on)
      go_big_quiet_want; (refine quiet_val ?_ ?_ ?_; rotate_left; (intro w; go_simp; rfl); go_simp; go_big_quiet_on)
      go_big_quiet_want; (refine quiet_val ?_ ?_ ?_; rotate_left; (intro w; go_simp; rfl); go_simp; go_big_quiet_on)
      go_big_quiet_want; refine quiet_ld _ rfl (ad := ⟨xb, xo + k * 46 + 43, none⟩) rfl (fun w' h => ld3 (h.1.cell (by simp) HCY.out)) ?_; go_simp; go_big_quiet_on
      go_big_quiet_want; refine quiet_ld _ rfl (ad := ⟨g4, 0, none⟩) rfl (fun w' h => load28_run h.2 HAX.out) ?_; go_simp; go_big_quiet_on
      go_big_quiet_want; refine quiet_call 31 #[.agg (csP x.p x.o x.d)] (.int .i64 xe) ?_ KE.out ?_
      · intro w; go_simp; all_goals (with_reducible rfl)
      go_simp; go_big_quiet_on
      by_cases hl : ye < xe
      · have dl : decide (ye < xe) = true := by simp [hl]
        go_big_quiet_want; (refine quiet_val ?_ ?_ ?_; rotate_left; (intro w; go_simp; rfl); go_simp; go_big_quiet_on)
        go_big_quiet_want; (refine quiet_val ?_ ?_ ?_; rotate_left; (intro w; go_simp; rfl); go_simp; go_big_quiet_on)
        refine wpQuiet_nil ?_
        intro V hV
        have HV := Lib.hid (HAW.out.on hV.1)
        clear hV
        obtain rfl : z = true := by rw [HZ2.out, dl]; rfl
        go_wp2_with fail
        go_ret
        exact ⟨rfl, HV.out⟩
      have dl : decide (ye < xe) = false := by simp; omega
      go_big_quiet_want; (refine quiet_val ?_ ?_ ?_; rotate_left; (intro w; go_simp; rfl); go_simp; go_big_quiet_on)
      go_big_quiet_want; (refine quiet_val ?_ ?_ ?_; rotate_left; (intro w; go_simp; rfl); go_simp; go_big_quiet_on)
      refine wpQuiet_nil ?_
      intro V hV
      have HV := Lib.hid (HAW.out.on hV.1)
      clear hV
      have HZ3 : Hid (z = clashL ((xs.drop (k + 1 - 1)).map X.p)) := by show _ = _; rw [HZ2.out, dl, show k + 1 - 1 = k from by omega]; rfl
      go_wp2_with fail
      go_roundw
      case rel => exact ⟨k + 1, by go_num, by omega, by omega, HZ3.out, HV.out⟩
      case measure => simp [intOf]; omega
    · obtain rfl : z = false := by
        rw [HZK.out]
        have := HN.out
        have h1 : (xs.drop (k - 1)).length ≤ 1 := by rw [List.length_drop]; omega
        generalize xs.drop (k - 1) = l at h1
        rcases l with _ | ⟨p, _ | ⟨q, r⟩⟩
        · rfl
        · rfl
        · simp at h1
      go_wp2_with fail
      go_ret
      exact ⟨rfl, HAW.out⟩
theorem compl_c (a : Option Addr) (xs : List X) (n cap : Nat) (w : World) (hn : xs.length = n) (hx : Pks w a xs) (hr : ∀ x ∈ xs, rgtP x.p = true) :
    Calls Tryz.prog 15 #[.slice a n cap] w fun E w' => E = .returned (.bool (complL 0 (xs.map X.p) && (decide (0 < n) && !lastB (xs.map X.p)))) ∧ Away [] w w' := by
  have HX := Lib.hid hx; have HN := Lib.hid hn; have HRG := Lib.hid hr
  have hxl := hx.1
  rw [hn] at hxl
  obtain ⟨lb, hlb⟩ : ∃ z, z = lastB (xs.map X.p) := ⟨_, rfl⟩
  rw [← hlb]
  have HLB := Lib.hid hlb
  obtain ⟨z, hz⟩ : ∃ z, z = (complL 0 (xs.map X.p) && (decide (0 < n) && !lb)) := ⟨_, rfl⟩
  rw [← hz]
  have HZ := Lib.hid hz
  clear hz hx hn hr hlb
  go_enter Tryz.func15, Tryz.ntmps15
  go_wp2_with fail
  go_loopw [3, 8] (fun e i wr => ∃ (k : Nat) (en : Int), e = .int .i64 en ∧ i = .int .i64 (k : Int) ∧ k ≤ n ∧ complL 0 (xs.map X.p) = complL en ((xs.drop k).map X.p) ∧ Away [] w wr) (fun _ i _ => n - (intOf i).toNat)
  case atStart => exact ⟨0, 0, rfl, rfl, by omega, rfl, Away.refl _ _⟩
  case round =>
    obtain ⟨k, en, rfl, rfl, hk, hzk, haw⟩ := hrel
    have HZK := Lib.hid hzk; have HAW := Lib.hid haw
    clear hzk haw
    by_cases hlt : k < n
    · obtain ⟨x, hxk, hxm⟩ := get_of (show k < xs.length by have := HN.out; omega)
      obtain ⟨xb, xo, hxa, hrx, hokx⟩ := (HX.out.on HAW.out).at hxk
      subst hxa
      have HRX : Hid (wr.rangeAt xb (xo + k * 46) (listP x.p x.o x.d)) := hrx
      have HOK : Hid (Pkt wr x.p x.o x.d) := hokx
      have HAX := Lib.hid hokx.wf.ad
      have HOV := Lib.hid hokx.ov; have HDV := Lib.hid hokx.dv
      have hd := drop_one hxk
      rw [hd] at HZK
      have HZ2 : Hid (complL 0 (xs.map X.p) = (decide (x.p.off = en) && complL (x.p.off + x.p.d.length) ((xs.drop (k + 1)).map X.p))) := HZK.out
      have HRO := Lib.hid (rgt_off (HRG.out x hxm))
      clear hd hxk hxm hrx hokx HZK
      have i2 : 0 ≤ (k : Int) := by omega
      have i3 : (k : Int) < (n : Int) := by omega
      have i4 : ((k : Int)).toNat = k := by omega
      go_wp2_with (refine wpList_pick28 rfl _ rfl rfl rfl rfl _ _ rfl xb (xo + k * 46) rfl x.p x.o x.d (by exact HRX.out) HAX.out HOV.out HDV.out (fun g => rfl) (fun g => rfl) ?_; refine Hid.out ?_)
      refine Lib.hid ?_
      intro g4 v1 hg4 hb4 haw4
      replace HOK := Lib.hid (HOK.out.on haw4)
      replace HAW := Lib.hid (HAW.out.on haw4)
      have HB4 := Lib.hid hb4
      have c43 := (hb4.cells HAX.out).off
      clear hb4 haw4 hg4 HRX
      obtain ⟨xf, hxf⟩ : ∃ z, z = x.p.off := ⟨_, rfl⟩
      rw [← hxf] at c43 HZ2
      have HXF := Lib.hid hxf
      clear hxf
      by_cases he : xf = en
      · subst he
        go_wp2_with (refine wpList_load28 rfl _ rfl g4 rfl x.p _ _ (by exact HB4.out) HAX.out ?_)
        refine (end_c x.p x.o x.d _ HOK.out HRO.out.1 HRO.out.2.1).mono ?_
        rintro E v2 ⟨rfl, haw⟩
        replace HAW := Lib.hid (HAW.out.on haw)
        clear haw c43
        go_wp2_with fail
        go_roundw
        case rel => exact ⟨k + 1, _, rfl, by go_num, by omega, by rw [HZ2.out, HXF.out]; simp, HAW.out⟩
        case measure => simp [intOf]; omega
      · have de : decide (xf = en) = false := by simp [he]
        have de2 : (xf == en) = false := by simp [he]
        obtain rfl : z = false := by rw [HZ.out, HZ2.out, de]; rfl
        go_wp2_with fail
        go_ret
        exact ⟨rfl, HAW.out⟩
    · obtain rfl : k = n := by omega
      have HT : Hid (z = (decide (0 < k) && !lb)) := by
        show _ = _
        rw [HZ.out, HZK.out, List.drop_of_length_le (by have := HN.out; omega)]; rfl
      by_cases h0 : 0 < k
      · obtain ⟨x, hxk, hxm⟩ := get_of (show k - 1 < xs.length by have := HN.out; omega)
        obtain ⟨xb, xo, hxa, hrx, hokx⟩ := (HX.out.on HAW.out).at hxk
        subst hxa
        have c1 : wr.cell? ⟨xb, xo + (k - 1) * 46 + 41, none⟩ = some (.bool lb) := by
          rw [HLB.out, lastB_get xs x (by rw [HN.out]; exact hxk)]
          exact hrx 41 _ (by
            have := (csP_get hokx.wf.ad x.o x.d).2.2.2.2.2.2.2.2.2.1
            unfold csP at this; rw [List.getElem?_toArray] at this; exact this)
        clear hrx hokx hxk hxm
        obtain rfl : z = !lb := by rw [HT.out, decide_eq_true h0]; rfl
        have i2 : 0 ≤ (k : Int) - 1 := by omega
        have i3 : (k : Int) - 1 < (k : Int) := by omega
        have i4 : ((k : Int) - 1).toNat = k - 1 := by omega
        have i5 : (0 : Int) < (k : Int) := by omega
        go_wp2_with fail
        go_ret
        exact ⟨rfl, HAW.out⟩
      · obtain rfl : k = 0 := by omega
        obtain rfl : z = false := HT.out
        go_wp2_with fail
        go_ret
        exact ⟨rfl, HAW.out⟩
end R
#print axioms R.compl_c
end Go.Proofs.YtaicckenpplceaaGreatDoor

namespace Go.Proofs.YtaicckenpplceaaGreatDoor
open Go.ChangeShapes Go.WideShapes Go.ChangeAt Go.RowKit Num
set_option linter.unusedVariables false
set_option maxHeartbeats 4000000
set_option maxRecDepth 100000

namespace R
def datas (l : List Pk) : List Int := l.flatMap Pk.d
def joinH (p : Pk) : Pk := { p with more := false, d := [], frag := if p.v = 6 then false else p.frag, id := if p.v = 6 then 0 else p.id }
def joinD (l : List Pk) : Pk := match l with | [] => zeroPk | p :: r => { joinH p with d := datas (p :: r) }
theorem compl_len : ∀ (l : List Pk) (e : Int), (∀ p ∈ l, rgtP p = true) → complL e l = true → l ≠ [] → e + (datas l).length ≤ 65535
  | [], e, h, hc, hn => absurd rfl hn
  | [p], e, h, hc, hn => by
    simp only [complL, Bool.and_eq_true, decide_eq_true_eq] at hc
    have := rgt_off (h p (by simp))
    simp [datas]; omega
  | p :: q :: r, e, h, hc, hn => by
    have hc2 := hc
    rw [complL, Bool.and_eq_true, decide_eq_true_eq] at hc2
    have := compl_len (q :: r) (p.off + p.d.length) (fun x hx => h x (by simp [hx])) hc2.2 (by simp)
    have e1 : datas (p :: q :: r) = p.d ++ datas (q :: r) := rfl
    rw [e1, List.length_append]
    have := hc2.1
    omega
/-- joined at work. -/
structure JS (w0 w : World) (g2 g3 : Nat) (q : Pk) (ou du : Value) : Prop where
  b2 : BoxP w g2 zeroPk (.slice none 0 0) (.slice none 0 0)
  b3 : BoxP w g3 q ou du
  aw : Away [] w0 w
  ad : Ad q
  n2 : w0.heap.size ≤ g2
  n3 : w0.heap.size ≤ g3
  ne : g2 ≠ g3
  oo : Owns w ou q.o
  od : Owns w du q.d
  no : New w0.heap.size ou
  nd : New w0.heap.size du
  ap : ∀ k, ou.ownBlock = some k → du.ownBlock ≠ some k
  o1 : ∀ k, ou.ownBlock = some k ∨ du.ownBlock = some k → k ≠ g2 ∧ k ≠ g3
theorem JS.on {w0 w w' : World} {g2 g3 : Nat} {q : Pk} {ou du : Value} (h : JS w0 w g2 g3 q ou du) (hw : Away [] w w') : JS w0 w' g2 g3 q ou du :=
  ⟨h.b2.on hw, h.b3.on hw, h.aw.on hw, h.ad, h.n2, h.n3, h.ne, h.oo.on hw, h.od.on hw, h.no, h.nd, h.ap, h.o1⟩
theorem JS.mine {w0 w : World} {g2 g3 : Nat} {q : Pk} {ou du : Value} (h : JS w0 w g2 g3 q ou du) : Mine w w0.heap.size q ou du := ⟨h.oo, h.od, h.no, h.nd, h.ap⟩
theorem JS.put {w0 w : World} {g2 g3 : Nat} {q q' : Pk} {ou du : Value} (h : JS w0 w g2 g3 q ou du) (i : Nat) (x : Value) (hx : (csP q ou du).setIfInBounds i x = csP q' ou du) (hq : Ad q') (ho : q'.o = q.o) (hd : q'.d = q.d) : JS w0 (w.setCell ⟨g3, i, none⟩ x) g2 g3 q' ou du :=
  ⟨h.b2.away (away_put i x) (by simp; exact h.ne), h.b3.put i x hx, h.aw.setCell (.inr h.n3) _, hq, h.n2, h.n3, h.ne, by rw [ho]; exact h.oo.away (away_put (g := g3) i x) (fun k hk => by simpa using (h.o1 k (.inl hk)).2), by rw [hd]; exact h.od.away (away_put (g := g3) i x) (fun k hk => by simpa using (h.o1 k (.inr hk)).2), h.no, h.nd, h.ap, h.o1⟩
theorem wpList_appAny {w : World} {ops : Array Oper} {rest : List Oper} {o : Oper} {a : Act} {Q : Exit → Act → World → Prop} (hgd : o.guard = none) (s x : Operand)
    (ho : o.op = .call { callee := .builtin .append, args := #[s, x], argTypes := #[27, 27] }) (v : Value) (l m : List Int) (hs : a.eval s = v) (hown : Owns w v l)
    (u : Value) (hx : a.eval x = u) (hu : Sl w u m) (hlen : l.length + m.length ≤ 140737488355328)
    (h : ∀ v' w', Owns w' v' (l ++ m) → (∀ S a, Away S a w → (∀ k, v.ownBlock = some k → k ∈ S ∨ a.heap.size ≤ k) → Away S a w') → Moved w v v' → w.heap.size ≤ w'.heap.size → wpList Tryz.prog ops Q rest (a.put o.dst v') w') : wpList Tryz.prog ops Q (o :: rest) a w := by
  obtain ⟨ad, c, rfl, h1, h2, h3⟩ := hu
  rcases ad with _ | ad
  · obtain rfl : m = [] := by rcases h3.2.2 with h | ⟨_, _, h, _⟩ <;> simp_all
    obtain rfl := h2 rfl
    exact wpList_app_none hgd s x ho v l hs hown hx (h v w (by simpa using hown) (fun S a h _ => h) (Moved.refl _ _) (Nat.le_refl _))
  · exact wpList_app hgd s x ho v l m hs hown ad m.length c hx rfl h3.src hlen (fun v' w' r1 r2 r3 => h v' w' r1 (fun S a h hk => h.grown r2 hk) r3 r2.size)
theorem joined_c (a : Option Addr) (xs : List X) (n cap : Nat) (w : World) (hn : xs.length = n) (h0 : 0 < n) (hx : Pks w a xs) (htot : (datas (xs.map X.p)).length ≤ 100000000) :
    Calls Tryz.prog 16 #[.slice a n cap] w fun E w' => OwnOut w (joinD (xs.map X.p)) E w' := by
  have HX := Lib.hid hx; have HN := Lib.hid hn; have HTOT := Lib.hid htot
  have hxl := hx.1
  rw [hn] at hxl
  obtain ⟨x0, hx0, hxm0⟩ := get_of (show 0 < xs.length by omega)
  obtain ⟨xb, xo, hxa, hr0, hok0⟩ := hx.at hx0
  subst hxa
  have HJD : Hid (joinD (xs.map X.p) = { joinH x0.p with d := datas (xs.map X.p) }) := by
    show _ = _
    cases xs with
    | nil => simp at hx0
    | cons y r => simp at hx0; subst hx0; rfl
  have HR0 : Hid (w.rangeAt xb xo (listP x0.p x0.o x0.d)) := by
    have : w.rangeAt xb (xo + 0 * 46) (listP x0.p x0.o x0.d) := hr0
    show w.rangeAt xb xo (listP x0.p x0.o x0.d)
    simpa using this
  have HOK0 : Hid (Pkt w x0.p x0.o x0.d) := hok0
  have HA0 := Lib.hid hok0.wf.ad
  have HOV0 := Lib.hid hok0.ov; have HDV0 := Lib.hid hok0.dv
  clear hx0 hxm0 hr0 hok0 hx hn htot
  have i5 : (0 : Int) < (n : Int) := by omega
  go_enter Tryz.func16, Tryz.ntmps16
  go_wp2_with (refine wpList_alloc28 rfl rfl ?_; refine Hid.out ?_)
  refine Lib.hid ?_
  intro g2 w1 hg2 hb2 haw1
  have HB2 := Lib.hid hb2; have HA := Lib.hid haw1
  have hl2 := hb2.lt
  replace HR0 := Lib.hid (range_away haw1 (by simp) HR0.out)
  clear hb2 haw1
  go_wp2_with (refine wpList_pick28 rfl _ rfl rfl rfl rfl _ _ rfl xb xo rfl x0.p x0.o x0.d (by exact HR0.out) HA0.out HOV0.out HDV0.out (fun g => rfl) (fun g => rfl) ?_; refine Hid.out ?_)
  refine Lib.hid ?_
  intro g3 w2 hg3 hb3 haw2
  have HB3 := Lib.hid hb3
  have hl3 := hb3.lt
  replace HB2 := Lib.hid (HB2.out.on haw2)
  replace HA := Lib.hid (HA.out.on haw2)
  have hs2 := haw2.size
  clear hb3 haw2 HR0
  have KC : Hid (Calls Tryz.prog 32 #[x0.o] w2 fun E w'' => ∃ v, E = .returned v ∧ Owns w'' v x0.p.o ∧ New w2.heap.size v ∧ Away [] w2 w'') := by
    obtain ⟨a, c, e, x1, x2, x3⟩ := (HOK0.out.on HA.out).o
    show Calls _ _ _ _ _
    rw [e]
    exact clone_any a x0.p.o c w2 x2 x3
  have c44 := (HB3.out.cells HA0.out).o
  obtain ⟨oa, oc, hoe, -, -, -⟩ := HOK0.out.o
  rw [hoe] at c44 KC
  go_wp2_with fail
  refine KC.out.mono ?_
  rintro E w3 ⟨v1, rfl, hown, hnew, haw⟩
  replace HB2 := Lib.hid (HB2.out.on haw)
  replace HB3 := Lib.hid (HB3.out.on haw)
  replace HA := Lib.hid (HA.out.on haw)
  have HO1 := Lib.hid hown; have HNW := Lib.hid hnew
  obtain ⟨va, vn, vc, hve⟩ := hown.shp
  have hs3 := haw.size
  clear hown hnew haw KC c44
  have hA0 := HA0.out
  have HBa := Lib.hid (HB3.out.put 41 (.bool false) ((csP_set hA0 _ _).2.2.2.2.2.2.2.2.2.1 false))
  have HBb := Lib.hid (HBa.out.put 44 v1 ((csP_set (p := { x0.p with more := false }) hA0 _ _).2.2.2.2.2.2.2.2.2.2.2.2.1 x0.p.o v1))
  have HBc := Lib.hid (HBb.out.put 45 (.slice none 0 0) ((csP_set (p := { x0.p with more := false }) hA0 _ _).2.2.2.2.2.2.2.2.2.2.2.2.2 [] (.slice none 0 0)))
  have hAa := away_put (w := w3) (g := g3) 41 (.bool false)
  have hAb := away_put (w := w3.setCell ⟨g3, 41, none⟩ (.bool false)) (g := g3) 44 v1
  have hAc := away_put (w := (w3.setCell ⟨g3, 41, none⟩ (.bool false)).setCell ⟨g3, 44, none⟩ v1) (g := g3) 45 (.slice none 0 0)
  have hAd := (hAa.trans hAb).trans hAc
  have HJ0 : Hid (JS w (((w3.setCell ⟨g3, 41, none⟩ (.bool false)).setCell ⟨g3, 44, none⟩ v1).setCell ⟨g3, 45, none⟩ (.slice none 0 0)) g2 g3 { x0.p with more := false, d := [] } v1 (.slice none 0 0)) :=
    ⟨HB2.out.away hAd (by simp; omega), HBc.out, HA.out.next hAd (fun x hx => .inr (by simp at hx; omega)), hA0, by omega, by omega, by omega, HO1.out.away hAd (fun k hk e => by have := HNW.out k hk; simp at e; omega), Owns.nil _, fun k hk => by have := HNW.out k hk; omega, New.nil _, fun k hk => by simp [Value.ownBlock], fun k hk => by
      rcases hk with hk | hk
      · have := HNW.out k hk; omega
      · simp [Value.ownBlock] at hk⟩
  have s41 := (HB3.out.cells hA0).more
  have s44 := (HB3.out.cells hA0).o
  have s45 := (HB3.out.cells hA0).d
  have f41 := HB3.out.free 41
  have f44 := HB3.out.free 44
  have f45 := HB3.out.free 45
  subst hve
  clear hAa hAb hAc hAd HBa HBb HBc HB2 HO1 HNW hA0
  go_upto_region 3 with fail
  clear s41 s44 s45 f41 f44 f45 HB3
  generalize ((w3.setCell ⟨g3, 41, none⟩ (.bool false)).setCell ⟨g3, 44, none⟩ (.slice va vn vc)) = wq at *
  generalize wq.setCell ⟨g3, 45, none⟩ (.slice none 0 0) = wA at *
  obtain ⟨v1, hv1⟩ : ∃ v, v = Value.slice va vn vc := ⟨_, rfl⟩
  rw [← hv1] at HJ0
  have HV1 := Lib.hid hv1
  clear hv1
  have c0 := (HJ0.out.b3.cells HJ0.out.ad).v
  clear hs2 hs3 hl2 hl3 hg2 hg3
  by_cases hv : x0.p.v = 6
  · have c0' : wA.cell? ⟨g3, 0, none⟩ = some (.int .i64 6) := by have := c0; rw [show ({ x0.p with more := false, d := [] } : Pk).v = 6 from hv] at this; exact this
    have HJ1 := Lib.hid (HJ0.out.put 42 (.bool false) ((csP_set HJ0.out.ad _ _).2.2.2.2.2.2.2.2.2.2.1 false) HJ0.out.ad rfl rfl)
    have HJ : Hid (JS w ((wA.setCell ⟨g3, 42, none⟩ (.bool false)).setCell ⟨g3, 39, none⟩ (.int .u32 0)) g2 g3 { joinH x0.p with d := datas ((xs.take 0).map X.p) } v1 (.slice none 0 0)) := by
      have := HJ1.out.put 39 (.int .u32 0) ((csP_set HJ1.out.ad _ _).2.2.2.2.2.2.2.1 0) HJ1.out.ad rfl rfl
      have e : ({ joinH x0.p with d := datas ((xs.take 0).map X.p) } : Pk) = { ({ ({ x0.p with more := false, d := [] } : Pk) with frag := false } : Pk) with id := 0 } := by
        simp [joinH, hv, datas]
      show JS _ _ _ _ _ _ _
      rw [e]; exact this
    have s42 := (HJ0.out.b3.cells HJ0.out.ad).frag
    have s39 := (HJ0.out.b3.cells HJ0.out.ad).id
    have f42 := HJ0.out.b3.free 42
    have f39 := HJ0.out.b3.free 39
    have HV := Lib.hid hv
    clear hv HJ1 HJ0 c0
    go_upto_region 5 with fail
    clear s42 s39 f42 f39 c0'
    generalize (wA.setCell ⟨g3, 42, none⟩ (.bool false)).setCell ⟨g3, 39, none⟩ (.int .u32 0) = wB at *
    go_wp2_with fail
    go_loopw [22] (fun i wr => ∃ (k : Nat) (du : Value), i = .int .i64 (k : Int) ∧ k ≤ n ∧ JS w wr g2 g3 { joinH x0.p with d := datas ((xs.take k).map X.p) } v1 du) (fun i _ => n - (intOf i).toNat)
    case atStart => exact ⟨0, _, rfl, by omega, HJ.out⟩
    case round =>
      obtain ⟨k, du, rfl, hk, hj⟩ := hrel
      have HJr := Lib.hid hj
      clear hj
      by_cases hlt : k < n
      · obtain ⟨x, hxk, hxm⟩ := get_of (show k < xs.length by have := HN.out; omega)
        obtain ⟨b', o', hbo, hrx, hokx⟩ := (HX.out.on HJr.out.aw).at hxk
        obtain ⟨rfl, rfl⟩ : xb = b' ∧ xo = o' := by simpa using hbo
        have HRX : Hid (wr.rangeAt xb (xo + k * 46) (listP x.p x.o x.d)) := hrx
        have HOK : Hid (Pkt wr x.p x.o x.d) := hokx
        have HAX := Lib.hid hokx.wf.ad
        have HOV := Lib.hid hokx.ov; have HDV := Lib.hid hokx.dv
        have HXK := Lib.hid hxk
        clear hxk hxm hrx hokx hbo
        have i2 : 0 ≤ (k : Int) := by omega
        have i3 : (k : Int) < (n : Int) := by omega
        have i4 : ((k : Int)).toNat = k := by omega
        go_wp2_with (refine wpList_pick28 rfl _ rfl rfl rfl rfl _ _ rfl xb (xo + k * 46) rfl x.p x.o x.d (by exact HRX.out) HAX.out HOV.out HDV.out (fun g => rfl) (fun g => rfl) ?_; refine Hid.out ?_)
        refine Lib.hid ?_
        intro g5 y1 hg5 hb5 haw5
        replace HJr := Lib.hid (HJr.out.on haw5)
        replace HOK := Lib.hid (HOK.out.on haw5)
        have c5 := (hb5.cells HAX.out).d
        have hl5 := hb5.lt
        clear hb5 haw5 HRX hg5
        have HSL := Lib.hid HOK.out.d
        obtain ⟨xda, xdc, hxd, -, -, -⟩ := HOK.out.d
        rw [hxd] at c5 HSL
        have c3 := (HJr.out.b3.cells HJr.out.ad).d
        obtain ⟨ua, un, uc, hu⟩ := HJr.out.od.shp
        subst hu
        have HEX : Hid (datas ((xs.take (k + 1)).map X.p) = datas ((xs.take k).map X.p) ++ x.p.d) := by
          show _ = _
          have h1 := lt_of_get HXK.out
          have h2 : xs[k] = x := by have := HXK.out; rw [List.getElem?_eq_getElem h1] at this; simpa using this
          rw [List.take_succ_eq_append_getElem h1, h2, List.map_append]; unfold datas; rw [List.flatMap_append]; simp
        have HDL : Hid ((datas ((xs.take k).map X.p)).length + x.p.d.length ≤ 140737488355328) := by
          show _ ≤ _
          have h1 := HTOT.out
          have h2 : datas (xs.map X.p) = datas ((xs.take (k + 1)).map X.p) ++ datas ((xs.drop (k + 1)).map X.p) := by
            have : xs.map X.p = (xs.take (k + 1)).map X.p ++ (xs.drop (k + 1)).map X.p := by rw [← List.map_append, List.take_append_drop]
            rw [this]; unfold datas; rw [List.flatMap_append]
          rw [h2, HEX.out] at h1
          simp only [List.length_append] at h1
          omega
        go_wp2_with (refine wpList_appAny rfl _ _ rfl _ _ x.p.d rfl HJr.out.od _ rfl (by exact HSL.out) HDL.out ?_; refine Hid.out ?_)
        refine Lib.hid ?_
        intro vn y2 hown haway hmoved hsz
        replace hown : Owns y2 vn (datas ((xs.take k).map X.p) ++ x.p.d) := by first | exact hown | (rw [List.map_take]; exact hown)
        have HJ2 : Hid (JS w y2 g2 g3 { joinH x0.p with d := datas ((xs.take k).map X.p) } v1 (.slice ua un uc) ∨ True) := .inr trivial
        clear HJ2
        have hua : ∀ k', (Value.slice ua un uc).ownBlock = some k' → k' ∈ ([] : List Nat) ∨ w.heap.size ≤ k' := fun k' hk' => .inr (HJr.out.nd k' hk')
        have hA2 : Away [] w y2 := haway [] w HJr.out.aw hua
        have hbu : ∀ (j : Nat), (∀ k', (Value.slice ua un uc).ownBlock = some k' → k' ≠ j) → ∀ {o : Obj}, y1.heap[j]? = some o → y2.heap[j]? = some o := fun j hj o ho => by
          rcases h : (Value.slice ua un uc).ownBlock with _ | u
          · exact (haway [] y1 (Away.refl _ _) (by rw [h]; simp)).keep (by simp) ho
          · exact (haway [u] y1 (Away.refl _ _) (by rw [h]; intro k' hk'; simp at hk'; subst hk'; simp)).keep (by have := hj u h; simp; omega) ho
        have hB2 : BoxP y2 g2 zeroPk (.slice none 0 0) (.slice none 0 0) := hbu g2 (fun k' hk' => (HJr.out.o1 k' (.inr hk')).1) HJr.out.b2
        have hB3 : BoxP y2 g3 { joinH x0.p with d := datas ((xs.take k).map X.p) } v1 (.slice ua un uc) := hbu g3 (fun k' hk' => (HJr.out.o1 k' (.inr hk')).2) HJr.out.b3
        have hO2 : Owns y2 v1 x0.p.o := by
          rcases h : (Value.slice ua un uc).ownBlock with _ | u
          · exact HJr.out.oo.away (haway [] y1 (Away.refl _ _) (by rw [h]; simp)) (by simp)
          · exact HJr.out.oo.away (haway [u] y1 (Away.refl _ _) (by rw [h]; intro k' hk'; simp at hk'; subst hk'; simp)) (fun k' hk' e => by simp at e; subst e; exact HJr.out.ap k' hk' h)
        have hlt1 := HJr.out.oo.lt
        have hl2 := HJr.out.b2.lt; have hl3 := HJr.out.b3.lt
        have hvn : ∀ k', vn.ownBlock = some k' → w.heap.size ≤ k' ∧ k' ≠ g2 ∧ k' ≠ g3 ∧ v1.ownBlock ≠ some k' := fun k' hk' => by
          rcases hmoved k' hk' with h | h
          · exact ⟨HJr.out.nd k' h, (HJr.out.o1 k' (.inr h)).1, (HJr.out.o1 k' (.inr h)).2, fun e => HJr.out.ap k' e h⟩
          · have := HJr.out.aw.size
            exact ⟨by omega, by omega, by omega, fun e => by have := hlt1 k' e; omega⟩
        have hP := hB3.put 45 vn ((csP_set HJr.out.ad v1 (.slice ua un uc)).2.2.2.2.2.2.2.2.2.2.2.2.2 (datas ((xs.take (k + 1)).map X.p)) vn)
        have hAP := away_put (w := y2) (g := g3) 45 vn
        have HJ3 : Hid (JS w (y2.setCell ⟨g3, 45, none⟩ vn) g2 g3 { joinH x0.p with d := datas ((xs.take (k + 1)).map X.p) } v1 vn) :=
          ⟨hB2.away hAP (by simp; exact HJr.out.ne), hP, hA2.setCell (.inr HJr.out.n3) _, HJr.out.ad, HJr.out.n2, HJr.out.n3, HJr.out.ne, hO2.away hAP (fun k' hk' => by simpa using (HJr.out.o1 k' (.inl hk')).2), by
            show Owns _ vn (datas ((xs.take (k + 1)).map X.p))
            rw [HEX.out]
            exact hown.away hAP (fun k' hk' => by simpa using (hvn k' hk').2.2.1), HJr.out.no, fun k' hk' => (hvn k' hk').1, fun k' hk' e => (hvn k' e).2.2.2 hk', fun k' hk' => by
            rcases hk' with hk' | hk'
            · exact HJr.out.o1 k' (.inl hk')
            · exact ⟨(hvn k' hk').2.1, (hvn k' hk').2.2.1⟩⟩
        have s45 := (hB3.cells HJr.out.ad).d
        have f45 := hB3.free 45
        obtain ⟨na, nn, nc, hn'⟩ := hown.shp
        subst hn'
        clear c5 c3 hua hA2 hbu hB2 hB3 hO2 hlt1 hl2 hl3 hvn hP hAP hown haway hmoved hsz HEX HDL HSL HOK HJr
        go_wp2_with fail
        clear s45 f45
        generalize y2.setCell ⟨g3, 45, none⟩ (.slice na nn nc) = wz at *
        go_roundw
        case rel => exact ⟨k + 1, _, by go_num, by omega, HJ3.out⟩
        case measure => simp [intOf]; omega
      · obtain rfl : k = n := by omega
        have HJ4 : Hid (JS w wr g2 g3 (joinD (xs.map X.p)) v1 du) := by
          have := HJr.out
          rw [List.take_of_length_le (by have := HN.out; omega)] at this
          have e : joinD (xs.map X.p) = { joinH x0.p with d := datas (xs.map X.p) } := HJD.out
          show JS _ _ _ _ _ _ _
          rw [e]; exact this
        clear HJr
        have HONE : Hid (v1.oneCell' = true ∧ du.oneCell' = true) := ⟨HJ4.out.oo.one, HJ4.out.od.one⟩
        go_wp2_with (first
          | (refine wpList_load28 rfl _ rfl _ rfl (joinD (xs.map X.p)) _ _ (by exact HJ4.out.b3) HJ4.out.ad ?_)
          | (refine wpList_store28 rfl _ _ rfl _ rfl (joinD (xs.map X.p)) v1 du rfl zeroPk (.slice none 0 0) (.slice none 0 0) (by exact HJ4.out.b2) HJ4.out.ad ⟨rfl, rfl⟩ HONE.out.1 HONE.out.2 ?_; refine Hid.out ?_))
        refine Lib.hid ?_
        intro w9 hb9 haw9
        have HB9 := Lib.hid hb9
        have HA9 : Hid (Away [] w w9) := HJ4.out.aw.next haw9 (fun x hx => .inr (by have := HJ4.out.n2; simp at hx; omega))
        have HM9 := Lib.hid (HJ4.out.mine.away haw9 (fun k' hk' => by simpa using (HJ4.out.o1 k' hk').1))
        clear hb9 haw9
        have hv1 := HV1.out
        subst hv1
        go_wp2_with fail
        exact bodyPost_ret (result28 rfl _ _ _ _ _ _ rfl HB9.out HJ4.out.ad) rfl ⟨_, _, rfl, HM9.out, HA9.out⟩
  · have HJ : Hid (JS w wA g2 g3 { joinH x0.p with d := datas ((xs.take 0).map X.p) } v1 (.slice none 0 0)) := by
      have e : ({ joinH x0.p with d := datas ((xs.take 0).map X.p) } : Pk) = { x0.p with more := false, d := [] } := by
        simp [joinH, hv, datas]
      show JS _ _ _ _ _ _ _
      rw [e]; exact HJ0.out
    obtain ⟨pv, hpv⟩ : ∃ z, z = x0.p.v := ⟨_, rfl⟩
    have c0' : wA.cell? ⟨g3, 0, none⟩ = some (.int .i64 pv) := by rw [hpv]; exact c0
    rw [← hpv] at hv
    have dv6 : decide (pv = 6) = false := by simp [hv]
    have dvb : (pv == 6) = false := by simp [hv]
    clear c0 HJ0 hpv
    go_upto_region 5 with fail
    clear c0'
    go_wp2_with fail
    go_loopw [22] (fun i wr => ∃ (k : Nat) (du : Value), i = .int .i64 (k : Int) ∧ k ≤ n ∧ JS w wr g2 g3 { joinH x0.p with d := datas ((xs.take k).map X.p) } v1 du) (fun i _ => n - (intOf i).toNat)
    case atStart => exact ⟨0, _, rfl, by omega, HJ.out⟩
    case round =>
      obtain ⟨k, du, rfl, hk, hj⟩ := hrel
      have HJr := Lib.hid hj
      clear hj
      by_cases hlt : k < n
      · obtain ⟨x, hxk, hxm⟩ := get_of (show k < xs.length by have := HN.out; omega)
        obtain ⟨b', o', hbo, hrx, hokx⟩ := (HX.out.on HJr.out.aw).at hxk
        obtain ⟨rfl, rfl⟩ : xb = b' ∧ xo = o' := by simpa using hbo
        have HRX : Hid (wr.rangeAt xb (xo + k * 46) (listP x.p x.o x.d)) := hrx
        have HOK : Hid (Pkt wr x.p x.o x.d) := hokx
        have HAX := Lib.hid hokx.wf.ad
        have HOV := Lib.hid hokx.ov; have HDV := Lib.hid hokx.dv
        have HXK := Lib.hid hxk
        clear hxk hxm hrx hokx hbo
        have i2 : 0 ≤ (k : Int) := by omega
        have i3 : (k : Int) < (n : Int) := by omega
        have i4 : ((k : Int)).toNat = k := by omega
        go_wp2_with (refine wpList_pick28 rfl _ rfl rfl rfl rfl _ _ rfl xb (xo + k * 46) rfl x.p x.o x.d (by exact HRX.out) HAX.out HOV.out HDV.out (fun g => rfl) (fun g => rfl) ?_; refine Hid.out ?_)
        refine Lib.hid ?_
        intro g5 y1 hg5 hb5 haw5
        replace HJr := Lib.hid (HJr.out.on haw5)
        replace HOK := Lib.hid (HOK.out.on haw5)
        have c5 := (hb5.cells HAX.out).d
        have hl5 := hb5.lt
        clear hb5 haw5 HRX hg5
        have HSL := Lib.hid HOK.out.d
        obtain ⟨xda, xdc, hxd, -, -, -⟩ := HOK.out.d
        rw [hxd] at c5 HSL
        have c3 := (HJr.out.b3.cells HJr.out.ad).d
        obtain ⟨ua, un, uc, hu⟩ := HJr.out.od.shp
        subst hu
        have HEX : Hid (datas ((xs.take (k + 1)).map X.p) = datas ((xs.take k).map X.p) ++ x.p.d) := by
          show _ = _
          have h1 := lt_of_get HXK.out
          have h2 : xs[k] = x := by have := HXK.out; rw [List.getElem?_eq_getElem h1] at this; simpa using this
          rw [List.take_succ_eq_append_getElem h1, h2, List.map_append]; unfold datas; rw [List.flatMap_append]; simp
        have HDL : Hid ((datas ((xs.take k).map X.p)).length + x.p.d.length ≤ 140737488355328) := by
          show _ ≤ _
          have h1 := HTOT.out
          have h2 : datas (xs.map X.p) = datas ((xs.take (k + 1)).map X.p) ++ datas ((xs.drop (k + 1)).map X.p) := by
            have : xs.map X.p = (xs.take (k + 1)).map X.p ++ (xs.drop (k + 1)).map X.p := by rw [← List.map_append, List.take_append_drop]
            rw [this]; unfold datas; rw [List.flatMap_append]
          rw [h2, HEX.out] at h1
          simp only [List.length_append] at h1
          omega
        go_wp2_with (refine wpList_appAny rfl _ _ rfl _ _ x.p.d rfl HJr.out.od _ rfl (by exact HSL.out) HDL.out ?_; refine Hid.out ?_)
        refine Lib.hid ?_
        intro vn y2 hown haway hmoved hsz
        replace hown : Owns y2 vn (datas ((xs.take k).map X.p) ++ x.p.d) := by first | exact hown | (rw [List.map_take]; exact hown)
        have HJ2 : Hid (JS w y2 g2 g3 { joinH x0.p with d := datas ((xs.take k).map X.p) } v1 (.slice ua un uc) ∨ True) := .inr trivial
        clear HJ2
        have hua : ∀ k', (Value.slice ua un uc).ownBlock = some k' → k' ∈ ([] : List Nat) ∨ w.heap.size ≤ k' := fun k' hk' => .inr (HJr.out.nd k' hk')
        have hA2 : Away [] w y2 := haway [] w HJr.out.aw hua
        have hbu : ∀ (j : Nat), (∀ k', (Value.slice ua un uc).ownBlock = some k' → k' ≠ j) → ∀ {o : Obj}, y1.heap[j]? = some o → y2.heap[j]? = some o := fun j hj o ho => by
          rcases h : (Value.slice ua un uc).ownBlock with _ | u
          · exact (haway [] y1 (Away.refl _ _) (by rw [h]; simp)).keep (by simp) ho
          · exact (haway [u] y1 (Away.refl _ _) (by rw [h]; intro k' hk'; simp at hk'; subst hk'; simp)).keep (by have := hj u h; simp; omega) ho
        have hB2 : BoxP y2 g2 zeroPk (.slice none 0 0) (.slice none 0 0) := hbu g2 (fun k' hk' => (HJr.out.o1 k' (.inr hk')).1) HJr.out.b2
        have hB3 : BoxP y2 g3 { joinH x0.p with d := datas ((xs.take k).map X.p) } v1 (.slice ua un uc) := hbu g3 (fun k' hk' => (HJr.out.o1 k' (.inr hk')).2) HJr.out.b3
        have hO2 : Owns y2 v1 x0.p.o := by
          rcases h : (Value.slice ua un uc).ownBlock with _ | u
          · exact HJr.out.oo.away (haway [] y1 (Away.refl _ _) (by rw [h]; simp)) (by simp)
          · exact HJr.out.oo.away (haway [u] y1 (Away.refl _ _) (by rw [h]; intro k' hk'; simp at hk'; subst hk'; simp)) (fun k' hk' e => by simp at e; subst e; exact HJr.out.ap k' hk' h)
        have hlt1 := HJr.out.oo.lt
        have hl2 := HJr.out.b2.lt; have hl3 := HJr.out.b3.lt
        have hvn : ∀ k', vn.ownBlock = some k' → w.heap.size ≤ k' ∧ k' ≠ g2 ∧ k' ≠ g3 ∧ v1.ownBlock ≠ some k' := fun k' hk' => by
          rcases hmoved k' hk' with h | h
          · exact ⟨HJr.out.nd k' h, (HJr.out.o1 k' (.inr h)).1, (HJr.out.o1 k' (.inr h)).2, fun e => HJr.out.ap k' e h⟩
          · have := HJr.out.aw.size
            exact ⟨by omega, by omega, by omega, fun e => by have := hlt1 k' e; omega⟩
        have hP := hB3.put 45 vn ((csP_set HJr.out.ad v1 (.slice ua un uc)).2.2.2.2.2.2.2.2.2.2.2.2.2 (datas ((xs.take (k + 1)).map X.p)) vn)
        have hAP := away_put (w := y2) (g := g3) 45 vn
        have HJ3 : Hid (JS w (y2.setCell ⟨g3, 45, none⟩ vn) g2 g3 { joinH x0.p with d := datas ((xs.take (k + 1)).map X.p) } v1 vn) :=
          ⟨hB2.away hAP (by simp; exact HJr.out.ne), hP, hA2.setCell (.inr HJr.out.n3) _, HJr.out.ad, HJr.out.n2, HJr.out.n3, HJr.out.ne, hO2.away hAP (fun k' hk' => by simpa using (HJr.out.o1 k' (.inl hk')).2), by
            show Owns _ vn (datas ((xs.take (k + 1)).map X.p))
            rw [HEX.out]
            exact hown.away hAP (fun k' hk' => by simpa using (hvn k' hk').2.2.1), HJr.out.no, fun k' hk' => (hvn k' hk').1, fun k' hk' e => (hvn k' e).2.2.2 hk', fun k' hk' => by
            rcases hk' with hk' | hk'
            · exact HJr.out.o1 k' (.inl hk')
            · exact ⟨(hvn k' hk').2.1, (hvn k' hk').2.2.1⟩⟩
        have s45 := (hB3.cells HJr.out.ad).d
        have f45 := hB3.free 45
        obtain ⟨na, nn, nc, hn'⟩ := hown.shp
        subst hn'
        clear c5 c3 hua hA2 hbu hB2 hB3 hO2 hlt1 hl2 hl3 hvn hP hAP hown haway hmoved hsz HEX HDL HSL HOK HJr
        go_wp2_with fail
        clear s45 f45
        generalize y2.setCell ⟨g3, 45, none⟩ (.slice na nn nc) = wz at *
        go_roundw
        case rel => exact ⟨k + 1, _, by go_num, by omega, HJ3.out⟩
        case measure => simp [intOf]; omega
      · obtain rfl : k = n := by omega
        have HJ4 : Hid (JS w wr g2 g3 (joinD (xs.map X.p)) v1 du) := by
          have := HJr.out
          rw [List.take_of_length_le (by have := HN.out; omega)] at this
          have e : joinD (xs.map X.p) = { joinH x0.p with d := datas (xs.map X.p) } := HJD.out
          show JS _ _ _ _ _ _ _
          rw [e]; exact this
        clear HJr
        have HONE : Hid (v1.oneCell' = true ∧ du.oneCell' = true) := ⟨HJ4.out.oo.one, HJ4.out.od.one⟩
        go_wp2_with (first
          | (refine wpList_load28 rfl _ rfl _ rfl (joinD (xs.map X.p)) _ _ (by exact HJ4.out.b3) HJ4.out.ad ?_)
          | (refine wpList_store28 rfl _ _ rfl _ rfl (joinD (xs.map X.p)) v1 du rfl zeroPk (.slice none 0 0) (.slice none 0 0) (by exact HJ4.out.b2) HJ4.out.ad ⟨rfl, rfl⟩ HONE.out.1 HONE.out.2 ?_; refine Hid.out ?_))
        refine Lib.hid ?_
        intro w9 hb9 haw9
        have HB9 := Lib.hid hb9
        have HA9 : Hid (Away [] w w9) := HJ4.out.aw.next haw9 (fun x hx => .inr (by have := HJ4.out.n2; simp at hx; omega))
        have HM9 := Lib.hid (HJ4.out.mine.away haw9 (fun k' hk' => by simpa using (HJ4.out.o1 k' hk').1))
        clear hb9 haw9
        have hv1 := HV1.out
        subst hv1
        go_wp2_with fail
        exact bodyPost_ret (result28 rfl _ _ _ _ _ _ rfl HB9.out HJ4.out.ad) rfl ⟨_, _, rfl, HM9.out, HA9.out⟩
end R
#print axioms R.joined_c
end Go.Proofs.YtaicckenpplceaaGreatDoor

namespace Go.Proofs.YtaicckenpplceaaGreatDoor
open Go.ChangeShapes Go.WideShapes Go.ChangeAt Go.RowKit Go.Shelf Num
set_option linter.unusedVariables false
set_option maxHeartbeats 4000000
set_option maxRecDepth 100000

namespace R
/-! The sort. -/
def cmpP (x y : Int) : Int := if x < y then -1 else if y < x then 1 else 0
theorem isNaN_c (x : Int) (w : World) : Calls Tryz.prog 30 #[.int .i64 x] w fun e w' => e = .returned (.bool false) ∧ w' = w := by
  go_enter Tryz.func30, Tryz.ntmps30
  go_wp2
  go_ret
  exact ⟨rfl, rfl⟩
theorem compare_c (x y : Int) (w : World) : Calls Tryz.prog 13 #[.int .i64 x, .int .i64 y] w fun e w' => e = .returned (.int .i64 (cmpP x y)) ∧ w' = w := by
  rcases Int.lt_trichotomy x y with h | h | h
  · have HC : Hid (cmpP x y = -1) := by show _ = _; unfold cmpP; rw [if_pos h]
    generalize cmpP x y = r at *
    go_enter Tryz.func13, Tryz.ntmps13
    go_wp2_with (go_at_call 30; refine (isNaN_c _ _).mono ?_; rintro e w' ⟨rfl, rfl⟩)
    go_ret
    exact ⟨by rw [HC.out]; rfl, rfl⟩
  · subst h
    have HC : Hid (cmpP x x = 0) := by show _ = _; unfold cmpP; rw [if_neg (by omega), if_neg (by omega)]
    generalize cmpP x x = r at *
    go_enter Tryz.func13, Tryz.ntmps13
    go_wp2_with (go_at_call 30; refine (isNaN_c _ _).mono ?_; rintro e w' ⟨rfl, rfl⟩)
    go_ret
    exact ⟨by rw [HC.out]; rfl, rfl⟩
  · have HC : Hid (cmpP x y = 1) := by show _ = _; unfold cmpP; rw [if_neg (by omega), if_pos h]
    generalize cmpP x y = r at *
    go_enter Tryz.func13, Tryz.ntmps13
    go_wp2_with (go_at_call 30; refine (isNaN_c _ _).mono ?_; rintro e w' ⟨rfl, rfl⟩)
    go_ret
    exact ⟨by rw [HC.out]; rfl, rfl⟩
/-- A packet whose cells are 46. -/
abbrev XA : Type := { x : X // Ad x.p ∧ x.o.oneCell' = true ∧ x.d.oneCell' = true }
def encX (x : XA) : List Value := x.1.cells
theorem encX_len (x : XA) : (encX x).length = 46 := listP_len x.2.1 _ _
theorem encX_one (x : XA) : ∀ v ∈ encX x, v.oneCell' = true := listP_one _ _ _ x.2.2.1 x.2.2.2
def cfX (x y : XA) : Int := cmpP x.1.p.off y.1.p.off
theorem lt_cf (x y : XA) : ltOf cfX x y = decide (x.1.p.off < y.1.p.off) := by
  unfold ltOf cfX cmpP
  by_cases h1 : x.1.p.off < y.1.p.off
  · simp [h1]
  · by_cases h2 : y.1.p.off < x.1.p.off <;> simp [h1, h2]
theorem swo_cf : Sort.SWO (ltOf cfX) where
  irrefl x := by rw [lt_cf]; simp
  trans x y z h1 h2 := by rw [lt_cf] at *; simp at *; omega
  ntrans x y z h1 h2 := by rw [lt_cf] at *; simp at *; omega
theorem wpList_box28e {ops : Array Oper} {rest : List Oper} {o : Oper} {a : Act} {w : World} {Q : Exit → Act → World → Prop} (hg : o.guard = none) (x : Operand) (ho : o.op = .box 29 x)
    (p : Pk) (ov dv : Value) (hx : a.eval x = .agg (csP p ov dv))
    (h : ∀ g w1, w.heap.size ≤ g → BoxP w1 g p ov dv → Away [] w w1 → Hid (∃ os, w1 = Sort.grow w os) → wpList Tryz.prog ops Q rest (a.put o.dst (.pointer (some ⟨g, 0, none⟩))) w1) : wpList Tryz.prog ops Q (o :: rest) a w := by
  refine wpList_plain hg fun K hK => ?_
  unfold Oper.wp execOp
  simp only [ho, hx, Sem.run_bind, Instr.box, newVar, newRow, run_newObj_alloc, Sem.run_pure, Result.andThen_ok]
  exact hK _ _ (h w.heap.size _ (Nat.le_refl _) (block_new _ _) ((Away.refl [] w).alloc _) ⟨_, Sort.alloc_eq_grow _ _⟩)
theorem closure_c (x y : XA) (W : World) : Calls Tryz.prog 12 #[.agg (encX x).toArray, .agg (encX y).toArray] W fun e w' => e = .returned (.int .i64 (cfX x y)) ∧ ∃ q os', w' = Sort.grow (W.drewN q) os' := by
  obtain ⟨⟨p, po, pd⟩, hap, -⟩ := x
  obtain ⟨⟨q, qo, qd⟩, haq, -⟩ := y
  show Calls Tryz.prog 12 #[.agg (csP p po pd), .agg (csP q qo qd)] W fun e w' => e = .returned (.int .i64 (cmpP p.off q.off)) ∧ ∃ q os', w' = Sort.grow (W.drewN q) os'
  have hcon := fun W' => compare_c p.off q.off W'
  have HC := Lib.hid hcon
  clear hcon
  generalize cmpP p.off q.off = r at *
  have HAP := Lib.hid hap; have HAQ := Lib.hid haq
  clear hap haq
  go_enter Tryz.func12, Tryz.ntmps12
  go_wp2_with (refine wpList_box28e rfl _ rfl p _ _ rfl ?_; refine Hid.out ?_)
  refine Lib.hid ?_
  intro g1 w1 hg1 hb1 haw1 HW1
  have HB1 := Lib.hid hb1
  clear hb1 haw1 hg1
  go_wp2_with (refine wpList_box28e rfl _ rfl q _ _ rfl ?_; refine Hid.out ?_)
  refine Lib.hid ?_
  intro g2 w2 hg2 hb2 haw2 HW2
  have c1 := ((HB1.out.on haw2).cells HAP.out).off
  have c2 := (hb2.cells HAQ.out).off
  clear hb2 haw2 hg2 HB1
  go_wp2_with fail
  refine (HC.out _).mono ?_
  rintro e w3 ⟨rfl, rfl⟩
  clear c1 c2
  go_wp2_with fail
  go_ret
  refine ⟨rfl, 0, ?_⟩
  obtain ⟨o1, h1⟩ := HW1.out
  obtain ⟨o2, h2⟩ := HW2.out
  exact ⟨_, by rw [h2, h1, Sort.grow_grow]; rfl⟩
theorem cmpLays_c [Inhabited XA] (blk off size : Nat) (w : World) : CmpLays Tryz.prog 12 #[] encX 46 cfX blk off size w := fun _ _ _ _ x y => closure_c x y _
/-- Sorted by their offsets. -/
def Srt (l : List Pk) : Prop := l.Pairwise (fun p q => p.off ≤ q.off)
theorem exists_as {xs : List X} (h : ∀ x ∈ xs, Ad x.p ∧ x.o.oneCell' = true ∧ x.d.oneCell' = true) : ∃ ls : List XA, ls.map Subtype.val = xs := by
  induction xs with
  | nil => exact ⟨[], rfl⟩
  | cons x r ih =>
    obtain ⟨ls, e⟩ := ih (fun y hy => h y (by simp [hy]))
    exact ⟨⟨x, h x (by simp)⟩ :: ls, by simp [e]⟩
theorem as_ad (ls : List XA) : ∀ x ∈ ls.map Subtype.val, Ad x.p := by
  intro x hx
  obtain ⟨a, -, rfl⟩ := List.mem_map.1 hx
  exact a.2.1
theorem flatK_get [Inhabited XA] (ls : List XA) (t : Nat) (h : t < ls.length * 46) : ((ls.map Subtype.val).flatMap X.cells)[t]? = some (Sort.flatK encX 46 ls.toArray)[t]! := by
  rw [Sort.get_flatK _ _ _ _ (by simpa using h)]
  obtain ⟨x, hx, _⟩ := get_of (show t / 46 < ls.length by omega)
  have e : ls.toArray[t / 46]! = x := by simp [Array.getElem!_eq_getD, Array.getD_eq_getD_getElem?, hx]
  rw [e]
  have hl := encX_len x
  have hv : (encX x)[t % 46]? = some (encX x)[t % 46]! := by
    rw [List.getElem!_eq_getElem?_getD, List.getElem?_eq_getElem (by omega)]; rfl
  have := flatP_get (ls.map Subtype.val) (t / 46) x.1 (as_ad ls) (by simp [hx]) (t % 46) _ hv
  rw [show t / 46 * 46 + t % 46 = t from by omega] at this
  exact this
theorem away_sort [Inhabited XA] {w : World} {g n : Nat} (d : Array XA) (os : Array Obj) : Away [g] w (sortWorldK encX 46 w g 0 n d os) := by
  have hs : (Sort.putRowK encX 46 (Sort.ahead w n) g 0 d).heap.size = w.heap.size := by simp [Sort.putRowK]
  refine ⟨rfl, rfl, rfl, by unfold sortWorldK Sort.grow; simp [hs], fun k hk hn => ?_⟩
  unfold sortWorldK Sort.grow
  simp only
  rw [Array.getElem?_append_left (by rw [hs]; exact hk)]
  unfold Sort.putRowK Sort.putRow Sort.mapBlock
  simp only [Array.getElem?_modify]
  rw [if_neg (by simp at hn; omega)]
  rfl
theorem sort_c (g n cap : Nat) (xs : List X) (w0 w : World) (hn : xs.length = n) (hxl : n ≤ 925904528640) (h : LstP w (.slice (some ⟨g, 0, none⟩) n cap) xs) (hok : ∀ x ∈ xs, x.ok w0) (h0 : Away [] w0 w) (hg : w0.heap.size ≤ g) :
    Calls Tryz.prog 11 #[.slice (some ⟨g, 0, none⟩) n cap, .func (.func 12) #[] #[]] w fun E w' =>
      ∃ ys, E = .returned (.tuple #[]) ∧ ys.Perm xs ∧ Srt (ys.map X.p) ∧ Pks w' (some ⟨g, 0, none⟩) ys ∧ Away [] w0 w' := by
  have hinh : Inhabited XA := ⟨⟨⟨zeroPk, .slice none 0 0, .slice none 0 0⟩, ⟨rfl, rfl⟩, rfl, rfl⟩⟩
  obtain ⟨ls, has⟩ := exists_as (fun x hx => ⟨(hok x hx).wf.ad, (hok x hx).ov, (hok x hx).dv⟩)
  subst hn
  have hal : ls.length = xs.length := by rw [← has]; simp
  have eg : ∀ args w, (callFunc 12 args).run Tryz.prog w = .ok (.enter 12 args) w := enters_of Tryz.func12 (by kernel_rfl) rfl
  obtain ⟨cur, hblk⟩ : ∃ cur, w.heap[g]? = some (.cells cur 29 (0, 0)) := by
    rcases h.2 with ⟨h2, -⟩ | ⟨g', c, cur, h2, -, hh, -⟩
    · simp at h2
    · simp only [Value.slice.injEq, Option.some.injEq, Addr.mk.injEq] at h2
      obtain ⟨⟨rfl, -⟩, -⟩ := h2
      exact ⟨cur, hh⟩
  have hlt : g < w.heap.size := lt_of_block hblk
  have hH : Sort.HoldsK encX 46 w g 0 ls.toArray := by
    intro j hj
    have hj' : j < ls.length * 46 := by simpa using hj
    refine ⟨?_, free_of_block hblk _⟩
    have := World.ownsRow.cellAt h j (by omega)
    rw [← has, flatK_get ls j hj'] at this
    simpa using this
  have hcon := AnyQ.slices_SortFunc Tryz.sortPk 46 (fun w => by kernel_rfl) (fun w => by kernel_rfl) encX encX_len encX_one cfX swo_cf 12 #[] g 0 cap ls.toArray w eg (cmpLays_c g 0 _ w) hH hlt (by simp; omega)
  change Calls Tryz.prog 11 _ _ _ at hcon
  simp only [List.size_toArray, hal] at hcon
  refine hcon.mono ?_
  rintro E w' ⟨rfl, d', q, os, hp, hs, rfl⟩
  obtain ⟨hsz, -, hpm⟩ := hp
  have hsz' : d'.size = ls.length := by simpa using hsz
  have hperm : d'.toList.Perm ls := by
    have e1 : (d'.extract 0 xs.length).toList = d'.toList := by rw [← hal, ← hsz']; simp
    have e2 : (ls.toArray.extract 0 xs.length).toList = ls := by rw [← hal]; simp
    have := hpm
    rw [e1, e2] at this
    exact this
  have hpx : (d'.toList.map Subtype.val).Perm xs := by rw [← has]; exact hperm.map _
  have hsort : Srt ((d'.toList.map Subtype.val).map X.p) := by
    unfold Srt
    rw [List.map_map, List.pairwise_map, List.pairwise_iff_getElem]
    intro i j hi hj hij
    have hj' : j < d'.size := by simpa using hj
    have hi' : i < d'.size := by simpa using hi
    have := hs i j (Nat.zero_le _) hij (by omega)
    rw [lt_cf, getElem!_pos d' j hj', getElem!_pos d' i hi'] at this
    simp at this
    simpa using this
  have haw : Away [] w0 (sortWorldK encX 46 w g 0 q d' os) := h0.next (away_sort d' os) (fun x hx => .inr (by simp at hx; omega))
  refine ⟨d'.toList.map Subtype.val, rfl, hpx, hsort, ⟨by rw [hpx.length_eq]; exact hxl, fun x hx => (hok x (hpx.mem_iff.1 hx)).on haw, .inr ⟨g, 0, rfl, fun i x hx j v hj => ?_⟩⟩, haw⟩
  have h1 := Sort.holdsK_putRowK encX 46 (Sort.ahead w q) g 0 ls.toArray d' hH (by simpa using hsz')
  have h2 := Sort.holdsK_grow encX 46 (Sort.putRowK encX 46 (Sort.ahead w q) g 0 d') os g 0 d' (by simp [Sort.putRowK]; exact hlt) h1
  have hi := lt_of_get hx
  have hA := as_ad d'.toList
  have hjl : j < 46 := by have := lt_of_get hj; rwa [X.cells, listP_len (hA x (List.mem_of_getElem? hx))] at this
  simp only [List.length_map, Array.length_toList] at hi
  have k1 := (h2 (i * 46 + j) (by simp; omega)).1
  have k2 := flatP_get _ i x hA hx j v hj
  rw [flatK_get d'.toList _ (by simp; omega)] at k2
  have k3 : (Sort.flatK encX 46 d')[i * 46 + j]! = v := by simpa using k2
  rw [k3] at k1
  have e : sortWorldK encX 46 w g 0 q d' os = Sort.grow (Sort.putRowK encX 46 (Sort.ahead w q) g 0 d') os := rfl
  rw [e]
  simpa using k1
theorem sort_none (b : Option Addr) (cap : Nat) (w : World) :
    Calls Tryz.prog 11 #[.slice b 0 cap, .func (.func 12) #[] #[]] w fun E w' => E = .returned (.tuple #[]) ∧ w' = w :=
  AnyF.slices_SortFunc_none Tryz.sortPk b cap _ w
end R
#print axioms R.sort_c
end Go.Proofs.YtaicckenpplceaaGreatDoor

namespace Go.Proofs.YtaicckenpplceaaGreatDoor
open Go.ChangeShapes Go.WideShapes Go.ChangeAt Go.RowKit Num
set_option linter.unusedVariables false
set_option maxHeartbeats 4000000
set_option maxRecDepth 100000

namespace R
/-- What Join tells of packets in the order of their offsets. -/
def joinS (l : List Pk) : Pk × Int :=
  if clashL l = true then (zeroPk, 1) else if (complL 0 l && (decide (0 < l.length) && !lastB l)) = false then (zeroPk, 110) else if rgtP (joinD l) = true then (joinD l, 0) else (zeroPk, 1)
/-- What Join tells: t packet, c error. -/
def JoinT (l : List Pk) (t : Pk) (c : Int) : Prop :=
  (akinL l = false ∧ t = zeroPk ∧ c = 1) ∨ (akinL l = true ∧ ∃ s, s.Perm l ∧ Srt s ∧ (t, c) = joinS s)
def JoinOut (w : World) (l : List Pk) (E : Ending) (w' : World) : Prop :=
  ∃ t c ov dv, JoinT l t c ∧ E = .returned (.tuple #[.agg (csP t ov dv), .int .i64 c]) ∧ Wf t ∧ Mine w' w.heap.size t ov dv ∧ Away [] w w'
theorem mine_zero (w : World) (B : Nat) : Mine w B zeroPk (.slice none 0 0) (.slice none 0 0) := ⟨Owns.nil _, Owns.nil _, New.nil _, New.nil _, fun k hk => by simp [Value.ownBlock] at hk⟩
theorem run_build28z (w : World) : (Instr.build 29 #[]).run Tryz.prog w = .ok (.agg (csP zeroPk (.slice none 0 0) (.slice none 0 0))) w := by kernel_rfl
theorem akin_right {l : List Pk} (h : akinL l = true) : ∀ p ∈ l, rgtP p = true := by
  cases l with
  | nil => simp
  | cons q r =>
    intro p hp
    have := List.all_eq_true.1 h p hp
    unfold likeB at this
    rw [Bool.and_eq_true] at this
    exact this.1
theorem join_wf {l : List Pk} (hl : l ≠ []) (hw : ∀ p ∈ l, Wf p) (hd : (datas l).length ≤ 140737488355328) : Wf (joinD l) := by
  cases l with
  | nil => exact absurd rfl hl
  | cons p r =>
    have h := hw p (by simp)
    refine ⟨h.v, h.tos, h.flow, h.sv, h.sl, h.sb, h.dv, h.dl, h.db, h.proto, h.ttl, ?_, ?_, h.off, h.o, h.ol, ?_, hd⟩
    · show 0 ≤ (if p.v = 6 then 0 else p.id); split; omega; exact h.id0
    · show (if p.v = 6 then 0 else p.id) ≤ 4294967295; split; omega; exact h.id1
    · show Bytes (datas (p :: r))
      intro x hx
      obtain ⟨q, hq, hxq⟩ := List.mem_flatMap.1 hx
      exact (hw q hq).d x hxq
theorem sort_any (xs : List X) (n : Nat) (w0 w1 w2 : World) (E : Ending) (hn : xs.length = n) (hxl : n ≤ 925904528640) (hok : ∀ x ∈ xs, x.ok w0) (h0 : Away [] w0 w1) (h : CloneOut w1 xs n E w2) :
    ∃ b c, E = .returned (.slice b n c) ∧ Away [] w0 w2 ∧ Calls Tryz.prog 11 #[.slice b n c, .func (.func 12) #[] #[]] w2 fun E w' => ∃ ys, E = .returned (.tuple #[]) ∧ ys.Perm xs ∧ Srt (ys.map X.p) ∧ Pks w' b ys ∧ Away [] w0 w' := by
  obtain ⟨v, rfl, hl, hnew, haw, h1, h2⟩ := h
  have hA := h0.on haw
  by_cases hz : n = 0
  · obtain ⟨b, c, rfl, -⟩ := h2 hz
    subst hz
    obtain rfl : xs = [] := List.eq_nil_of_length_eq_zero hn
    refine ⟨b, c, rfl, hA, (sort_none b c w2).mono ?_⟩
    rintro E w' ⟨rfl, rfl⟩
    exact ⟨[], rfl, List.Perm.refl _, .nil, Pks.nil _ _, hA⟩
  · obtain ⟨g, c, rfl⟩ := h1 hz
    have hg := hnew g rfl
    have := h0.size
    exact ⟨some ⟨g, 0, none⟩, c, rfl, hA, sort_c g n c xs w0 w2 hn hxl hl hok hA (by omega)⟩
theorem wpList_buildz {ops : Array Oper} {rest : List Oper} {o : Oper} {a : Act} {w : World} {Q : Exit → Act → World → Prop} (hg : o.guard = none) (ho : o.op = .build 29 #[])
    (h : wpList Tryz.prog ops Q rest (a.put o.dst (.agg (csP zeroPk (.slice none 0 0) (.slice none 0 0)))) w) : wpList Tryz.prog ops Q (o :: rest) a w := by
  refine wpList_plain hg fun K hK => ?_
  unfold Oper.wp execOp
  have e : (Array.map (fun x : Nat × Operand => (x.1, a.eval x.2)) #[]) = #[] := by simp
  simp only [ho, e, run_build28z, Sem.run_bind, Result.andThen_ok, Sem.run_pure]
  exact hK _ _ h
theorem join_c (a : Option Addr) (xs : List X) (n cap : Nat) (w : World) (hn : xs.length = n) (ha : a = none → cap = 0) (hx : Pks w a xs) (hg : Glob w) :
    Calls Tryz.prog 4 #[.slice a n cap] w fun E w' => JoinOut w (xs.map X.p) E w' := by
  have HX := Lib.hid hx; have HN := Lib.hid hn; have HG := Lib.hid hg; have HNA := Lib.hid ha
  have hxl := hx.1
  rw [hn] at hxl
  clear hx hn hg ha
  go_enter Tryz.func4, Tryz.ntmps4
  go_wp2_with (refine wpList_alloc28 rfl rfl ?_; refine Hid.out ?_)
  refine Lib.hid ?_
  intro g2 w1 hg2 hb2 haw1
  have HB2 := Lib.hid hb2; have HA := Lib.hid haw1
  clear hb2 haw1
  obtain ⟨ak, hak⟩ : ∃ z, z = akinL (xs.map X.p) := ⟨_, rfl⟩
  have HAK := Lib.hid hak
  clear hak
  go_wp2_with fail
  refine (akin_c a xs n cap _ HN.out (HX.out.on HA.out) (HG.out.on HA.out)).mono ?_
  rw [← HAK.out]
  rintro E w2 ⟨rfl, haw⟩
  replace HB2 := Lib.hid (HB2.out.on haw)
  replace HA := Lib.hid (HA.out.on haw)
  clear haw
  cases ak
  · go_wp2_with (first | (refine wpList_buildz rfl rfl ?_) | (refine wpList_store28 rfl _ _ rfl _ rfl zeroPk (.slice none 0 0) (.slice none 0 0) rfl zeroPk (.slice none 0 0) (.slice none 0 0) (by exact HB2.out) ⟨rfl, rfl⟩ ⟨rfl, rfl⟩ rfl rfl ?_; refine Hid.out ?_))
    refine Lib.hid ?_
    intro w9 hb9 haw9
    have HB9 := Lib.hid hb9
    have HA9 : Hid (Away [] w w9) := HA.out.next haw9 (fun x hx => .inr (by simp at hx; omega))
    clear hb9 haw9
    go_wp2_with fail
    exact bodyPost_ret (result28t rfl _ _ _ _ _ _ _ rfl rfl HB9.out ⟨rfl, rfl⟩) rfl ⟨zeroPk, 1, _, _, .inl ⟨HAK.out.symm, rfl, rfl⟩, rfl, zero_wf, mine_zero _ _, HA9.out⟩
  have HX2 := Lib.hid (HX.out.on HA.out)
  go_wp2_with fail
  refine (clone_c a xs n cap _ HN.out HNA.out HX2.out).mono ?_
  intro E w3 hcl
  obtain ⟨b, c, rfl, haw, hsort⟩ := sort_any xs n w2 w2 w3 E HN.out hxl HX2.out.2.1 (Away.refl _ _) hcl
  have HSO := Lib.hid hsort
  clear hcl hsort haw
  go_wp2_with fail
  refine HSO.out.mono ?_
  rintro E w4 ⟨ys, rfl, hpm, hsr, hpk, haw⟩
  have hyn : ys.length = n := by rw [hpm.length_eq]; exact HN.out
  have HYN := Lib.hid hyn
  have HPM : Hid ((ys.map X.p).Perm (xs.map X.p)) := hpm.map _
  have HSR := Lib.hid hsr; have HPK := Lib.hid hpk
  have HRG : Hid (∀ y ∈ ys, rgtP y.p = true) := fun y hy => akin_right HAK.out.symm y.p (HPM.out.mem_iff.1 (List.mem_map.2 ⟨y, hy, rfl⟩))
  replace HB2 := Lib.hid (HB2.out.on haw)
  replace HA := Lib.hid (HA.out.on haw)
  clear hpm hsr hpk haw hyn HSO HX2
  obtain ⟨l, hl⟩ : ∃ l, l = ys.map X.p := ⟨_, rfl⟩
  have HL := Lib.hid hl
  have HLN : Hid (l.length = n) := by show _ = _; rw [hl, List.length_map]; exact HYN.out
  clear hl
  obtain ⟨bc, hbc⟩ : ∃ z, z = clashL l := ⟨_, rfl⟩
  have HBC := Lib.hid hbc
  have KC : Hid (∀ w', Away [] w4 w' → Calls Tryz.prog 14 #[.slice b n c] w' fun E w'' => E = .returned (.bool bc) ∧ Away [] w' w'') := fun w' h => by
    rw [hbc, HL.out]; exact clash_c b ys n c w' HYN.out (HPK.out.on h) HRG.out
  clear hbc
  go_wp2_with fail
  refine (KC.out _ (Away.refl _ _)).mono ?_
  rintro E w5 ⟨rfl, haw⟩
  replace HB2 := Lib.hid (HB2.out.on haw)
  replace HA := Lib.hid (HA.out.on haw)
  replace HPK := Lib.hid (HPK.out.on haw)
  clear haw KC
  cases bc
  rotate_left
  · go_wp2_with (first | (refine wpList_buildz rfl rfl ?_) | (refine wpList_store28 rfl _ _ rfl _ rfl zeroPk (.slice none 0 0) (.slice none 0 0) rfl zeroPk (.slice none 0 0) (.slice none 0 0) (by exact HB2.out) ⟨rfl, rfl⟩ ⟨rfl, rfl⟩ rfl rfl ?_; refine Hid.out ?_))
    refine Lib.hid ?_
    intro w9 hb9 haw9
    have HB9 := Lib.hid hb9
    have HA9 : Hid (Away [] w w9) := HA.out.next haw9 (fun x hx => .inr (by simp at hx; omega))
    clear hb9 haw9
    go_wp2_with fail
    exact bodyPost_ret (result28t rfl _ _ _ _ _ _ _ rfl rfl HB9.out ⟨rfl, rfl⟩) rfl ⟨zeroPk, 1, _, _, .inr ⟨HAK.out.symm, _, HPM.out, HSR.out, by rw [← HL.out]; unfold joinS; rw [← HBC.out]; rfl⟩, rfl, zero_wf, mine_zero _ _, HA9.out⟩
  obtain ⟨bk, hbk⟩ : ∃ z, z = (complL 0 l && (decide (0 < n) && !lastB l)) := ⟨_, rfl⟩
  have HBK := Lib.hid hbk
  have KK : Hid (∀ w', Away [] w5 w' → Calls Tryz.prog 15 #[.slice b n c] w' fun E w'' => E = .returned (.bool bk) ∧ Away [] w' w'') := fun w' h => by
    rw [hbk, HL.out]; exact compl_c b ys n c w' HYN.out (HPK.out.on h) HRG.out
  clear hbk
  go_wp2_with fail
  refine (KK.out _ (Away.refl _ _)).mono ?_
  rintro E w6 ⟨rfl, haw⟩
  replace HB2 := Lib.hid (HB2.out.on haw)
  replace HA := Lib.hid (HA.out.on haw)
  replace HPK := Lib.hid (HPK.out.on haw)
  clear haw KK
  cases bk
  · go_wp2_with (first | (refine wpList_buildz rfl rfl ?_) | (refine wpList_store28 rfl _ _ rfl _ rfl zeroPk (.slice none 0 0) (.slice none 0 0) rfl zeroPk (.slice none 0 0) (.slice none 0 0) (by exact HB2.out) ⟨rfl, rfl⟩ ⟨rfl, rfl⟩ rfl rfl ?_; refine Hid.out ?_))
    refine Lib.hid ?_
    intro w9 hb9 haw9
    have HB9 := Lib.hid hb9
    have HA9 : Hid (Away [] w w9) := HA.out.next haw9 (fun x hx => .inr (by simp at hx; omega))
    clear hb9 haw9
    go_wp2_with fail
    exact bodyPost_ret (result28t rfl _ _ _ _ _ _ _ rfl rfl HB9.out ⟨rfl, rfl⟩) rfl ⟨zeroPk, 110, _, _, .inr ⟨HAK.out.symm, _, HPM.out, HSR.out, by rw [← HL.out]; unfold joinS; rw [← HBC.out, HLN.out, ← HBK.out]; rfl⟩, rfl, zero_wf, mine_zero _ _, HA9.out⟩
  have hs6 : w.heap.size ≤ w6.heap.size := HA.out.size
  have hlb2 : g2 < w6.heap.size := HB2.out.lt
  have hbk := HBK.out
  have h0 : 0 < n := by
    by_cases h : 0 < n
    · exact h
    · rw [decide_eq_false h] at hbk; simp at hbk
  have hcm : complL 0 l = true := by
    cases h : complL 0 l
    · rw [h] at hbk; simp at hbk
    · rfl
  have HTL : Hid ((datas l).length ≤ 65535) := by
    show _ ≤ _
    have := compl_len l 0 (fun p hp => by rw [HL.out] at hp; obtain ⟨y, hy, rfl⟩ := List.mem_map.1 hp; exact HRG.out y hy) hcm (by intro e; have := HLN.out; rw [e] at this; simp at this; omega)
    omega
  have HJW : Hid (Wf (joinD l)) := join_wf (by intro e; have := HLN.out; rw [e] at this; simp at this; omega) (fun p hp => by rw [HL.out] at hp; obtain ⟨y, hy, rfl⟩ := List.mem_map.1 hp; exact (HPK.out.2.1 y hy).wf) (by have := HTL.out; omega)
  clear hbk hcm
  have KJ : Hid (∀ w', Away [] w6 w' → Calls Tryz.prog 16 #[.slice b n c] w' fun E w'' => OwnOut w' (joinD l) E w'') := fun w' h => by
    rw [HL.out]; exact joined_c b ys n c w' HYN.out h0 (HPK.out.on h) (by rw [← HL.out]; have := HTL.out; omega)
  go_wp2_with fail
  refine (KJ.out _ (Away.refl _ _)).mono ?_
  rintro E w7 ⟨jo, jd, rfl, hmine, haw⟩
  have HMN := Lib.hid hmine
  have hm1 := hmine.o.one; have hm2 := hmine.d.one
  have HM1 := Lib.hid hm1; have HM2 := Lib.hid hm2
  replace HB2 := Lib.hid (HB2.out.on haw)
  replace HA := Lib.hid (HA.out.on haw)
  have HNE : Hid (∀ k, jo.ownBlock = some k ∨ jd.ownBlock = some k → k ≠ g2) := fun k hk => by
    have := (HMN.out.lto k hk).2
    omega
  clear hmine haw KJ hm1 hm2
  go_wp2_with (refine wpList_new28 rfl rfl rfl _ _ rfl (joinD l) jo jd (fun g => rfl) (fun g => rfl) HJW.out.ad HM1.out HM2.out ?_; refine Hid.out ?_)
  refine Lib.hid ?_
  intro g5 w8 hg5 hb5 haw
  have HB5 := Lib.hid hb5
  replace HB2 := Lib.hid (HB2.out.on haw)
  replace HA := Lib.hid (HA.out.on haw)
  replace HMN := Lib.hid (HMN.out.on haw)
  clear hb5 haw
  have HPJ := Lib.hid (HMN.out.pkt HJW.out)
  go_wp2_with (refine wpList_load28 rfl _ rfl g5 rfl (joinD l) _ _ (by exact HB5.out) HJW.out.ad ?_)
  refine (length_c (joinD l) jo jd _ HPJ.out (HG.out.on HA.out)).mono ?_
  rintro E w9 ⟨rfl, haw⟩
  have HAL := Lib.hid haw
  replace HB2 := Lib.hid (HB2.out.on haw)
  replace HB5 := Lib.hid (HB5.out.on haw)
  replace HA := Lib.hid (HA.out.on haw)
  replace HMN := Lib.hid (HMN.out.on haw)
  clear haw HPJ
  obtain ⟨lz, hlz⟩ : ∃ z, z = longP (joinD l) := ⟨_, rfl⟩
  rw [← hlz]
  have HLZ := Lib.hid hlz
  clear hlz
  by_cases hz : lz = 0
  · subst hz
    have HNR : Hid (rgtP (joinD l) = false) := (long_zero _).1 HLZ.out.symm
    go_wp2_with (first | (refine wpList_buildz rfl rfl ?_) | (refine wpList_store28 rfl _ _ rfl _ rfl zeroPk (.slice none 0 0) (.slice none 0 0) rfl zeroPk (.slice none 0 0) (.slice none 0 0) (by exact HB2.out) ⟨rfl, rfl⟩ ⟨rfl, rfl⟩ rfl rfl ?_; refine Hid.out ?_))
    refine Lib.hid ?_
    intro w10 hb9 haw10
    have HB9 := Lib.hid hb9
    have HA9 : Hid (Away [] w w10) := HA.out.next haw10 (fun x hx => .inr (by simp at hx; omega))
    clear hb9 haw10
    go_wp2_with fail
    exact bodyPost_ret (result28t rfl _ _ _ _ _ _ _ rfl rfl HB9.out ⟨rfl, rfl⟩) rfl ⟨zeroPk, 1, _, _, .inr ⟨HAK.out.symm, _, HPM.out, HSR.out, by rw [← HL.out]; unfold joinS; rw [← HBC.out, HLN.out, ← HBK.out, HNR.out]; rfl⟩, rfl, zero_wf, mine_zero _ _, HA9.out⟩
  · have dz : decide (lz = 0) = false := by simp [hz]
    have dzb : (lz == 0) = false := by simp [hz]
    have HR : Hid (rgtP (joinD l) = true) := by
      show _ = _
      by_cases h : rgtP (joinD l) = true
      · exact h
      · exact absurd ((long_zero _).2 (by simpa using h)) (HLZ.out ▸ hz)
    go_wp2_with (first
      | (refine wpList_load28 rfl _ rfl g5 rfl (joinD l) _ _ (by exact HB5.out) HJW.out.ad ?_)
      | (refine wpList_store28 rfl _ _ rfl _ rfl (joinD l) jo jd rfl zeroPk (.slice none 0 0) (.slice none 0 0) (by exact HB2.out) HJW.out.ad ⟨rfl, rfl⟩ HM1.out HM2.out ?_; refine Hid.out ?_))
    refine Lib.hid ?_
    intro w10 hb10 haw10
    have HB10 := Lib.hid hb10
    have HA10 : Hid (Away [] w w10) := HA.out.next haw10 (fun x hx => .inr (by simp at hx; omega))
    have HM10 := Lib.hid ((HMN.out.mono hs6).away haw10 (fun k hk => by have := HNE.out k hk; simpa using this))
    clear hb10 haw10
    go_wp2_with fail
    exact bodyPost_ret (result28t rfl _ _ _ _ _ _ _ rfl rfl HB10.out HJW.out.ad) rfl ⟨joinD l, 0, _, _, .inr ⟨HAK.out.symm, _, HPM.out, HSR.out, by rw [← HL.out]; unfold joinS; rw [← HBC.out, HLN.out, ← HBK.out, HR.out]; rfl⟩, rfl, HJW.out, HM10.out, HA10.out⟩
end R
#print axioms R.join_c
end Go.Proofs.YtaicckenpplceaaGreatDoor
