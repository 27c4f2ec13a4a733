/-
  Note.
-/
import Derived.Test.YtpmkmldcgiodgaaDoorSn2
import Derived.Test.YtpmkmldcgiodgaaDoorUnt
import Derived.Deep.CutBlock
import Derived.Deep.DeepCutAuto
import Derived.Lib.MinMax
namespace Go.Proofs.YtpmkmldcgiodgaaDoor
open Go.ChangeShapes Go.WideShapes Go.ChangeAt Go.RowKit
open S6 (wp_region_cls quiet_val quiet_call quiet_ld ld3 ld4 ld5 ld25 ld26 load28_run load24m_run)
set_option linter.unusedVariables false
set_option linter.unusedSimpArgs false
set_option maxRecDepth 100000

open W
def mkN (p : Pk) (cut : Bool) (id : Int) : Nt := ⟨if cut = true then { p with id := id } else p, cut, p.d.take 8, lenQ p⟩
def okN (p : Pk) (cut : Bool) : Bool := decide (lenQ p ≠ 0) && !(cut && decide (p.v = 4))
def addN (m : Int) (L : List Nt) (x : Nt) : List Nt := if m < (L.length : Int) + 1 then (L ++ [x]).drop 1 else L ++ [x]
theorem run_buildD (p : Pk) (h : Ad p) (f : Bool) (n : Int) (w : World) : (Instr.build 64 #[(0, .agg (csK p)), (1, .bool f), (3, .int .i64 n)]).run Tryd.prog w = .ok (.agg (csD ⟨⟨p, f, [], n⟩, .slice none 0 0⟩)) w := by
  obtain ⟨v, tos, flow, sv, sb, dv', db, proto, ttl, id, df, more, frag, off, o, d⟩ := p
  obtain ⟨h1, h2⟩ := h
  simp only at h1 h2
  obtain ⟨b0, b1, b2, b3, b4, b5, b6, b7, b8, b9, b10, b11, b12, b13, b14, b15, rfl⟩ := list16 h1
  obtain ⟨c0, c1, c2, c3, c4, c5, c6, c7, c8, c9, c10, c11, c12, c13, c14, c15, rfl⟩ := list16 h2
  kernel_rfl
theorem wpList_buildD {ops : Array Oper} {rest : List Oper} {o : Oper} {a : Act} {w : World} {Q : Exit → Act → World → Prop} (hg : o.guard = none) (x0 x1 x3 : Operand) (ho : o.op = .build 64 #[(0, x0), (1, x1), (3, x3)])
    (p : Pk) (ha : Ad p) (f : Bool) (n : Int) (h0 : a.eval x0 = .agg (csK p)) (h1 : a.eval x1 = .bool f) (h3 : a.eval x3 = .int .i64 n)
    (h : wpList Tryd.prog ops Q rest (a.put o.dst (.agg (csD ⟨⟨p, f, [], n⟩, .slice none 0 0⟩))) w) : wpList Tryd.prog ops Q (o :: rest) a w := by
  refine wpList_plain hg fun K hK => ?_
  unfold Oper.wp execOp
  simp only [ho, List.map_toArray, List.map_cons, List.map_nil, h0, h1, h3, run_buildD p ha, Sem.run_bind, Result.andThen_ok, Sem.run_pure]
  exact hK _ _ h
theorem zeroD64 : (Tryd.prog.info? 64).bind (·.zero) = some (.agg zD) := by kernel_rfl
theorem wpList_allocD {ops : Array Oper} {rest : List Oper} {o : Oper} {a : Act} {w : World} {Q : Exit → Act → World → Prop} (hg : o.guard = none) (ho : o.op = .alloc 64)
    (h : ∀ g w1, w.heap.size ≤ g → BoxD w1 g zeroD → Away [] w w1 → wpList Tryd.prog ops Q rest (a.put o.dst (.pointer (some ⟨g, 0, none⟩))) w1) : wpList Tryd.prog ops Q (o :: rest) a w := by
  have hz : (zeroValue 64).run Tryd.prog w = .ok (.agg zD) w := by
    have := zeroD64
    cases hi : Tryd.prog.info? 64 with
    | none => rw [hi] at this; simp at this
    | some i => rw [hi] at this; simp at this; simp [zeroValue, typeInfo, hi, this]
  refine wpList_plain hg fun K hK => ?_
  unfold Oper.wp execOp
  simp only [ho, Sem.run_bind, Instr.alloc, hz, newVar, newRow, run_newObj_alloc, Sem.run_pure, Result.andThen_ok]
  exact hK _ _ (h w.heap.size _ (Nat.le_refl _) (block_new _ _) ((Away.refl [] w).alloc _))
theorem wpList_storeD {ops : Array Oper} {rest : List Oper} {o : Oper} {a : Act} {w : World} {Q : Exit → Act → World → Prop} (hw : Region.wanted o (yielded ops a.tmps) = true) (x y : Operand) (ho : o.op = .store 64 x y)
    (g : Nat) (hx : a.eval x = .pointer (some ⟨g, 0, none⟩)) (d e : Dd) (hd : Okd d) (he : Okd e) (hy : a.eval y = .agg (csD d)) (hb : BoxD w g e)
    (h : ∀ w1, BoxD w1 g d → Away [g] w w1 → wpList Tryd.prog ops Q rest (a.put o.dst undef) w1) : wpList Tryd.prog ops Q (o :: rest) a w :=
  BigFrame.wpList_want hw fun K hK => wp_store_row 64 x y ho g (csD d) hx hy 64 (csD e) hb (by rw [csD_size hd]; exact info64) (by rw [csD_size hd, csD_size he]) (csD_one hd) (hK _ _ (h _ (by
    unfold BoxD at hb ⊢; simp [World.setRow, Array.getElem?_modify, hb]) ((Away.refl [g] w).setRow (.inl (by simp)) _)))
theorem csD_set {x : Dd} (h : Okd x) (id : Int) (v : Value) : (csD x).setIfInBounds 36 (.int .u32 id) = csD ⟨⟨{ x.t.k with id := id }, x.t.f, x.t.b, x.t.n⟩, x.v⟩ ∧ (csD x).setIfInBounds 38 v = csD ⟨x.t, v⟩ := by
  obtain ⟨⟨⟨v', tos, flow, sv, sb, dv', db, proto, ttl, id', df, more, frag, off, o, d⟩, f, b, n⟩, u⟩ := x
  obtain ⟨⟨h1, h2⟩, -⟩ := h
  simp only at h1 h2
  obtain ⟨b0, b1, b2, b3, b4, b5, b6, b7, b8, b9, b10, b11, b12, b13, b14, b15, rfl⟩ := list16 h1
  obtain ⟨c0, c1, c2, c3, c4, c5, c6, c7, c8, c9, c10, c11, c12, c13, c14, c15, rfl⟩ := list16 h2
  exact ⟨rfl, rfl⟩
theorem BoxD.put {w : World} {g : Nat} {x y : Dd} (h : BoxD w g x) (i : Nat) (v : Value) (hx : (csD x).setIfInBounds i v = csD y) : BoxD (w.setCell ⟨g, i, none⟩ v) g y := by
  have := block_set h i v
  rw [hx] at this
  exact this
theorem BoxD.free {w : World} {g : Nat} {x : Dd} (h : BoxD w g x) (i : Nat) : w.frozen? ⟨g, i, none⟩ = false := free_of_block h i
theorem BoxD.c36 {w : World} {g : Nat} {x : Dd} (h : BoxD w g x) (hx : Okd x) : w.cell? ⟨g, 36, none⟩ = some (.int .u32 x.t.k.id) := by
  have h1 := range_key h.range hx 36 (.int .u32 x.t.k.id) (by have := (csK_get hx.1).2.2.1; simpa [csK] using this)
  exact h1
theorem BoxD.c38 {w : World} {g : Nat} {x : Dd} (h : BoxD w g x) (hx : Okd x) : w.cell? ⟨g, 38, none⟩ = some x.v := by rw [cell_of_block h]; exact (csD_get hx).2.1
theorem run_buildS (w : World) (d : Dd) (ha : Okd d) : (Instr.buildSlice 57 1 #[(0, .agg (csD d))]).run Tryd.prog w = .ok (.slice (some ⟨w.heap.size, 0, none⟩) 1 1) (w.alloc (.cells (csD d) 64)) := by
  obtain ⟨⟨⟨v, tos, flow, sv, sb, dv', db, proto, ttl, id, df, more, frag, off, o, d⟩, f, b, n⟩, u⟩ := d
  obtain ⟨⟨h1, h2⟩, -⟩ := ha
  simp only at h1 h2
  obtain ⟨b0, b1, b2, b3, b4, b5, b6, b7, b8, b9, b10, b11, b12, b13, b14, b15, rfl⟩ := list16 h1
  obtain ⟨c0, c1, c2, c3, c4, c5, c6, c7, c8, c9, c10, c11, c12, c13, c14, c15, rfl⟩ := list16 h2
  kernel_rfl
theorem run_appD (ty : TypeId) (w : World) (v : Value) (xs : List Dd) (hown : LstD w v xs) (g c : Nat) (d : Dd) (hb : BoxD w g d) (ha : Okd d) (hk : xs.length < 100000) :
    ∃ v' w', (Builtin.append_ #[57, 57] ty #[v, .slice (some ⟨g, 0, none⟩) 1 c]).run Tryd.prog w = .ok v' w' ∧ LstD w' v' (xs ++ [d]) ∧ w.grownBy w' v.ownBlock ∧ Moved w v v' := by
  obtain ⟨i0, hi, hz0, hz1, hz2⟩ := info_parts W.infoK
  obtain ⟨v', w', r1, r2, r3, r4⟩ := run_appN 57 ty 64 i0 _ 112 40 Tryd.underlying57 hi hz0 hz1 hz2 zD_size (by decide) w v xs.length (xs.flatMap listD) hown ⟨g, 0, none⟩ 1 c (listD d) (by rw [listD_len ha]) (fun j u hj => by
    rw [add_plain, Nat.zero_add, cell_of_block hb]; simpa [csD] using hj) (listD_one ha) (by unfold maxLen; omega) (by omega)
  refine ⟨v', w', r1, ?_, r3, r4⟩
  unfold LstD
  rw [List.flatMap_append, List.length_append]
  simpa using r2
theorem step_buildS {ops : Array Oper} {o : Oper} {a : Act} {w : World} {K : Act → World → Prop} {Q : Exit → Act → World → Prop} {E : Prop} (hg : o.guard = none) (x : Operand) (ho : o.op = .buildSlice 57 1 #[(0, x)]) (d : Dd) (hx : a.eval x = .agg (csD d)) (hd : Okd d)
    (h : ∀ gb w', w.heap.size ≤ gb → BoxD w' gb d → Away [] w w' → K (a.put o.dst (.slice (some ⟨gb, 0, none⟩) 1 1)) w') : if Region.wanted o (yielded ops a.tmps) = true then Oper.wp Tryd.prog o a w K Q else E := by
  have hw : Region.wanted o (yielded ops a.tmps) = true := by simp [Region.wanted, hg]
  rw [if_pos hw]
  unfold Oper.wp execOp
  simp only [ho, List.map_toArray, List.map_cons, List.map_nil, hx, run_buildS w d hd, Sem.run_bind, Result.andThen_ok, Sem.run_pure]
  exact h w.heap.size _ (Nat.le_refl _) (block_new _ _) ((Away.refl [] w).alloc _)
theorem step_appS {ops : Array Oper} {o : Oper} {a : Act} {w : World} {K : Act → World → Prop} {Q : Exit → Act → World → Prop} {E : Prop} (hg : o.guard = none) (s x : Operand) (ho : o.op = .call { callee := .builtin .append, args := #[s, x], argTypes := #[57, 57] })
    (v : Value) (xs : List Dd) (g c : Nat) (d : Dd) (hs : a.eval s = v) (hx : a.eval x = .slice (some ⟨g, 0, none⟩) 1 c) (hown : LstD w v xs) (hb : BoxD w g d) (ha : Okd d) (hk : xs.length < 100000)
    (h : ∀ v' w', LstD w' v' (xs ++ [d]) → w.grownBy w' v.ownBlock → Moved w v v' → K (a.put o.dst v') w') : if Region.wanted o (yielded ops a.tmps) = true then Oper.wp Tryd.prog o a w K Q else E := by
  have hw : Region.wanted o (yielded ops a.tmps) = true := by simp [Region.wanted, hg]
  rw [if_pos hw]
  obtain ⟨v', w', hrun, r1, r2, r3⟩ := run_appD o.type w v xs hown g c d hb ha hk
  unfold Oper.wp
  simp [execOp, ho, resolve, invoke, builtin, hs, hx, hrun, Result.andThen]
  exact h v' w' r1 r2 r3
theorem step_store57 {ops : Array Oper} {o : Oper} {a : Act} {w : World} {K : Act → World → Prop} {Q : Exit → Act → World → Prop} {E : Prop} (hg : o.guard = none) (s r : Nat)
    (ho : o.op = .store 57 (.tmp s) (.tmp r)) (g i : Nat) (hx : a.tmps[s]?.getD undef = .pointer (some ⟨g, i, none⟩)) (b : Option Addr) (n c : Nat) (hy : a.tmps[r]?.getD undef = .slice b n c) (u : Value) (hc : w.cell? ⟨g, i, none⟩ = some u) (hf : w.frozen? ⟨g, i, none⟩ = false)
    (hK : K (a.put o.dst undef) (w.setCell ⟨g, i, none⟩ (.slice b n c))) :
    if Region.wanted o (yielded ops a.tmps) = true then Oper.wp Tryd.prog o a w K Q else E := by
  have hw : Region.wanted o (yielded ops a.tmps) = true := by simp [Region.wanted, hg]
  rw [if_pos hw]
  obtain ⟨d, op, ty, ps, af, gd⟩ := o
  simp only at ho
  subst ho
  go_simp
  exact hK
theorem yields_ld {ops : Array Oper} {S : World → Prop} {op : Oper} {a : Act} {t : TypeId} {v : Value} {ad : Addr} (hw : Region.wanted op (yielded ops a.tmps) = true) (x : Operand) (ho : op.op = .load t x) (hx : a.eval x = .pointer (some ad))
    (hS : ∀ w, S w → (Instr.loadAt t (.pointer (some ad))).run Tryd.prog w = .ok v w) : YieldsIf Tryd.prog ops S op v a :=
  .inl ⟨hw, fun w hw' => by
    unfold execOp
    simp only [ho, hx, Sem.run_bind, hS w hw', Result.andThen_ok, Sem.run_pure]⟩
/-- What Note tells. -/
def NoteOut (w : World) (g : Nat) (lv : Value) (m : Int) (ds : List Dd) (p : Pk) (cut : Bool) (id : Int) (E : Ending) (w' : World) : Prop :=
  (okN p cut = false ∧ E = .returned (.int .i64 1) ∧ Away [] w w') ∨
  (okN p cut = true ∧ ∃ lv' ds', E = .returned (.int .i64 0) ∧ Win w' g lv' m ds' ∧ ds'.map (·.t) = addN m (ds.map (·.t)) (mkN p cut id) ∧ (∀ k, fpW g lv' ds' k → fpW g lv ds k ∨ w.heap.size ≤ k) ∧ Away (g :: lv.ownBlock.toList) w w')
section
variable {w : World} {g : Nat} {lv : Value} {m : Int} {ds : List Dd}
set_option maxHeartbeats 16000000 in
theorem note_c (h : Win w g lv m ds) (p : Pk) (ov dv : Value) (hp : Pkt w p ov dv) (hgl : Glob w) (cut : Bool) (id : Int) :
    Calls Tryd.prog 9 #[.pointer (some ⟨g, 0, none⟩), .agg (csP p ov dv), .bool cut, .int .u32 id] w (NoteOut w g lv m ds p cut id) := by
  have HW := Lib.hid h
  obtain ⟨la, lc, rfl, -⟩ := HW.out.shape
  obtain ⟨n, hn⟩ : ∃ n, n = ds.length := ⟨_, rfl⟩
  have hn64 : n ≤ 64 := by have h1 := HW.out.len; have h2 := HW.out.m1; omega
  rw [← hn] at HW ⊢
  have HN := Lib.hid hn
  clear hn
  have HAD := Lib.hid hp.wf.ad
  have K23 : Hid (∀ W, Away [] w W → Calls Tryd.prog 23 #[.agg (csP p ov dv)] W fun E w' => E = .returned (.int .i64 (lenQ p)) ∧ Away [] W w') := fun W hW => length_c p ov dv W (hp.on hW) (hgl.on hW)
  have HPD : Hid (Bytes p.d) := hp.wf.d
  obtain ⟨-, -, da, dc, rfl, d1, d2, d3⟩ := hp
  have HR3 := Lib.hid d3
  have HD2 := Lib.hid d2
  obtain ⟨k8, hk8⟩ : ∃ k, k = min p.d.length 8 := ⟨_, rfl⟩
  have K25 : Hid (∀ W, Away [] w W → Calls Tryd.prog 25 #[.slice da k8 dc] W fun E w' => ∃ v, E = .returned v ∧ Owns w' v (p.d.take 8) ∧ New W.heap.size v ∧ Away [] W w') := fun W hW => by
    have := clone_any da (p.d.take 8) dc W HD2.out ((HR3.out.head 8).away hW (by simp))
    rw [show (p.d.take 8).length = k8 from by rw [List.length_take, hk8]; omega] at this
    exact this
  have HDN : Hid ((p.d.take 8).length ≤ 140737488355328) := by show _ ≤ _; rw [List.length_take]; omega
  clear d3 d2 h hgl
  obtain ⟨ln, hln⟩ : ∃ z, z = lenQ p := ⟨_, rfl⟩
  rw [← hln] at K23
  have HLN := Lib.hid hln
  have HOK : Hid (okN p cut = (!(decide (ln = 0)) && !(cut && decide (p.v = 4)))) := by show _ = _; unfold okN; rw [← hln]; simp
  obtain ⟨ob, hob⟩ : ∃ z, z = okN p cut := ⟨_, rfl⟩
  rw [← hob] at HOK
  have HOB := Lib.hid hob
  clear hln hob
  obtain ⟨dn, hdn⟩ : ∃ n, n = p.d.length := ⟨_, rfl⟩
  rw [← hdn] at hk8 d1 K23 ⊢
  have HK8 := Lib.hid hk8
  clear hdn hk8
  go_enter Tryd.func9, Tryd.ntmps9
  go_wp2_with (refine wpList_box28 rfl _ rfl p _ _ rfl ?_; refine Hid.out ?_)
  refine Lib.hid ?_
  intro g5 w1 hg5 hb haw
  have HA := Lib.hid haw
  have HB := Lib.hid hb
  clear hb haw
  go_wp2_with (refine wpList_load28 rfl _ rfl _ rfl p _ _ (by exact HB.out) HAD.out ?_)
  refine (K23.out _ HA.out).mono ?_
  rintro E w2 ⟨rfl, haw⟩
  replace HB := Lib.hid (HB.out.on haw)
  replace HA := Lib.hid (HA.out.trans haw)
  clear haw K23
  have c0 := (HB.out.cells HAD.out).v
  go_upto_region 2 with fail
  go_cut [22] (fun v wc => v = .bool (!ob) ∧ wc = w2)
  case first =>
    by_cases h0 : ln = 0
    · have e0 : (ln == 0) = true := by simpa using h0
      obtain rfl : ob = false := by rw [HOK.out]; simp [h0]
      clear h0 HOK
      go_wp2_with fail
      go_meet
      first | exact ⟨rfl, rfl⟩ | (refine ⟨?_, rfl⟩; simp [e0])
    · have e0 : (ln == 0) = false := by simpa using h0
      cases cut
      · obtain rfl : ob = true := by rw [HOK.out]; simp [h0]
        clear h0 HOK
        go_wp2_with fail
        go_meet
        first | exact ⟨rfl, rfl⟩ | (refine ⟨?_, rfl⟩; simp [e0])
      · by_cases h4 : p.v = 4
        · obtain rfl : ob = false := by rw [HOK.out]; simp [h4]
          have e4 : (p.v == 4) = true := by simpa using h4
          rw [h4] at c0
          clear h0 HOK h4 e4
          go_wp2_with fail
          go_meet
          first | exact ⟨rfl, rfl⟩ | (refine ⟨?_, rfl⟩; simp [e0])
        · obtain rfl : ob = true := by rw [HOK.out]; simp [h0, h4]
          have e4 : (p.v == 4) = false := by simpa using h4
          clear h0 HOK h4
          go_wp2_with fail
          go_meet
          first | exact ⟨rfl, rfl⟩ | (refine ⟨?_, rfl⟩; simp [e0, e4])
  case rest =>
  obtain ⟨rfl, hwc⟩ := hcut
  obtain rfl := hwc.symm
  clear HOK c0
  cases ob
  · go_wp2_with fail
    go_ret
    exact .inl ⟨HOB.out.symm, rfl, HA.out⟩
  have K24 : Hid (∀ W, Calls Tryd.prog 24 #[.agg (csP p ov (.slice da dn dc))] W fun E w' => E = .returned (.agg (csK p)) ∧ Away [] W w') := fun W => key_c p ov _ W HAD.out
  go_wp2_with (refine wpList_load28 rfl _ rfl _ rfl p _ _ (by exact HB.out) HAD.out ?_)
  refine (K24.out _).mono ?_
  rintro E w3 ⟨rfl, haw⟩
  replace HB := Lib.hid (HB.out.on haw)
  replace HA := Lib.hid (HA.out.trans haw)
  have hl53 := HB.out.lt
  clear haw K24
  go_wp2_with (first
    | (refine wpList_buildD rfl _ _ _ rfl p HAD.out cut ln rfl rfl rfl ?_)
    | (refine wpList_allocD rfl rfl ?_; refine Hid.out ?_))
  refine Lib.hid ?_
  intro g10 w4 hg10 hb haw
  have HBD := Lib.hid hb
  have hs3 := HA.out.size
  replace HB := Lib.hid (HB.out.on haw)
  replace HA := Lib.hid (HA.out.trans haw)
  clear hb haw
  obtain ⟨d0, hd0⟩ : ∃ d : Dd, d = ⟨⟨p, cut, [], ln⟩, .slice none 0 0⟩ := ⟨_, rfl⟩
  have HD0 := Lib.hid hd0
  have HO0 : Hid (Okd d0) := by show Okd _; rw [hd0]; exact ⟨HAD.out, rfl⟩
  rw [← hd0]
  clear hd0
  have hl5 := HB.out.lt
  have hl10 : g10 < w4.heap.size := lt_of_block HBD.out
  have hne : g5 ≠ g10 := by omega
  go_wp2_with (refine wpList_storeD rfl _ _ rfl g10 rfl d0 zeroD HO0.out zeroD_ok rfl (by exact HBD.out) ?_; refine Hid.out ?_)
  refine Lib.hid ?_
  intro w5 hb haw
  replace HBD : Hid (BoxD w5 g10 d0) := hb
  replace HB := Lib.hid (HB.out.away haw (by simp; omega))
  replace HA : Hid (Away [] w w5) := HA.out.next haw (fun x hx => .inr (by simp at hx; omega))
  clear hb haw
  obtain ⟨d1', hd1⟩ : ∃ d : Dd, d = ⟨⟨if cut = true then { p with id := id } else p, cut, [], ln⟩, .slice none 0 0⟩ := ⟨_, rfl⟩
  have HD1 := Lib.hid hd1
  have HO1 : Hid (Okd d1') := by
    show Okd _
    rw [hd1]
    refine ⟨?_, rfl⟩
    show Ad (if cut = true then { p with id := id } else p)
    split
    · exact HAD.out
    · exact HAD.out
  clear hd1
  go_upto_if 28 with fail
  go_cut [] (fun wc => BoxD wc g10 d1' ∧ BoxP wc g5 p ov (.slice da dn dc) ∧ Away [] w wc)
  case first =>
    cases cut
    · have e : d1' = d0 := by rw [HD1.out, HD0.out]; rfl
      have HE := Lib.hid e
      clear e
      go_wp2_with fail
      go_meet
      exact ⟨by rw [HE.out]; exact HBD.out, HB.out, HA.out⟩
    · have f36 := HBD.out.c36 HO0.out
      have t36 := HBD.out.free 36
      have HN1 : Hid (BoxD (w5.setCell ⟨g10, 36, none⟩ (.int .u32 id)) g10 d1') := by
        refine HBD.out.put 36 _ ?_
        rw [(csD_set HO0.out id (.pointer none)).1, HD1.out, HD0.out]
        rfl
      have hA1 := away_put (w := w5) (g := g10) 36 (.int .u32 id)
      have HN2 := Lib.hid (HB.out.away hA1 (by simp; omega))
      have HN3 : Hid (Away [] w (w5.setCell ⟨g10, 36, none⟩ (.int .u32 id))) := HA.out.next hA1 (fun x hx => .inr (by simp at hx; omega))
      clear hA1
      go_wp2_with fail
      go_meet
      exact ⟨HN1.out, HN2.out, HN3.out⟩
  case rest =>
  obtain ⟨hb1, hb2, hb3⟩ := hcut
  replace HBD := Lib.hid hb1
  replace HB := Lib.hid hb2
  replace HA := Lib.hid hb3
  clear hb1 hb2 hb3 HD0 HO0
  have c45 := (HB.out.cells HAD.out).d
  have hk8 := HK8.out
  have hk8d : k8 ≤ dc := by omega
  have s8 := slice_h da dn dc k8 (k8 : Int) rfl hk8d
  clear hk8
  have f38 := HBD.out.c38 HO1.out
  have HLT10 : Hid (g10 < wc.heap.size) := lt_of_block HBD.out
  have HSZ : Hid (w.heap.size ≤ wc.heap.size) := HA.out.size
  go_upto_region 7 with fail
  go_cut [] (fun wy => ∃ (v : Value), BoxD wy g10 ⟨⟨d1'.t.k, d1'.t.f, p.d.take 8, d1'.t.n⟩, v⟩ ∧ Owns wy v (p.d.take 8) ∧ (∀ z, v.ownBlock = some z → wc.heap.size ≤ z) ∧ Away [] w wy)
  case first =>
    have hmin : min (dn : Int) 8 = (k8 : Int) := by have := HK8.out; omega
    go_wp2_with fail
    refine (K25.out _ HA.out).mono ?_
    rintro E wz ⟨v, rfl, ho, hn, haw⟩
    have HOV := Lib.hid ho
    have HNN := Lib.hid hn
    have HBZ := Lib.hid (HBD.out.on haw)
    have HAZ := Lib.hid (HA.out.trans haw)
    clear haw hn
    obtain ⟨va, vn, vc, rfl⟩ := ho.shp
    clear ho
    have f38' := HBZ.out.c38 HO1.out
    have t38 := HBZ.out.free 38
    have HN1 : Hid (BoxD (wz.setCell ⟨g10, 38, none⟩ (.slice va vn vc)) g10 ⟨d1'.t, .slice va vn vc⟩) := HBZ.out.put 38 _ (csD_set HO1.out 0 _).2
    have hA1 := away_put (w := wz) (g := g10) 38 (.slice va vn vc)
    have HN2 : Hid (Owns (wz.setCell ⟨g10, 38, none⟩ (.slice va vn vc)) (.slice va vn vc) (p.d.take 8)) := HOV.out.away hA1 (fun z hz => by have h1 := HNN.out z hz; have h2 := HLT10.out; simp; omega)
    have HN3 : Hid (Away [] w (wz.setCell ⟨g10, 38, none⟩ (.slice va vn vc))) := HAZ.out.next hA1 (fun x hx => .inr (by simp at hx; omega))
    clear hA1
    go_wp2_with fail
    go_meet
    exact ⟨_, HN1.out, HN2.out, fun z hz => HNN.out z hz, HN3.out⟩
  case rest =>
  obtain ⟨v, hbd, hov, hnv, hav⟩ := hcut
  obtain ⟨x, hx⟩ : ∃ x : Dd, x = ⟨⟨d1'.t.k, d1'.t.f, p.d.take 8, d1'.t.n⟩, v⟩ := ⟨_, rfl⟩
  rw [← hx] at hbd
  have HX := Lib.hid hx
  have HXO : Hid (Okd x) := by show Okd _; rw [hx]; exact ⟨HO1.out.1, by obtain ⟨a, n, c, e⟩ := hov.shp; rw [e]; rfl⟩
  have HXT : Hid (x.t = mkN p cut id) := by show _ = _; rw [hx, HD1.out, mkN, ← HLN.out]
  have HXV : Hid (x.v = v) := by show _ = _; rw [hx]
  have HXB : Hid (x.t.b = p.d.take 8) := by show _ = _; rw [hx]
  have HXS : Hid (Sl wc x.v x.t.b) := by show Sl _ _ _; rw [hx]; exact hov.sl (HPD.out.take 8) HDN.out
  replace HBD := Lib.hid hbd
  replace HA := Lib.hid hav
  have HNV : Hid (∀ z, x.v.ownBlock = some z → w.heap.size ≤ z ∧ z ≠ g10) := fun z hz => by
    rw [HXV.out] at hz
    have h1 := hnv z hz
    have h2 := HLT10.out; have h3 := HSZ.out
    omega
  clear hbd hov hnv hav hx HDN HPD HLT10 HSZ
  have HWC := Lib.hid (HW.out.on HA.out)
  have hgl := lt_of_block HWC.out.box
  have hgl0 := lt_of_block HW.out.box
  have h10l : g10 < wc.heap.size := lt_of_block HBD.out
  have hne2 : g ≠ g10 := by omega
  have HSWC : Hid (w.heap.size ≤ wc.heap.size) := HA.out.size
  have HNL : Hid (∀ z, (Value.slice la n lc).ownBlock = some z → z ≠ g ∧ z ≠ g10 ∧ z < wc.heap.size ∧ z < w.heap.size) := fun z hz => by
    have h1 := HW.out.lst.lt z hz
    have h2 := HSWC.out
    exact ⟨fun e => HW.out.sep (by rw [hz, e]), by omega, by omega, h1⟩
  clear HB c45 f38 s8 hk8d HK8 K25 HD2 HR3 d1 HLN HD1 HO1 hl5 hl10 hl53 hne hg5 HAD
  go_wp2_with fail
  have ck : wc.drew.cell? ⟨g, 1, none⟩ = some (.slice la n lc) ∧ BoxD wc.drew g10 x := ⟨HWC.out.c1, HBD.out⟩
  refine wp_region_U [10] (fun w' => w'.cell? ⟨g, 1, none⟩ = some (.slice la n lc) ∧ BoxD w' g10 x) (by kernel_rfl) ?_
  refine wpAnyU_take (i := 0) (v := ?_) (by simp only [List.getElem?_toArray, List.getElem?_cons_zero]; rfl) (by kernel_rfl) (by kernel_rfl) (by kernel_rfl) (by decide) (by decide) (by unfold Un; kernel_rfl) (by exact fun _ _ _ h => h) (Or.inl ⟨by rfl, ?_⟩) (by exact ck) ?_
  rotate_left
  · intro wq hSw
    (try dsimp only at hSw)
    go_simp
    all_goals (with_reducible rfl)
  try simp only [Act.put, List.setIfInBounds_toArray, List.set_cons_zero, List.set_cons_succ]
  refine wpAnyU_take (i := 1) (v := ?_) (by simp only [List.getElem?_toArray, List.getElem?_cons_succ, List.getElem?_cons_zero]; rfl) (by kernel_rfl) (by kernel_rfl) (by kernel_rfl) (by decide) (by decide) (by unfold Un; kernel_rfl) (by exact fun _ _ _ h => h) (Or.inl ⟨by rfl, ?_⟩) (by exact ck) ?_
  rotate_left
  · intro wq hSw
    (try dsimp only at hSw)
    go_simp
    all_goals (with_reducible rfl)
  try simp only [Act.put, List.setIfInBounds_toArray, List.set_cons_zero, List.set_cons_succ]
  refine wpAnyU_take (i := 2) (v := ?_) (by simp only [List.getElem?_toArray, List.getElem?_cons_succ, List.getElem?_cons_zero]; rfl) (by kernel_rfl) (by kernel_rfl) (by kernel_rfl) (by decide) (by decide) (by unfold Un; kernel_rfl) (by exact fun _ _ _ h => h) (Or.inl ⟨by rfl, ?_⟩) (by exact ck) ?_
  rotate_left
  · intro wq hSw
    (try dsimp only at hSw)
    go_simp
    all_goals (with_reducible rfl)
  try simp only [Act.put, List.setIfInBounds_toArray, List.set_cons_zero, List.set_cons_succ]
  refine wpAnyU_take (i := 3) (v := ?_) (by simp only [List.getElem?_toArray, List.getElem?_cons_succ, List.getElem?_cons_zero]; rfl) (by kernel_rfl) (by kernel_rfl) (by kernel_rfl) (by decide) (by decide) (by unfold Un; kernel_rfl) (by exact fun _ _ _ h => h) (Or.inl ⟨by rfl, ?_⟩) (by exact ck) ?_
  rotate_left
  · intro wq hSw
    (try dsimp only at hSw)
    go_simp
    all_goals (with_reducible rfl)
  try simp only [Act.put, List.setIfInBounds_toArray, List.set_cons_zero, List.set_cons_succ]
  refine wpAnyU_take (i := 4) (by simp only [List.getElem?_toArray, List.getElem?_cons_succ, List.getElem?_cons_zero]; rfl) (by kernel_rfl) (by kernel_rfl) (by kernel_rfl) (by decide) (by decide) (by unfold Un; kernel_rfl) (by exact fun _ _ _ h => h) (yields_ld (ad := ⟨g, 1, none⟩) (by rfl) _ rfl rfl (fun w' h => ldD h.1)) (by exact ck) ?_
  try simp only [Act.put, List.setIfInBounds_toArray, List.set_cons_zero, List.set_cons_succ]
  refine wpAnyU_take (i := 5) (by simp only [List.getElem?_toArray, List.getElem?_cons_succ, List.getElem?_cons_zero]; rfl) (by kernel_rfl) (by kernel_rfl) (by kernel_rfl) (by decide) (by decide) (by unfold Un; kernel_rfl) (by exact fun _ _ _ h => h) (yields_ld (ad := ⟨g10, 0, none⟩) (by rfl) _ rfl rfl (fun w' h => load64m_run h.2.range HXO.out)) (by exact ck) ?_
  try simp only [Act.put, List.setIfInBounds_toArray, List.set_cons_zero, List.set_cons_succ]
  refine wpAnyU_ready (rs := [6]) (by kernel_rfl) (by simp) ?_
  refine ReadyU.cons (by simp only [List.getElem?_toArray, List.getElem?_cons_succ, List.getElem?_cons_zero]; rfl) (fun K hK => ?_) ReadyU.nil
  refine step_buildS rfl _ rfl x rfl HXO.out ?_
  intro gb y1 hgb hbb haw1
  have HBB := Lib.hid hbb
  have HA1 : Hid (Away [] wc y1) := ⟨haw1.os, haw1.tape, haw1.output, haw1.size, haw1.block⟩
  have hgb' : wc.heap.size ≤ gb := hgb
  have HW1 := Lib.hid (HWC.out.on HA1.out)
  replace ck : y1.cell? ⟨g, 1, none⟩ = some (.slice la n lc) ∧ BoxD y1 g10 x := ⟨HW1.out.c1, HBD.out.on HA1.out⟩
  clear hbb haw1 hgb
  refine hK.out _ _ (fun _ => ck) ?_
  clear hK K
  try simp only [Act.put, List.setIfInBounds_toArray, List.set_cons_zero, List.set_cons_succ]
  refine wpAnyU_ready (rs := [7]) (by kernel_rfl) (by simp) ?_
  refine ReadyU.cons (by simp only [List.getElem?_toArray, List.getElem?_cons_succ, List.getElem?_cons_zero]; rfl) (fun K hK => ?_) ReadyU.nil
  refine step_appS rfl _ _ rfl (.slice la n lc) ds gb 1 x rfl rfl (by exact HW1.out.lst) (by exact HBB.out) HXO.out (by rw [← HN.out]; omega) ?_
  intro v' y2 hl2 hgr hmv
  have hA2 : Away (Value.slice la n lc).ownBlock.toList y1 y2 := (Away.refl _ _).grown hgr (fun z hz => .inl (by simp [hz]))
  have hs1 := HA1.out.size
  obtain ⟨vb, vc, rfl⟩ : ∃ vb vc, v' = .slice (some ⟨vb, 0, none⟩) (n + 1) vc := by
    rcases hl2.shp with ⟨-, h2⟩ | ⟨vb, vc, h2⟩
    · simp at h2
    · exact ⟨vb, vc, by rw [h2, List.length_append, HN.out]; rfl⟩
  have HVB : Hid ((Value.slice la n lc).ownBlock = some vb ∨ y1.heap.size ≤ vb) := hmv vb rfl
  have hvg : vb ≠ g := by
    rcases HVB.out with h1 | h1
    · exact (HNL.out vb h1).1
    · omega
  have HVL : Hid (vb < y2.heap.size) := hl2.lt vb rfl
  have HL2 := Lib.hid hl2
  have HBX2 : Hid (y2.heap[g]? = some (.cells #[.int .i64 m, .slice la n lc] 59 (0, 0))) := hA2.keep (fun hm => (HNL.out g (by simpa using hm)).1 rfl) HW1.out.box
  have HEA : Hid (∀ z ∈ ds, Sl y2 z.v z.t.b) := fun z hz => (HW1.out.each z hz).away hA2 (fun hb k hk hm => (HW1.out.ap z hz hb k hk).2 (by simpa using hm))
  have HXS2 : Hid (Sl y2 x.v x.t.b) := (HXS.out.on HA1.out).away hA2 (fun hb k hk hm => by
    have h1 := (HNV.out k hk).1
    have h2 := (HNL.out k (by simpa using hm)).2.2.2
    omega)
  have HA2 : Hid (Away (g :: (Value.slice la n lc).ownBlock.toList) w y2) := ((HA.out.trans HA1.out).mono (by simp)).next hA2 (fun z hz => .inl (List.mem_cons_of_mem _ hz))
  replace ck : y2.cell? ⟨g, 1, none⟩ = some (.slice la n lc) ∧ BoxD y2 g10 x := ⟨by rw [cell_of_block HBX2.out]; rfl, ck.2.away hA2 (fun hm => (HNL.out g10 (by simpa using hm)).2.1 rfl)⟩
  clear hl2 hgr hmv hA2
  refine hK.out _ _ (fun _ => ck) ?_
  clear hK K
  try simp only [Act.put, List.setIfInBounds_toArray, List.set_cons_zero, List.set_cons_succ]
  refine wpAnyU_ready (rs := [8]) (by kernel_rfl) (by simp) ?_
  refine ReadyU.cons (by simp only [List.getElem?_toArray, List.getElem?_cons_succ, List.getElem?_cons_zero]; rfl) (fun K hK => ?_) ReadyU.nil
  go_simp
  refine hK.out _ _ (fun _ => ck) ?_
  clear hK K
  try simp only [Act.put, List.setIfInBounds_toArray, List.set_cons_zero, List.set_cons_succ]
  refine wpAnyU_ready (rs := [9]) (by kernel_rfl) (by simp) ?_
  refine ReadyU.cons (by simp only [List.getElem?_toArray, List.getElem?_cons_succ, List.getElem?_cons_zero]; rfl) (fun K hK => ?_) ReadyU.nil
  go_simp
  refine hK.out _ _ (fun _ => ck) ?_
  clear hK K
  try simp only [Act.put, List.setIfInBounds_toArray, List.set_cons_zero, List.set_cons_succ]
  refine wpAnyU_ready (rs := [10]) (by kernel_rfl) (by simp) ?_
  refine ReadyU.cons (by simp only [List.getElem?_toArray, List.getElem?_cons_succ, List.getElem?_cons_zero]; rfl) (fun K hK => ?_) ReadyU.nil
  refine step_store57 rfl 50 48 rfl g 1 rfl (some ⟨vb, 0, none⟩) (n + 1) vc rfl _ (by exact ck.1) (by exact free_of_block HBX2.out 1) ?_
  refine hK.out _ _ (by intro h; simp [Un] at h) ?_
  clear hK K
  try simp only [Act.put]
  refine wpAnyU_done (by kernel_rfl) ?_ _
  have hA5 := Go.Proofs.YtpmkmldcgiodgaaDoor.away_put (w := y2) (g := g) 1 (.slice (some ⟨vb, 0, none⟩) (n + 1) vc)
  have HB5 : Hid ((y2.setCell ⟨g, 1, none⟩ (.slice (some ⟨vb, 0, none⟩) (n + 1) vc)).heap[g]? = some (.cells #[.int .i64 m, .slice (some ⟨vb, 0, none⟩) (n + 1) vc] 59 (0, 0))) := block_set HBX2.out 1 _
  have HL5 := Lib.hid (HL2.out.away hA5 (fun k hk hm => by simp [Value.ownBlock] at hk hm; omega))
  have HE5 : Hid (∀ z ∈ ds ++ [x], Okd z ∧ Sl (y2.setCell ⟨g, 1, none⟩ (.slice (some ⟨vb, 0, none⟩) (n + 1) vc)) z.v z.t.b ∧ (z.t.b ≠ [] → ∀ k, z.v.ownBlock = some k → k ≠ g ∧ k ≠ vb ∧ (fpW g (.slice la n lc) ds k ∨ w.heap.size ≤ k))) := fun z hz => by
    rcases List.mem_append.1 hz with h1 | h1
    · have ha := fun hb k hk => HW1.out.ap z h1 hb k hk
      refine ⟨HW1.out.ok z h1, (HEA.out z h1).away hA5 (fun hb k hk hm => (ha hb k hk).1 (by simpa using hm)), fun hb k hk => ⟨(ha hb k hk).1, ?_, .inl (.inr (.inr ⟨z, h1, hb, hk⟩))⟩⟩
      intro e
      have h3 := (HW.out.each z h1).old hb k hk
      rcases HVB.out with h2 | h2
      · exact (ha hb k hk).2 (by rw [h2, e])
      · have h4 := HSWC.out; omega
    · simp only [List.mem_cons, List.not_mem_nil, or_false] at h1
      subst h1
      refine ⟨HXO.out, HXS2.out.away hA5 (fun hb k hk hm => by simp at hm; have := (HNV.out k hk).1; omega), fun hb k hk => ?_⟩
      have h1 := (HNV.out k hk).1
      have h5 := (HXS.out.old hb k hk)
      refine ⟨by omega, ?_, .inr h1⟩
      intro e
      rcases HVB.out with h2 | h2
      · have := (HNL.out vb h2).2.2.2; omega
      · omega
  have HA5 : Hid (Away (g :: (Value.slice la n lc).ownBlock.toList) w (y2.setCell ⟨g, 1, none⟩ (.slice (some ⟨vb, 0, none⟩) (n + 1) vc))) := HA2.out.next hA5 (fun z hz => .inl (by simp at hz; simp [hz]))
  have HVF : Hid (fpW g (.slice la n lc) ds vb ∨ w.heap.size ≤ vb) := by
    rcases HVB.out with h1 | h1
    · exact .inl (.inr (.inl h1))
    · exact .inr (by have h4 := HSWC.out; omega)
  have HVA : Hid (vb ∈ (Value.slice la n lc).ownBlock.toList ∨ w.heap.size ≤ vb) := by
    rcases HVB.out with h1 | h1
    · exact .inl (by simp [h1])
    · exact .inr (by have h4 := HSWC.out; omega)
  have HLEN := HW.out.len
  have HM0 := HW.out.m0
  have HM1 := HW.out.m1
  clear hA5 HL2 HEA HXS2 HA2 HBX2 ck HVL HVB HBB HW1 HA1 HWC HXS HNV HA HBD hgl h10l hgb' hs1 hne2 hg10 hs3 HSWC HXV HX HNL
  generalize y2.setCell ⟨g, 1, none⟩ (.slice (some ⟨vb, 0, none⟩) (n + 1) vc) = y5 at *
  have C1 : Hid (y5.cell? ⟨g, 1, none⟩ = some (.slice (some ⟨vb, 0, none⟩) (n + 1) vc)) := by show _ = _; rw [cell_of_block HB5.out]; rfl
  have C0 : Hid (y5.cell? ⟨g, 0, none⟩ = some (.int .i64 m)) := by show _ = _; rw [cell_of_block HB5.out]; rfl
  have HC9 : Hid (Away [] y5 y5.drew) := (Away.refl _ _).drew
  rw [← HN.out] at HLEN
  go_wp2_with fail
  refine wp_region_cls (C := (fun w' => Away [] y5 w')) (by kernel_rfl) (by kernel_rfl) HC9.out ?_
  go_big_quiet_want; (refine quiet_val ?_ ?_ ?_; rotate_left; (intro w; go_simp; rfl); go_simp; go_big_quiet_on)
  go_big_quiet_want; (refine quiet_val ?_ ?_ ?_; rotate_left; (intro w; go_simp; rfl); go_simp; go_big_quiet_on)
  go_big_quiet_want; (refine quiet_val ?_ ?_ ?_; rotate_left; (intro w; go_simp; rfl); go_simp; go_big_quiet_on)
  go_big_quiet_want; refine quiet_ld _ rfl (ad := ⟨g, 1, none⟩) rfl (fun w' h => ldD (h.cell (by simp) C1.out)) ?_; go_simp; go_big_quiet_on
  go_big_quiet_want; (refine quiet_val ?_ ?_ ?_; rotate_left; (intro w; go_simp; rfl); go_simp; go_big_quiet_on)
  go_big_quiet_want; (refine quiet_val ?_ ?_ ?_; rotate_left; (intro w; go_simp; rfl); go_simp; go_big_quiet_on)
  go_big_quiet_want; (refine quiet_val ?_ ?_ ?_; rotate_left; (intro w; go_simp; rfl); go_simp; go_big_quiet_on)
  go_big_quiet_want; (refine quiet_val ?_ ?_ ?_; rotate_left; (intro w; go_simp; rfl); go_simp; go_big_quiet_on)
  go_big_quiet_want; refine quiet_ld _ rfl (ad := ⟨g, 0, none⟩) rfl (fun w' h => ld3 (h.cell (by simp) C0.out)) ?_; go_simp; go_big_quiet_on
  go_big_quiet_want; (refine quiet_val ?_ ?_ ?_; rotate_left; (intro w; go_simp; rfl); go_simp; go_big_quiet_on)
  refine wpQuiet_nil ?_
  intro V hV
  have HA9 := Lib.hid (HA5.out.next hV (by simp))
  have HB9 := Lib.hid (hV.keep (by simp) HB5.out)
  have HL9 := Lib.hid (HL5.out.on hV)
  have HE9 : Hid (∀ z ∈ ds ++ [x], Okd z ∧ Sl V z.v z.t.b ∧ (z.t.b ≠ [] → ∀ k, z.v.ownBlock = some k → k ≠ g ∧ k ≠ vb ∧ (fpW g (.slice la n lc) ds k ∨ w.heap.size ≤ k))) := fun z hz => ⟨(HE5.out z hz).1, (HE5.out z hz).2.1.on hV, (HE5.out z hz).2.2⟩
  clear hV HA5 HB5 HL5 HE5 C1 C0 HC9
  have c1 : V.cell? ⟨g, 1, none⟩ = some (.slice (some ⟨vb, 0, none⟩) (n + 1) vc) := by rw [cell_of_block HB9.out]; rfl
  by_cases hm : m < (n : Int) + 1
  · have em : decide (m < (n : Int) + 1) = true := by simpa using hm
    have K26 : Hid (Calls Tryd.prog 26 #[.slice (some ⟨vb, 0, none⟩) (n + 1) vc, .int .i64 0, .int .i64 1] V fun E w' => E = .returned (.slice (some ⟨vb, 0, none⟩) n vc) ∧ LstD w' (.slice (some ⟨vb, 0, none⟩) n vc) ((ds ++ [x]).eraseIdx 0) ∧ Away [vb] V w') := by
      have h1 := delete_c V vb vc (ds ++ [x]) 0 n (by rw [List.length_append, ← HN.out]; exact HL9.out) (fun z hz => (HE9.out z hz).1) (by rw [List.length_append, ← HN.out]; simp; omega) (by rw [List.length_append, ← HN.out]; simp; omega)
      rw [List.length_append, ← HN.out] at h1
      show Calls _ _ _ _ _
      simpa using h1
    go_wp2_with fail
    refine K26.out.mono ?_
    rintro E z1 ⟨rfl, hl, haw⟩
    have HBZ : Hid (z1.heap[g]? = some (.cells #[.int .i64 m, .slice (some ⟨vb, 0, none⟩) (n + 1) vc] 59 (0, 0))) := haw.keep (by simp; omega) HB9.out
    have f1 : z1.cell? ⟨g, 1, none⟩ = some (.slice (some ⟨vb, 0, none⟩) (n + 1) vc) := by rw [cell_of_block HBZ.out]; rfl
    have t1 := free_of_block HBZ.out 1
    have hA6 := Go.Proofs.YtpmkmldcgiodgaaDoor.away_put (w := z1) (g := g) 1 (.slice (some ⟨vb, 0, none⟩) n vc)
    have HFW : Hid (Win (z1.setCell ⟨g, 1, none⟩ (.slice (some ⟨vb, 0, none⟩) n vc)) g (.slice (some ⟨vb, 0, none⟩) n vc) m ((ds ++ [x]).eraseIdx 0)) := by
      have hmem : ∀ z ∈ (ds ++ [x]).eraseIdx 0, z ∈ ds ++ [x] := fun z hz => List.mem_of_mem_eraseIdx hz
      refine ⟨block_set HBZ.out 1 _, hl.away hA6 (fun k hk hm => by simp [Value.ownBlock] at hk hm; omega), by simp [Value.ownBlock]; exact hvg, fun z hz => (HE9.out z (hmem z hz)).1, fun z hz => ?_, fun z hz hb k hk => ?_, HM0, HM1, ?_⟩
      · have h1 := HE9.out z (hmem z hz)
        refine (h1.2.1.away haw (fun hb k hk hm => ?_)).away hA6 (fun hb k hk hm => ?_)
        · exact (h1.2.2 hb k hk).2.1 (by simpa using hm)
        · exact (h1.2.2 hb k hk).1 (by simpa using hm)
      · have h1 := (HE9.out z (hmem z hz)).2.2 hb k hk
        exact ⟨h1.1, by simp [Value.ownBlock]; exact fun e => h1.2.1 e.symm⟩
      · rw [List.length_eraseIdx, if_pos (by simp), List.length_append, ← HN.out]; simp; omega
    have HFA : Hid (Away (g :: (Value.slice la n lc).ownBlock.toList) w (z1.setCell ⟨g, 1, none⟩ (.slice (some ⟨vb, 0, none⟩) n vc))) := (HA9.out.next haw (fun z hz => by
      simp only [List.mem_cons, List.not_mem_nil, or_false] at hz
      subst hz
      rcases HVA.out with h1 | h1
      · exact .inl (List.mem_cons_of_mem _ h1)
      · exact .inr h1)).next hA6 (fun z hz => .inl (by simp at hz; simp [hz]))
    have HFM : Hid (((ds ++ [x]).eraseIdx 0).map (·.t) = addN m (ds.map (·.t)) (mkN p cut id)) := by
      show _ = _
      unfold addN
      rw [List.length_map, ← HN.out, if_pos hm, ← HXT.out, List.eraseIdx_zero, List.map_tail, List.map_append, List.drop_one]; rfl
    have HFF : Hid (∀ k, fpW g (.slice (some ⟨vb, 0, none⟩) n vc) ((ds ++ [x]).eraseIdx 0) k → fpW g (.slice la n lc) ds k ∨ w.heap.size ≤ k) := fun k hk => by
      rcases hk with rfl | hk | ⟨z, hz, hb, hk⟩
      · exact .inl (.inl rfl)
      · simp [Value.ownBlock] at hk
        subst hk
        exact HVF.out
      · exact ((HE9.out z (List.mem_of_mem_eraseIdx hz)).2.2 hb k hk).2.2
    clear hl haw HBZ hA6 HE9 HL9 HA9 HB9 c1 K26
    go_wp2_with fail
    go_ret
    exact .inr ⟨HOB.out.symm, _, _, rfl, HFW.out, HFM.out, HFF.out, HFA.out⟩
  · have em : decide (m < (n : Int) + 1) = false := by simpa using hm
    have HFW : Hid (Win V g (.slice (some ⟨vb, 0, none⟩) (n + 1) vc) m (ds ++ [x])) := ⟨HB9.out, HL9.out, by simp [Value.ownBlock]; exact hvg, fun z hz => (HE9.out z hz).1, fun z hz => (HE9.out z hz).2.1, fun z hz hb k hk => ⟨((HE9.out z hz).2.2 hb k hk).1, by simp [Value.ownBlock]; exact fun e => ((HE9.out z hz).2.2 hb k hk).2.1 e.symm⟩, HM0, HM1, by rw [List.length_append, ← HN.out]; simp; omega⟩
    have HFM : Hid ((ds ++ [x]).map (·.t) = addN m (ds.map (·.t)) (mkN p cut id)) := by
      show _ = _
      unfold addN
      rw [List.length_map, ← HN.out, if_neg hm, ← HXT.out, List.map_append]; rfl
    have HFF : Hid (∀ k, fpW g (.slice (some ⟨vb, 0, none⟩) (n + 1) vc) (ds ++ [x]) k → fpW g (.slice la n lc) ds k ∨ w.heap.size ≤ k) := fun k hk => by
      rcases hk with rfl | hk | ⟨z, hz, hb, hk⟩
      · exact .inl (.inl rfl)
      · simp [Value.ownBlock] at hk
        subst hk
        exact HVF.out
      · exact ((HE9.out z hz).2.2 hb k hk).2.2
    clear HE9 HL9 HB9
    go_wp2_with fail
    go_ret
    exact .inr ⟨HOB.out.symm, _, _, rfl, HFW.out, HFM.out, HFF.out, HA9.out⟩
end
end Go.Proofs.YtpmkmldcgiodgaaDoor
