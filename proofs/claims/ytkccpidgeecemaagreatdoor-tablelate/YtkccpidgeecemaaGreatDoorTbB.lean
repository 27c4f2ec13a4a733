/-
  datagramOf.
-/
import Derived.Test.YtkccpidgeecemaaGreatDoorTbA
import Derived.Test.YtkccpidgeecemaaGreatDoorUnt
namespace Go.Proofs.YtkccpidgeecemaaGreatDoor
open Go.ChangeShapes Go.WideShapes Go.ChangeAt Go.RowKit
open S6 (wp_region_cls quiet_val quiet_call quiet_ld ld3 ld4 ld5 ld25 ld26 load28_run load24m_run)
set_option linter.unusedVariables false
set_option linter.unusedSimpArgs false
set_option maxRecDepth 100000
def csTo (n : Int) (wv lv gv : Value) : Array Value := #[.int .i64 n, wv, lv, gv]
def BoxT (w : World) (g : Nat) (n : Int) (wv lv gv : Value) : Prop := w.heap[g]? = some (.cells (csTo n wv lv gv) 44 (0, 0))
def nilV : Value := .slice none 0 0
theorem info33 : (Tryz.prog.info? 44).map (·.size) = some 4 := by kernel_rfl
theorem zero33 (w : World) : (zeroValue 44).run Tryz.prog w = .ok (.agg (csTo 0 nilV nilV nilV)) w := by kernel_rfl
theorem run_build33 (w : World) : (Instr.build 44 #[]).run Tryz.prog w = .ok (.agg (csTo 0 nilV nilV nilV)) w := by kernel_rfl
theorem run_build33l (a : Option Addr) (n c : Nat) (w : World) : (Instr.build 44 #[(2, .slice a n c)]).run Tryz.prog w = .ok (.agg (csTo 0 nilV (.slice a n c) nilV)) w := by kernel_rfl
theorem wpList_alloc33 {ops : Array Oper} {rest : List Oper} {o : Oper} {a : Act} {w : World} {Q : Exit → Act → World → Prop} (hg : o.guard = none) (ho : o.op = .alloc 44)
    (h : ∀ g w1, w.heap.size ≤ g → BoxT w1 g 0 nilV nilV nilV → Away [] w w1 → wpList Tryz.prog ops Q rest (a.put o.dst (.pointer (some ⟨g, 0, none⟩))) w1) : wpList Tryz.prog ops Q (o :: rest) a w := by
  refine wpList_plain hg fun KK hK => ?_
  unfold Oper.wp execOp
  simp only [ho, Instr.alloc, newVar, newRow, Sem.run_bind, zero33 w, run_newObj_alloc, Sem.run_pure, Result.andThen_ok]
  exact hK _ _ (h w.heap.size _ (Nat.le_refl _) (block_new _ _) ((Away.refl [] w).alloc _))
theorem csTo_one {n : Int} {wv lv gv : Value} (h1 : wv.oneCell' = true) (h2 : lv.oneCell' = true) (h3 : gv.oneCell' = true) : (csTo n wv lv gv).all (·.oneCell') = true := by
  rw [Array.all_eq_true_iff_forall_mem]
  intro x hx
  simp only [csTo, List.mem_toArray, List.mem_cons, List.not_mem_nil, or_false] at hx
  rcases hx with rfl | rfl | rfl | rfl
  · rfl
  · exact h1
  · exact h2
  · exact h3
theorem wpList_store33 {ops : Array Oper} {rest : List Oper} {o : Oper} {a : Act} {w : World} {Q : Exit → Act → World → Prop} (hw : Region.wanted o (yielded ops a.tmps) = true) (x y : Operand) (ho : o.op = .store 44 x y)
    (g : Nat) (hx : a.eval x = .pointer (some ⟨g, 0, none⟩)) (n : Int) (wv lv gv : Value) (hy : a.eval y = .agg (csTo n wv lv gv)) (n' : Int) (wv' lv' gv' : Value) (hb : BoxT w g n' wv' lv' gv') (h1 : wv.oneCell' = true) (h2 : lv.oneCell' = true) (h3 : gv.oneCell' = true)
    (h : ∀ w1, BoxT w1 g n wv lv gv → Away [g] w w1 → wpList Tryz.prog ops Q rest (a.put o.dst undef) w1) : wpList Tryz.prog ops Q (o :: rest) a w :=
  BigFrame.wpList_want hw fun KK hK => wp_store_row 44 x y ho g (csTo n wv lv gv) hx hy 44 (csTo n' wv' lv' gv') hb (by exact info33) (by rfl) (csTo_one h1 h2 h3) (hK _ _ (h _ (by
    unfold BoxT at hb ⊢; simp [World.setRow, Array.getElem?_modify, hb]) ((Away.refl [g] w).setRow (.inl (by simp)) _)))
theorem result33t {fn : Func} {t u : Tmp} (h : fn.results = #[.cell t 44, .tmp u]) (tmps : Array Value) (w : World) (g : Nat) (n : Int) (wv lv gv v : Value) (ht : tmps.getD t undef = .pointer (some ⟨g, 0, none⟩)) (hu : tmps.getD u undef = v) (hb : BoxT w g n wv lv gv) :
    (results fn tmps).run Tryz.prog w = .ok (.tuple #[.agg (csTo n wv lv gv), v]) w := by
  rw [results_cell_tmp h, ht, hu]
  simp only [asAddr, Sem.run_pure, Result.andThen, run_loadVar_row w g 44 44 (csTo n wv lv gv) (0, 0) _ hb Tryz.underlying44 rfl (by exact info33)]
theorem wpList_b33 {ops : Array Oper} {rest : List Oper} {o : Oper} {a : Act} {w : World} {Q : Exit → Act → World → Prop} (hg : o.guard = none) (ho : o.op = .build 44 #[])
    (h : wpList Tryz.prog ops Q rest (a.put o.dst (.agg (csTo 0 nilV nilV nilV))) w) : wpList Tryz.prog ops Q (o :: rest) a w := by
  refine wpList_plain hg fun KK hK => ?_
  unfold Oper.wp execOp
  simp only [ho, List.map_toArray, List.map_nil, run_build33, Sem.run_bind, Result.andThen_ok, Sem.run_pure]
  exact hK _ _ h
theorem wpList_b33l {ops : Array Oper} {rest : List Oper} {o : Oper} {a : Act} {w : World} {Q : Exit → Act → World → Prop} (hg : o.guard = none) (x : Operand) (ho : o.op = .build 44 #[(2, x)]) (b : Option Addr) (n c : Nat) (hx : a.eval x = .slice b n c)
    (h : wpList Tryz.prog ops Q rest (a.put o.dst (.agg (csTo 0 nilV (.slice b n c) nilV))) w) : wpList Tryz.prog ops Q (o :: rest) a w := by
  refine wpList_plain hg fun KK hK => ?_
  unfold Oper.wp execOp
  simp only [ho, hx, List.map_toArray, List.map_cons, List.map_nil, run_build33l, Sem.run_bind, Result.andThen_ok, Sem.run_pure]
  exact hK _ _ h
section
variable {w w' : World} {gt mb : Nat} {ov : Value} {q : Qo} {now : Int} {cs : List Cel}
theorem Tab.tick (h : Tab w gt mb ov q now cs) (t : Int) : Tab (w.setCell ⟨gt, 4, none⟩ (.int .i64 t)) gt mb ov q t cs := by
  have aw := away_one' w gt 4 (.int .i64 t)
  refine ⟨by have h1 := block_set h.blk 4 (.int .i64 t); rw [csT_now] at h1; exact h1, h.mp.away aw (by simpa using fun e => h.gm e.symm), h.ord.away aw (fun z hz hm => by simp at hm; subst hm; exact h.go hz),
    fun c hc => (h.ent c hc).away aw (fun z hz hm => by simp at hm; subst hm; exact h.og c hc hz), h.kwf, h.dist, h.sep, h.og, h.om, h.oo, h.gm, h.go, h.mo, h.len⟩
def TickOut (w : World) (gt mb : Nat) (ov : Value) (q : Qo) (t0 now : Int) (cs : List Cel) (E : Ending) (w' : World) : Prop :=
  ((now < t0 ∨ 1099511627776 < now) ∧ E = .returned (.tuple #[.agg (csTo 0 nilV nilV nilV), .int .i64 1]) ∧ Away [] w w') ∨
  ((t0 ≤ now ∧ now ≤ 1099511627776) ∧ ∃ v xs ov', E = .returned (.tuple #[.agg (csTo 0 nilV v nilV), .int .i64 0]) ∧ Cuts w' w.heap.size v xs ∧ xs.map X.p = toldL (cs.takeWhile (lateB q now)) ∧ Tab w' gt mb ov' q now (cs.dropWhile (lateB q now)) ∧ ov'.ownBlock = ov.ownBlock ∧ Away (gt :: mb :: ov.ownBlock.toList) w w')
set_option maxHeartbeats 8000000 in
theorem tick_c {t0 : Int} (h : Tab w gt mb ov q t0 cs) (hb : ∀ c ∈ cs, 0 ≤ c.s.tb ∧ c.s.tb ≤ t0) (ht : 0 ≤ t0 ∧ t0 ≤ 1099511627776) (now : Int) : Calls Tryz.prog 15 #[.pointer (some ⟨gt, 0, none⟩), .int .i64 now] w (TickOut w gt mb ov q t0 now cs) := by
  have HT := Lib.hid h
  have HB := Lib.hid hb
  have HLT : Hid (gt < w.heap.size) := lt_of_block h.blk
  have C4 : Hid (w.cell? ⟨gt, 4, none⟩ = some (.int .i64 t0)) := h.cell 4
  clear h hb
  go_enter Tryz.func15, Tryz.ntmps15
  go_wp2_with (refine wpList_alloc33 rfl rfl ?_; refine Hid.out ?_)
  refine Lib.hid ?_
  intro g4 w1 hg4 hb4 haw4
  have HB4 := Lib.hid hb4
  have HG4 := Lib.hid hg4
  have HA1 := Lib.hid haw4
  have c4 := haw4.cell (by simp) C4.out
  have f4 : w1.frozen? ⟨gt, 4, none⟩ = false := (HT.out.on haw4).free 4
  clear hb4 haw4 hg4
  by_cases h1 : now < t0
  · have h1b : decide (now < t0) = true := by simpa using h1
    go_wp2_with (first | (refine wpList_b33 rfl rfl ?_) | (refine wpList_store33 rfl _ _ rfl g4 rfl 0 nilV nilV nilV rfl 0 nilV nilV nilV (by exact HB4.out) rfl rfl rfl ?_; refine Hid.out ?_))
    refine Lib.hid ?_
    intro w2 hb2 haw2
    have HB2 := Lib.hid hb2
    have HA2 : Hid (Away [] w w2) := HA1.out.next haw2 (fun z hz => .inr (by simp at hz; rw [hz]; exact HG4.out))
    clear hb2 haw2
    go_wp2_with fail
    exact bodyPost_ret (result33t rfl _ _ _ _ _ _ _ _ rfl rfl HB2.out) rfl (.inl ⟨by omega, rfl, HA2.out⟩)
  · have h1b : decide (now < t0) = false := by simpa using h1
    by_cases h2 : 1099511627776 < now
    · have h2b : decide (1099511627776 < now) = true := by simpa using h2
      go_wp2_with (first | (refine wpList_b33 rfl rfl ?_) | (refine wpList_store33 rfl _ _ rfl g4 rfl 0 nilV nilV nilV rfl 0 nilV nilV nilV (by exact HB4.out) rfl rfl rfl ?_; refine Hid.out ?_))
      refine Lib.hid ?_
      intro w2 hb2 haw2
      have HB2 := Lib.hid hb2
      have HA2 : Hid (Away [] w w2) := HA1.out.next haw2 (fun z hz => .inr (by simp at hz; rw [hz]; exact HG4.out))
      clear hb2 haw2
      go_wp2_with fail
      exact bodyPost_ret (result33t rfl _ _ _ _ _ _ _ _ rfl rfl HB2.out) rfl (.inl ⟨by omega, rfl, HA2.out⟩)
    · have h2b : decide (1099511627776 < now) = false := by simpa using h2
      have HT1 := Lib.hid ((HT.out.on HA1.out).tick now)
      have HA2 : Hid (Away [gt] w1 (w1.setCell ⟨gt, 4, none⟩ (.int .i64 now))) := away_one' w1 gt 4 _
      obtain ⟨w2, hw2⟩ : ∃ z, z = w1.setCell ⟨gt, 4, none⟩ (.int .i64 now) := ⟨_, rfl⟩
      have K26 : Hid (Calls Tryz.prog 36 #[.pointer (some ⟨gt, 0, none⟩)] w2 (LateOut w2 gt mb ov q now cs)) := by
        rw [hw2]
        exact late_c HT1.out (fun c hc => by have h3 := HB.out c hc; omega) (by omega)
      go_upto_region 4 with fail
      rw [← hw2] at HT1 HA2 ⊢
      have HB5 : Hid (BoxT w2 g4 0 nilV nilV nilV) := HA2.out.keep (by simp; have h3 := HLT.out; have h4 := HG4.out; omega) HB4.out
      have HS2 : Hid (w.heap.size ≤ w2.heap.size ∧ g4 < w2.heap.size) := ⟨Nat.le_trans HA1.out.size HA2.out.size, lt_of_block HB5.out⟩
      clear hw2 c4 f4
      go_wp2_with fail
      refine K26.out.mono ?_
      rintro E w3 ⟨v, xs, ov', rfl, hcu, hxm, htab, hob, haw⟩
      obtain ⟨va, vcap, hv, -⟩ := hcu.pks (by
        have h3 : (xs.map X.p).length ≤ (cs.takeWhile (lateB q now)).length := by rw [hxm]; exact List.length_filterMap_le _ _
        have h4 : (cs.takeWhile (lateB q now)).length ≤ cs.length := (List.takeWhile_sublist _).length_le
        have h5 := HT1.out.len
        rw [List.length_map] at h3
        omega)
      subst hv
      have HCU := Lib.hid hcu
      have HXM := Lib.hid hxm
      have HT3 := Lib.hid htab
      have HOB := Lib.hid hob
      have HSL : Hid (∀ z ∈ gt :: mb :: ov.ownBlock.toList, z < w.heap.size) := fun z hz => HT.out.lt z (by
        simp only [List.mem_cons, Option.mem_toList] at hz
        exact mem_fpT.2 (hz.imp id (Or.imp id Or.inl)))
      have HA3 : Hid (Away (gt :: mb :: ov.ownBlock.toList) w w3) := ((HA1.out.mono (by simp)).trans (HA2.out.mono (by simp))).trans haw
      have HB6 : Hid (BoxT w3 g4 0 nilV nilV nilV) := haw.keep (fun hm => by have h3 := HSL.out g4 hm; have h4 := HG4.out; omega) HB5.out
      have HNF : Hid (g4 ∉ fpT gt mb ov' (cs.dropWhile (lateB q now))) := fun hz => by
        have h4 := HG4.out
        have h5 : g4 < w.heap.size := by
          rcases mem_fpT.1 hz with e | e | hz | ⟨d, hd, hz⟩
          · exact HT.out.lt g4 (mem_fpT.2 (.inl e))
          · exact HT.out.lt g4 (mem_fpT.2 (.inr (.inl e)))
          · exact HT.out.lt g4 (mem_fpT.2 (.inr (.inr (.inl (by rw [← HOB.out]; exact hz)))))
          · exact HT.out.lt g4 (mem_fpT.2 (.inr (.inr (.inr ⟨d, (List.dropWhile_sublist _).mem hd, hz⟩))))
        omega
      obtain ⟨vn, hvn⟩ : ∃ z, z = xs.length := ⟨_, rfl⟩
      rw [← hvn] at HCU ⊢
      clear hcu hxm htab hob haw hvn K26
      go_wp2_with (first | (refine wpList_b33l rfl _ rfl va vn vcap rfl ?_) | (refine wpList_store33 rfl _ _ rfl g4 rfl 0 nilV (.slice va vn vcap) nilV rfl 0 nilV nilV nilV (by exact HB6.out) rfl rfl rfl ?_; refine Hid.out ?_))
      refine Lib.hid ?_
      intro w5 hb5 haw5
      have HB7 := Lib.hid hb5
      have HCU5 : Hid (Cuts w5 w.heap.size (.slice va vn vcap) xs) := (HCU.out.away haw5 (fun z hz => by simp at hz; rw [hz]; exact HS2.out.2)).mono HS2.out.1
      have HT5 := Lib.hid (HT3.out.away haw5 (fun z hz hm => by simp at hm; subst hm; exact HNF.out hz))
      have HA5 : Hid (Away (gt :: mb :: ov.ownBlock.toList) w w5) := HA3.out.next haw5 (fun z hz => .inr (by simp at hz; rw [hz]; exact HG4.out))
      clear hb5 haw5
      go_wp2_with fail
      exact bodyPost_ret (result33t rfl _ _ _ _ _ _ _ _ rfl rfl HB7.out) rfl (.inr ⟨by omega, _, xs, ov', rfl, HCU5.out, HXM.out, HT5.out, HOB.out, HA5.out⟩)
end
set_option maxHeartbeats 1000000
theorem tkey_c (p : Pk) (ov dv : Value) (w : World) (ha : Ad p) :
    Calls Tryz.prog 50 #[.agg (csP p ov dv)] w fun E w' => E = .returned (.agg (csK p)) ∧ Away [] w w' := by
  have HAD := Lib.hid ha
  clear ha
  go_enter Tryz.func50, Tryz.ntmps50
  go_wp2_with (refine wpList_box28 rfl _ rfl p _ _ rfl ?_; refine Hid.out ?_)
  refine Lib.hid ?_
  intro g1 w1 hg1 hb1 haw1
  have HB1 := Lib.hid hb1; have HA1 := Lib.hid haw1
  have hl1 := hb1.lt
  clear hb1 haw1
  go_wp2_with (refine wpList_alloc78 rfl rfl ?_; refine Hid.out ?_)
  refine Lib.hid ?_
  intro g2 w2 hg2 hb2 haw2
  have HB2 := Lib.hid hb2
  replace HB1 := Lib.hid (HB1.out.on haw2)
  replace HA1 := Lib.hid (HA1.out.next haw2 (by simp))
  have hs2 := haw2.size
  clear hb2 haw2
  have s0 := (HB1.out.cells HAD.out).v
  have s37 := (HB1.out.cells HAD.out).proto
  have s39 := (HB1.out.cells HAD.out).id
  go_wp2_with (first
    | (refine wpList_load24m rfl _ rfl g1 3 rfl p.sv p.sb (by exact HB1.out.srow) HAD.out.1 ?_)
    | (refine wpList_load24m rfl _ rfl g1 20 rfl p.dv p.db (by exact HB1.out.drow HAD.out) HAD.out.2 ?_)
    | (refine wpList_build78 rfl _ _ _ _ _ rfl p HAD.out rfl rfl rfl rfl rfl ?_)
    | (refine wpList_store78 rfl _ _ rfl g2 rfl p HAD.out rfl (by exact HB2.out) ?_; refine Hid.out ?_))
  refine Lib.hid ?_
  intro w3 hb3 haw3
  have HB3 := Lib.hid hb3
  have HA3 : Hid (Away [] w w3) := HA1.out.next haw3 (fun x hx => .inr (by simp at hx; omega))
  clear hb3 haw3 s0 s37 s39
  go_wp2_with fail
  exact bodyPost_ret (result78 rfl _ _ _ _ rfl HB3.out HAD.out) rfl ⟨rfl, HA3.out⟩
theorem lkey_c (p : Pk) (ov dv : Value) (w : World) (ha : Ad p) :
    Calls Tryz.prog 18 #[.agg (csP p ov dv)] w fun E w' => E = .returned (.agg (csK p)) ∧ Away [] w w' := by
  have HAD := Lib.hid ha
  clear ha
  go_enter Tryz.func18, Tryz.ntmps18
  go_wp2_with (refine wpList_box28 rfl _ rfl p _ _ rfl ?_; refine Hid.out ?_)
  refine Lib.hid ?_
  intro g1 w1 hg1 hb1 haw1
  have HB1 := Lib.hid hb1; have HA1 := Lib.hid haw1
  have hl1 := hb1.lt
  clear hb1 haw1
  go_wp2_with (refine wpList_alloc78 rfl rfl ?_; refine Hid.out ?_)
  refine Lib.hid ?_
  intro g2 w2 hg2 hb2 haw2
  have HB2 := Lib.hid hb2
  replace HB1 := Lib.hid (HB1.out.on haw2)
  replace HA1 := Lib.hid (HA1.out.next haw2 (by simp))
  have hs2 := haw2.size
  clear hb2 haw2
  have s0 := (HB1.out.cells HAD.out).v
  have s37 := (HB1.out.cells HAD.out).proto
  have s39 := (HB1.out.cells HAD.out).id
  go_wp2_with (first
    | (refine wpList_load24m rfl _ rfl g1 3 rfl p.sv p.sb (by exact HB1.out.srow) HAD.out.1 ?_)
    | (refine wpList_load24m rfl _ rfl g1 20 rfl p.dv p.db (by exact HB1.out.drow HAD.out) HAD.out.2 ?_)
    | (refine wpList_build78 rfl _ _ _ _ _ rfl p HAD.out rfl rfl rfl rfl rfl ?_)
    | (refine wpList_store78 rfl _ _ rfl g2 rfl p HAD.out rfl (by exact HB2.out) ?_; refine Hid.out ?_))
  refine Lib.hid ?_
  intro w3 hb3 haw3
  have HB3 := Lib.hid hb3
  have HA3 : Hid (Away [] w w3) := HA1.out.next haw3 (fun x hx => .inr (by simp at hx; omega))
  clear hb3 haw3 s0 s37 s39
  go_wp2_with fail
  exact bodyPost_ret (result78 rfl _ _ _ _ rfl HB3.out HAD.out) rfl ⟨rfl, HA3.out⟩
theorem put_kt (s : Es) (p : Pk) : (putS s p).2.k = s.k ∧ (putS s p).2.tb = s.tb := by
  unfold putS
  split
  · exact ⟨rfl, rfl⟩
  · split
    · exact ⟨rfl, rfl⟩
    · split
      · exact ⟨rfl, rfl⟩
      · exact (take_bad s p).2
theorem ey_pois {w : World} {g : Nat} {s : Es} (h : EntB w g s) : Ey w g s [g] := ⟨.inl ⟨h, rfl⟩, fun hb => by rw [h.2.1] at hb; simp at hb⟩
def isWhP (p : Pk) : Bool := decide (p.off = 0) && !p.more
set_option maxHeartbeats 1000000 in
theorem isWhole_c (p : Pk) (ov dv : Value) (w : World) (ha : Ad p) : Calls Tryz.prog 32 #[.agg (csP p ov dv)] w fun E w' => E = .returned (.bool (isWhP p)) ∧ Away [] w w' := by
  have HAD := Lib.hid ha
  clear ha
  go_enter Tryz.func32, Tryz.ntmps32
  go_wp2_with (refine wpList_box28 rfl _ rfl p _ _ rfl ?_; refine Hid.out ?_)
  refine Lib.hid ?_
  intro g1 w1 hg1 hb1 haw1
  have HA1 := Lib.hid haw1
  have c1 := (hb1.cells HAD.out).off
  have c2 := (hb1.cells HAD.out).more
  clear hb1 haw1 hg1
  have HV : Hid (isWhP p = (decide (p.off = 0) && !p.more)) := rfl
  generalize p.off = of at *
  generalize p.more = mo at *
  by_cases h0 : of = 0
  · subst h0
    go_wp2_with fail
    go_ret
    exact ⟨by rw [HV.out]; simp; try rfl, HA1.out⟩
  · have h0b : (of == 0) = false := by simpa using h0
    go_wp2_with fail
    go_ret
    exact ⟨by rw [HV.out]; simp [h0]; try rfl, HA1.out⟩
section
variable {w w' : World} {gt mb : Nat} {ov : Value} {q : Qo} {now : Int} {cs : List Cel}
theorem set_get {i : Nat} {c x : Cel} (hc : cs[i]? = some c) {j : Nat} {d : Cel} (hd : (cs.set i x)[j]? = some d) : (j = i ∧ d = x) ∨ (j ≠ i ∧ cs[j]? = some d) := by
  rw [List.getElem?_set] at hd
  split at hd
  · rename_i he
    split at hd
    · simp at hd; exact .inl ⟨he.symm, hd.symm⟩
    · simp at hd
  · rename_i he
    exact .inr ⟨fun e => he e.symm, hd⟩
theorem set_keys {i : Nat} {c x : Cel} (hc : cs[i]? = some c) (hk : x.s.k = c.s.k) : (cs.set i x).map (·.s.k) = cs.map (·.s.k) := by
  apply List.ext_getElem?
  intro j
  rw [List.getElem?_map, List.getElem?_map, List.getElem?_set]
  split
  · rename_i he
    subst he
    rw [if_pos (lt_of_get hc), hc]
    simp [hk]
  · rfl
theorem look_set {i : Nat} {c x : Cel} (hc : cs[i]? = some c) (hk : x.s.k = c.s.k) (hg : x.g = c.g) (p : Pk) : lookC (cs.set i x) p = lookC cs p := by
  induction cs generalizing i with
  | nil => simp at hc
  | cons a r ih =>
    cases i with
    | zero =>
      simp at hc
      subst hc
      simp only [List.set_cons_zero]
      unfold lookC
      by_cases h : kyB p x.s.k = true
      · rw [List.find?_cons_of_pos (by simpa using h), List.find?_cons_of_pos (by rw [← hk]; simpa using h)]
        simp [hg]
      · rw [List.find?_cons_of_neg (by simpa using h), List.find?_cons_of_neg (by rw [← hk]; simpa using h)]
    | succ i =>
      simp at hc
      have e := ih hc
      simp only [List.set_cons_succ]
      unfold lookC at e ⊢
      by_cases h : kyB p a.s.k = true
      · rw [List.find?_cons_of_pos (by simpa using h), List.find?_cons_of_pos (by simpa using h)]
      · rw [List.find?_cons_of_neg (by simpa using h), List.find?_cons_of_neg (by simpa using h)]
        exact e
theorem pw_get {R : Cel → Cel → Prop} : cs.Pairwise R ↔ ∀ (a b : Nat) (x y : Cel), a < b → cs[a]? = some x → cs[b]? = some y → R x y := by
  rw [List.pairwise_iff_getElem]
  constructor
  · intro h a b x y hab hx hy
    have := h a b (lt_of_get hx) (lt_of_get hy) hab
    rwa [(List.getElem?_eq_some_iff.1 hx).2, (List.getElem?_eq_some_iff.1 hy).2] at this
  · intro h a b ha hb hab
    exact h a b _ _ hab (List.getElem?_eq_getElem ha) (List.getElem?_eq_getElem hb)
theorem Tab.upd (h : Tab w gt mb ov q now cs) {i : Nat} {c : Cel} (hc : cs[i]? = some c) {s' : Es} {fp' : List Nat} (hw : Away c.fp w w') (hy : Ey w' c.g s' fp') (hk : s'.k = c.s.k) (hf : ∀ z ∈ fp', z ∈ c.fp ∨ w.heap.size ≤ z) : Tab w' gt mb ov q now (cs.set i ⟨s', c.g, fp'⟩) := by
  have hcm := List.mem_of_getElem? hc
  have hlt := h.lt
  have l1 : gt < w.heap.size := hlt gt (mem_fpT.2 (.inl rfl))
  have l2 : mb < w.heap.size := hlt mb (mem_fpT.2 (.inr (.inl rfl)))
  have l3 : ∀ x ∈ cs, ∀ z ∈ x.fp, z < w.heap.size := fun x hx z hz => hlt z (mem_fpT.2 (.inr (.inr (.inr ⟨x, hx, hz⟩))))
  have hmem : ∀ d ∈ cs.set i ⟨s', c.g, fp'⟩, d = ⟨s', c.g, fp'⟩ ∨ ∃ j, j ≠ i ∧ cs[j]? = some d := fun d hd => by
    obtain ⟨j, hj⟩ := List.mem_iff_getElem?.1 hd
    rcases set_get hc hj with ⟨-, e⟩ | e
    · exact .inl e
    · exact .inr ⟨j, e⟩
  have hsep : ∀ j d, j ≠ i → cs[j]? = some d → ∀ z ∈ d.fp, z ∉ c.fp := fun j d hj hd z hz hzc => by
    have hp := pw_get.1 h.sep
    rcases Nat.lt_or_ge j i with h1 | h1
    · exact hp j i d c h1 hd hc z hz hzc
    · exact hp i j c d (by omega) hc hd z hzc hz
  refine ⟨hw.keep (h.og c hcm) h.blk, ?_, ?_, fun d hd => ?_, fun d hd => ?_, pw_get.2 fun a b x y hab hx hy' => ?_, pw_get.2 fun a b x y hab hx hy' z hz hz' => ?_, fun d hd hz => ?_, fun d hd hz => ?_, fun d hd k hkk hz => ?_, h.gm, h.go, h.mo, by rw [List.length_set]; exact h.len⟩
  · have h1 := h.mp.away hw (h.om c hcm)
    rw [List.length_set, show lookC (cs.set i ⟨s', c.g, fp'⟩) = lookC cs from funext fun p => look_set (x := ⟨s', c.g, fp'⟩) hc hk rfl p]
    exact h1
  · rw [set_keys hc hk]
    exact h.ord.away hw (fun z hz => h.oo c hcm z hz)
  · rcases hmem d hd with rfl | ⟨j, hj, hd'⟩
    · exact hy
    · exact (h.ent d (List.mem_of_getElem? hd')).away hw (fun z hz => hsep j d hj hd' z hz)
  · rcases hmem d hd with rfl | ⟨j, hj, hd'⟩
    · show Wf s'.k; rw [hk]; exact h.kwf c hcm
    · exact h.kwf d (List.mem_of_getElem? hd')
  · have hp := pw_get.1 h.dist
    rcases set_get hc hx with ⟨ha, e⟩ | ⟨ha, e⟩ <;> rcases set_get hc hy' with ⟨hb, e'⟩ | ⟨hb, e'⟩
    · omega
    · subst ha; subst e; show kyB s'.k _ = false; rw [hk]; exact hp _ _ _ _ hab hc e'
    · subst hb; subst e'; show kyB _ s'.k = false; rw [hk]; exact hp _ _ _ _ hab e hc
    · exact hp _ _ _ _ hab e e'
  · have hp := pw_get.1 h.sep
    rcases set_get hc hx with ⟨ha, e⟩ | ⟨ha, e⟩ <;> rcases set_get hc hy' with ⟨hb, e'⟩ | ⟨hb, e'⟩
    · omega
    · subst e
      rcases hf z hz with h1 | h1
      · exact hsep b y hb e' z hz' h1
      · have := l3 y (List.mem_of_getElem? e') z hz'; omega
    · subst e'
      rcases hf z hz' with h1 | h1
      · exact hsep a x ha e z hz h1
      · have := l3 x (List.mem_of_getElem? e) z hz; omega
    · exact hp _ _ _ _ hab e e' z hz hz'
  · rcases hmem d hd with rfl | ⟨j, hj, hd'⟩
    · rcases hf gt hz with h1 | h1
      · exact h.og c hcm h1
      · omega
    · exact h.og d (List.mem_of_getElem? hd') hz
  · rcases hmem d hd with rfl | ⟨j, hj, hd'⟩
    · rcases hf mb hz with h1 | h1
      · exact h.om c hcm h1
      · omega
    · exact h.om d (List.mem_of_getElem? hd') hz
  · rcases hmem d hd with rfl | ⟨j, hj, hd'⟩
    · rcases hf k hz with h1 | h1
      · exact h.oo c hcm k hkk h1
      · have := h.ord.lt k hkk; omega
    · exact h.oo d (List.mem_of_getElem? hd') k hkk hz
end
theorem lst_one {w : World} {g : Nat} {p : Pk} {ov dv : Value} (hb : BoxP w g p ov dv) (ha : Ad p) : LstP w (.slice (some ⟨g, 0, none⟩) 1 1) [⟨p, ov, dv⟩] := by
  refine ⟨by simp [X.cells, listP_len ha], .inr ⟨g, 1, csP p ov dv, rfl, Nat.zero_le _, hb, Nat.le_refl _, by unfold maxLen; omega, by rw [csP_size ha], ?_⟩⟩
  have := listP_len ha ov dv
  simp [csP, X.cells, List.take_of_length_le, this]
theorem Cuts.one {w : World} {B g : Nat} {p : Pk} {ov dv : Value} (hb : BoxP w g p ov dv) (hw : Wf p) (hm : Mine w B p ov dv) (hg : B ≤ g) (hne : ∀ k, ov.ownBlock = some k ∨ dv.ownBlock = some k → k ≠ g) : Cuts w B (.slice (some ⟨g, 0, none⟩) 1 1) [⟨p, ov, dv⟩] := by
  refine ⟨lst_one hb hw.ad, fun k hk => by simp [Value.ownBlock] at hk; omega, fun x hx => ?_, fun x hx k hk e => ?_, by simp⟩
  · simp at hx; subst hx; exact ⟨hw, hm⟩
  · simp at hx; subst hx; simp [Value.ownBlock] at e; exact hne k hk e.symm
theorem csTo_at (n : Int) (wv lv gv u : Value) : (csTo n wv lv gv).setIfInBounds 0 u = #[u, wv, lv, gv] ∧ (csTo n wv lv gv).setIfInBounds 1 u = csTo n u lv gv ∧ (csTo n wv lv gv).setIfInBounds 3 u = csTo n wv lv u := ⟨rfl, rfl, rfl⟩
theorem BoxT.says {w : World} {g : Nat} {n : Int} {wv lv gv : Value} (h : BoxT w g n wv lv gv) (m : Int) : BoxT (w.setCell ⟨g, 0, none⟩ (.int .i64 m)) g m wv lv gv := by
  have h1 := block_set h 0 (.int .i64 m)
  rw [(csTo_at _ _ _ _ _).1] at h1
  exact h1
theorem BoxT.whole {w : World} {g : Nat} {n : Int} {wv lv gv : Value} (h : BoxT w g n wv lv gv) (u : Value) : BoxT (w.setCell ⟨g, 1, none⟩ u) g n u lv gv := by
  have h1 := block_set h 1 u
  rw [(csTo_at _ _ _ _ _).2.1] at h1
  exact h1
theorem BoxT.gone {w : World} {g : Nat} {n : Int} {wv lv gv : Value} (h : BoxT w g n wv lv gv) (u : Value) : BoxT (w.setCell ⟨g, 3, none⟩ u) g n wv lv u := by
  have h1 := block_set h 3 u
  rw [(csTo_at _ _ _ _ _).2.2] at h1
  exact h1
theorem whole_wf {w : World} {g : Nat} {s : Es} {fp : List Nat} (h : Ey w g s fp) : Wf (wholeP s).1 := by
  cases hb : s.bad with
  | true => unfold wholeP; rw [if_pos (.inl hb)]; exact zero_wf
  | false =>
    obtain ⟨T, hT⟩ := h.iv hb
    have h1 := hT.fw
    have h2 := hT.db.take s.e.toNat
    have h3 := hT.dl
    unfold wholeP
    split
    · exact zero_wf
    · exact ⟨h1.v, h1.tos, h1.flow, h1.sv, h1.sl, h1.sb, h1.dv, h1.dl, h1.db, h1.proto, h1.ttl, by show 0 ≤ (if s.f.v = 6 then 0 else s.f.id); split <;> first | omega | exact h1.id0, by show (if s.f.v = 6 then 0 else s.f.id) ≤ _; split <;> first | omega | exact h1.id1, h1.off, h1.o, h1.ol, h2, by show (s.d.take s.e.toNat).length ≤ _; rw [List.length_take]; omega⟩
structure Tk where
  n : Int
  wh : List Pk
  gone : List Pk
  cs : List Cel
def takeC (q : Qo) (cs : List Cel) (i : Nat) (c : Cel) (p : Pk) (fp1 fp2 : List Nat) : Tk :=
  if (putS c.s p).1 = 6 then ⟨6, [(wholeP (putS c.s p).2).1], [], (cs.set i ⟨(putS c.s p).2, c.g, fp1⟩).eraseIdx i⟩
  else if q.h < holesN (putS c.s p).2 then
    ⟨4, [], ((cs.set i ⟨poisS (putS c.s p).2, c.g, fp2⟩).take (pushN q (cs.set i ⟨poisS (putS c.s p).2, c.g, fp2⟩))).map (·.s.k), (cs.set i ⟨poisS (putS c.s p).2, c.g, fp2⟩).drop (pushN q (cs.set i ⟨poisS (putS c.s p).2, c.g, fp2⟩))⟩
  else ⟨(putS c.s p).1, [], ((cs.set i ⟨(putS c.s p).2, c.g, fp1⟩).take (pushN q (cs.set i ⟨(putS c.s p).2, c.g, fp1⟩))).map (·.s.k), (cs.set i ⟨(putS c.s p).2, c.g, fp1⟩).drop (pushN q (cs.set i ⟨(putS c.s p).2, c.g, fp1⟩))⟩
structure TakeIn (w : World) (gt mb : Nat) (ov : Value) (q : Qo) (now : Int) (cs : List Cel) (p : Pk) (po pd : Value) (gT : Nat) (lv : Value) : Prop where
  tab : Tab w gt mb ov q now cs
  glob : Glob w
  pkt : Pkt w p po pd
  box : BoxT w gT 0 nilV lv nilV
  far : gT ∉ fpT gt mb ov cs
  outs : Outs p po pd (gT :: fpT gt mb ov cs)
  pos : 0 ∉ fpT gt mb ov cs
def TakeOut (w : World) (gt mb : Nat) (ov : Value) (q : Qo) (now : Int) (cs : List Cel) (i : Nat) (c : Cel) (p : Pk) (gT : Nat) (lv : Value) (E : Ending) (w' : World) : Prop :=
  E = .returned (.tuple #[]) ∧ ∃ fp1 fp2 wv gv ov' xs, ((∀ z ∈ fp1, z ∈ c.fp ∨ w.heap.size ≤ z) ∧ ∀ z ∈ fp2, z ∈ c.fp ∨ w.heap.size ≤ z) ∧ BoxT w' gT (takeC q cs i c p fp1 fp2).n wv lv gv ∧ Cuts w' w.heap.size wv xs ∧ xs.map X.p = (takeC q cs i c p fp1 fp2).wh ∧ K.LstK w' gv (takeC q cs i c p fp1 fp2).gone ∧ New w.heap.size gv ∧
    Tab w' gt mb ov' q now (takeC q cs i c p fp1 fp2).cs ∧ ov'.ownBlock = ov.ownBlock ∧ Away (gT :: fpT gt mb ov cs) w w'
section
variable {w w' : World} {gt mb : Nat} {ov : Value} {q : Qo} {now : Int} {cs : List Cel}
set_option maxHeartbeats 16000000 in
theorem take_old {i : Nat} {c : Cel} {p : Pk} {po pd lv : Value} {gT : Nat} (h : TakeIn w gt mb ov q now cs p po pd gT lv) (hc : cs[i]? = some c) (hky : kyB p c.s.k = true) (hq : 0 ≤ q.e ∧ 0 ≤ q.b) :
    Calls Tryz.prog 34 #[.pointer (some ⟨gt, 0, none⟩), .agg (csP p po pd), .pointer (some ⟨gT, 0, none⟩)] w (TakeOut w gt mb ov q now cs i c p gT lv) := by
  have HI := Lib.hid h
  have HC := Lib.hid hc
  have HAD := Lib.hid h.pkt.wf.ad
  have HKY := Lib.hid hky
  have HQ := Lib.hid hq
  have hsz := h.box
  have HGT : Hid (gT < w.heap.size) := lt_of_block h.box
  clear h hc hky hq hsz
  go_enter Tryz.func34, Tryz.ntmps34
  go_wp2_with (refine wpList_box28 rfl _ rfl p _ _ rfl ?_; refine Hid.out ?_)
  refine Lib.hid ?_
  intro g4 w1 hg4 hb4 haw1
  have HB4 := Lib.hid hb4
  have HG4 := Lib.hid hg4
  have HA := Lib.hid haw1
  clear hb4 haw1 hg4
  have K39 := Lib.hid (tkey_c p po pd w1 HAD.out)
  go_wp2_with (refine wpList_load28 rfl _ rfl _ rfl p _ _ (by exact HB4.out) HAD.out ?_)
  refine K39.out.mono ?_
  rintro E w2 ⟨rfl, haw2⟩
  replace HB4 := Lib.hid (HB4.out.on haw2)
  replace HA := Lib.hid (HA.out.trans haw2)
  clear haw2 K39
  have K38 := Lib.hid (entryOf_old (HI.out.tab.on HA.out) HC.out p HI.out.pkt.wf HKY.out)
  go_wp2_with fail
  refine K38.out.mono ?_
  rintro E w3 ⟨rfl, haw3⟩
  replace HB4 := Lib.hid (HB4.out.on haw3)
  replace HA := Lib.hid (HA.out.trans haw3)
  clear haw3 K38
  have HCM := Lib.hid (List.mem_of_getElem? HC.out)
  have HFS : Hid (∀ z ∈ c.fp, z ∈ fpT gt mb ov cs) := fun z hz => mem_fpT.2 (.inr (.inr (.inr ⟨c, HCM.out, hz⟩)))
  have K40 := Lib.hid (eput_c ((HI.out.tab.on HA.out).ent c HCM.out) p po pd (HI.out.pkt.on HA.out) (HI.out.glob.on HA.out) (HI.out.outs.mono (fun z hz => by simp [HFS.out z hz])) (fun hm => HI.out.pos (HFS.out 0 hm)))
  go_wp2_with (refine wpList_load28 rfl _ rfl _ rfl p _ _ (by exact HB4.out) HAD.out ?_)
  refine K40.out.mono ?_
  rintro E w4 ⟨rfl, fp1, hy1, hf1, haw4⟩
  have HT4 := Lib.hid ((HI.out.tab.on HA.out).upd HC.out haw4 hy1 (put_kt c.s p).1 hf1)
  have HBX : Hid (BoxT w4 gT 0 nilV lv nilV) := haw4.keep (fun hm => HI.out.far (HFS.out gT hm)) (HA.out.keep (by simp) HI.out.box)
  have HS3 : Hid (w.heap.size ≤ w3.heap.size) := HA.out.size
  have HF1 := Lib.hid hf1
  have HG4L : Hid (g4 ∉ c.fp) := fun hm => by have h1 := HI.out.tab.lt g4 (HFS.out g4 hm); have h2 := HG4.out; omega
  replace HA : Hid (Away (gT :: fpT gt mb ov cs) w w4) := (HA.out.mono (by simp)).trans (haw4.mono (fun z hz => by simp [HFS.out z hz]))
  have HFN : Hid (∀ z ∈ fp1, z ∈ c.fp ∨ w.heap.size ≤ z) := fun z hz => (HF1.out z hz).imp id (fun h1 => Nat.le_trans HS3.out h1)
  have HGC : Hid (∀ z ∈ [c.g], z ∈ c.fp ∨ w.heap.size ≤ z) := fun z hz => .inl (by simp at hz; rw [hz]; exact (HI.out.tab.ent c HCM.out).ent.mem)
  clear hy1 hf1 haw4 K40 HB4
  have c0 : w4.cell? ⟨gT, 0, none⟩ = some (.int .i64 0) := cell_of_block HBX.out 0
  have f0 : w4.frozen? ⟨gT, 0, none⟩ = false := free_of_block HBX.out 0
  obtain ⟨pn, hpn⟩ : ∃ z, z = (putS c.s p).1 := ⟨_, rfl⟩
  obtain ⟨ps, hps⟩ : ∃ z, z = (putS c.s p).2 := ⟨_, rfl⟩
  rw [← hpn]
  rw [← hps] at HT4
  have HPN := Lib.hid hpn
  have HPS := Lib.hid hps
  clear hpn hps
  have HNF1 : Hid (gT ∉ fpT gt mb ov (cs.set i ⟨ps, c.g, fp1⟩)) := fun hz => by
    have h1 := HGT.out
    have h2 := HS3.out
    rcases mem_fpT.1 hz with e | e | hz | ⟨d, hd, hz⟩
    · exact HI.out.far (mem_fpT.2 (.inl e))
    · exact HI.out.far (mem_fpT.2 (.inr (.inl e)))
    · exact HI.out.far (mem_fpT.2 (.inr (.inr (.inl hz))))
    · obtain ⟨j, hj⟩ := List.mem_iff_getElem?.1 hd
      rcases set_get HC.out hj with ⟨-, e⟩ | ⟨-, e⟩
      · subst e
        rcases HF1.out gT hz with h3 | h3
        · exact HI.out.far (HFS.out gT h3)
        · omega
      · exact HI.out.far (mem_fpT.2 (.inr (.inr (.inr ⟨d, List.mem_of_getElem? e, hz⟩))))
  go_upto_region 3 with fail
  have HA5 := away_one' w4 gT 0 (.int .i64 pn)
  have HB5 := HBX.out.says pn
  have HT5 := HT4.out.away HA5 (fun z hz hm => by simp at hm; subst hm; exact HNF1.out hz)
  obtain ⟨w5, hw5⟩ : ∃ z, z = w4.setCell ⟨gT, 0, none⟩ (.int .i64 pn) := ⟨_, rfl⟩
  rw [← hw5] at HA5 HB5 HT5 ⊢
  replace HA : Hid (Away (gT :: fpT gt mb ov cs) w w5) := HA.out.trans (HA5.mono (by simp))
  replace HBX := Lib.hid HB5
  replace HT4 := Lib.hid HT5
  clear HA5 HB5 HT5 hw5 c0 f0
  have c0 : w5.cell? ⟨gT, 0, none⟩ = some (.int .i64 pn) := cell_of_block HBX.out 0
  have HSG : Hid ((cs.set i ⟨ps, c.g, fp1⟩)[i]? = some ⟨ps, c.g, fp1⟩) := by show _ = _; rw [List.getElem?_set_self (lt_of_get HC.out)]
  have HSM := Lib.hid (List.mem_of_getElem? HSG.out)
  have HEY : Hid (Ey w5 c.g ps fp1) := HT4.out.ent _ HSM.out
  have HKW : Hid (Wf ps.k) := HT4.out.kwf _ HSM.out
  by_cases h6 : pn = 6
  · subst h6
    have K41 := Lib.hid (ewhole_c HEY.out)
    go_wp2_with fail
    refine K41.out.mono ?_
    rintro E w6 ⟨fo, fd, rfl, hm1, haw6⟩
    have HFW : Hid (Wf (wholeP ps).1) := whole_wf HEY.out
    have HM1 := Lib.hid hm1
    have HO1 := Lib.hid hm1.o.one
    have HD1 := Lib.hid hm1.d.one
    replace HT4 := Lib.hid (HT4.out.on haw6)
    replace HBX : Hid (BoxT w6 gT 6 nilV lv nilV) := haw6.keep (by simp) HBX.out
    have HS5 : Hid (w.heap.size ≤ w5.heap.size) := HA.out.size
    replace HA := Lib.hid (HA.out.trans (haw6.mono (by simp)))
    clear hm1 haw6 K41 c0
    obtain ⟨fq, hfq⟩ : ∃ z, z = (wholeP ps).1 := ⟨_, rfl⟩
    obtain ⟨fb, hfb⟩ : ∃ z, z = (wholeP ps).2 := ⟨_, rfl⟩
    rw [← hfq] at HFW HM1 ⊢
    rw [← hfb]
    have HFQ := Lib.hid hfq
    clear hfq hfb
    go_wp2_with (refine wpList_new28 rfl rfl rfl _ _ rfl fq fo fd (fun g => rfl) (fun g => rfl) HFW.out.ad HO1.out HD1.out ?_; refine Hid.out ?_)
    refine Lib.hid ?_
    intro g7 w7 hg7 hb7 haw7
    have HB7 := Lib.hid hb7
    replace HT4 := Lib.hid (HT4.out.on haw7)
    replace HBX : Hid (BoxT w7 gT 6 nilV lv nilV) := haw7.keep (by simp) HBX.out
    replace HM1 := Lib.hid (HM1.out.on haw7)
    replace HA := Lib.hid (HA.out.trans (haw7.mono (by simp)))
    clear hb7 haw7 hg7
    go_wp2_with (first | (refine wpList_load28 rfl _ rfl _ rfl fq _ _ (by exact HB7.out) HFW.out.ad ?_) | (refine wpList_build28 rfl _ rfl fq fo fd rfl HFW.out.ad ?_; refine Hid.out ?_))
    refine Lib.hid ?_
    intro gq w8 hgq hbq haw8
    have HLM : Hid (∀ k, fo.ownBlock = some k ∨ fd.ownBlock = some k → k < w7.heap.size) := fun k hk => (HM1.out.lto k hk).1
    replace HT4 := Lib.hid (HT4.out.on haw8)
    replace HBX : Hid (BoxT w8 gT 6 nilV lv nilV) := haw8.keep (by simp) HBX.out
    replace HM1 := Lib.hid (HM1.out.on haw8)
    have HS7 : Hid (w.heap.size ≤ w7.heap.size) := HA.out.size
    have HGQ : Hid (w7.heap.size ≤ gq) := hgq
    replace HA := Lib.hid (HA.out.trans (haw8.mono (by simp)))
    have HCU : Hid (Cuts w8 w.heap.size (.slice (some ⟨gq, 0, none⟩) 1 1) [⟨fq, fo, fd⟩]) := Cuts.one hbq HFW.out (HM1.out.mono HS5.out) (Nat.le_trans HS7.out hgq) (fun k hk e => by have h1 := HLM.out k hk; omega)
    clear hbq haw8 hgq HB7
    have c1 : w8.cell? ⟨gT, 1, none⟩ = some (.slice none 0 0) := cell_of_block HBX.out 1
    have f1 : w8.frozen? ⟨gT, 1, none⟩ = false := free_of_block HBX.out 1
    go_upto_region 6 with fail
    have HA9 := away_one' w8 gT 1 (.slice (some ⟨gq, 0, none⟩) 1 1)
    have HB9 := HBX.out.whole (.slice (some ⟨gq, 0, none⟩) 1 1)
    have HT9 := HT4.out.away HA9 (fun z hz hm => by simp at hm; subst hm; exact HNF1.out hz)
    have HC9 := HCU.out.away HA9 (fun z hz => by simp at hz; rw [hz]; exact HGT.out)
    obtain ⟨w9, hw9⟩ : ∃ z, z = w8.setCell ⟨gT, 1, none⟩ (.slice (some ⟨gq, 0, none⟩) 1 1) := ⟨_, rfl⟩
    rw [← hw9] at HA9 HB9 HT9 HC9 ⊢
    replace HA : Hid (Away (gT :: fpT gt mb ov cs) w w9) := HA.out.trans (HA9.mono (by simp))
    replace HBX := Lib.hid HB9
    replace HT4 := Lib.hid HT9
    replace HCU := Lib.hid HC9
    clear HA9 HB9 HT9 HC9 hw9 c1 f1
    have K43 := Lib.hid (ekey_c (HT4.out.ent _ HSM.out).ent)
    go_wp2_with fail
    refine K43.out.mono ?_
    rintro E w10 ⟨rfl, haw10⟩
    replace HT4 := Lib.hid (HT4.out.on haw10)
    replace HCU := Lib.hid (HCU.out.on haw10)
    replace HBX : Hid (BoxT w10 gT 6 (.slice (some ⟨gq, 0, none⟩) 1 1) lv nilV) := haw10.keep (by simp) HBX.out
    replace HA := Lib.hid (HA.out.trans (haw10.mono (by simp)))
    clear haw10 K43
    have K42 := Lib.hid (drop_c HT4.out HSG.out ps.k HKW.out (ky_self _))
    go_wp2_with fail
    refine K42.out.mono ?_
    rintro E w11 ⟨rfl, ov9, htab9, hob9, haw9⟩
    have HTC : Hid (takeC q cs i c p fp1 fp1 = ⟨6, [fq], [], (cs.set i ⟨ps, c.g, fp1⟩).eraseIdx i⟩) := by
      show _ = _
      unfold takeC
      rw [if_pos HPN.out.symm, ← HPS.out, ← HFQ.out]
    have HT11 := Lib.hid htab9
    have HOB := Lib.hid hob9
    have HSM' : Hid (∀ z ∈ gt :: mb :: ov.ownBlock.toList, z ∈ fpT gt mb ov cs) := fun z hz => by
      simp only [List.mem_cons, Option.mem_toList] at hz
      exact mem_fpT.2 (hz.imp id (Or.imp id Or.inl))
    have HBF : Hid (BoxT w11 gT 6 (.slice (some ⟨gq, 0, none⟩) 1 1) lv nilV) := haw9.keep (fun hm => HI.out.far (HSM'.out gT hm)) HBX.out
    have HCF := Lib.hid (HCU.out.away haw9 (fun z hz => HI.out.tab.lt z (HSM'.out z hz)))
    have HAF : Hid (Away (gT :: fpT gt mb ov cs) w w11) := HA.out.trans (haw9.mono (fun z hz => by simp only [List.mem_cons]; exact .inr (HSM'.out z hz)))
    clear htab9 hob9 haw9 K42
    go_wp2_with fail
    go_end0
    refine ⟨rfl, fp1, fp1, .slice (some ⟨gq, 0, none⟩) 1 1, nilV, ov9, [⟨fq, fo, fd⟩], ?_⟩
    rw [HTC.out]
    exact ⟨⟨HFN.out, HFN.out⟩, HBF.out, HCF.out, rfl, K.LstK.nil _, New.nil _, HT11.out, HOB.out, HAF.out⟩
  · have h6b : (pn == 6) = false := by simpa using h6
    obtain ⟨hn, hhn⟩ : ∃ z, z = holesN ps := ⟨_, rfl⟩
    obtain ⟨qh, hqh⟩ : ∃ z, z = q.h := ⟨_, rfl⟩
    have HHN := Lib.hid hhn
    have HQH := Lib.hid hqh
    have C2 : Hid (w5.cell? ⟨gt, 2, none⟩ = some (.int .i64 qh)) := by rw [hqh]; exact HT4.out.cell 2
    have Q27 : Hid (∀ W, Away [] w5 W → Calls Tryz.prog 38 #[.pointer (some ⟨c.g, 0, none⟩)] W fun E w' => E = .returned (.int .i64 hn) ∧ Away [] w5 w') := fun W hW => by
      rw [hhn]
      exact (eholes_c (HEY.out.on hW).ent).mono (fun E w' h => ⟨h.1, hW.trans h.2⟩)
    clear hhn hqh
    have HC0 : Hid (Away [] w5 w5.drew) := (Away.refl _ _).drew
    by_cases hh : qh < hn
    · have hhb : decide (qh < hn) = true := by simpa using hh
      go_wp2_with fail
      refine wp_region_cls (C := fun w' => Away [] w5 w') (by kernel_rfl) (by kernel_rfl) HC0.out ?_
      go_big_quiet_want; (refine quiet_val ?_ ?_ ?_; rotate_left; (intro w; go_simp; rfl); go_simp; go_big_quiet_on)
      go_big_quiet_want; refine quiet_call 38 #[.pointer (some ⟨c.g, 0, none⟩)] (.int .i64 hn) ?_ Q27.out ?_
      · intro w; go_simp; all_goals (with_reducible rfl)
      go_simp; go_big_quiet_on
      iterate 4 (go_big_quiet_want; (refine quiet_val ?_ ?_ ?_; rotate_left; (intro w; go_simp; rfl); go_simp; go_big_quiet_on))
      go_big_quiet_want; refine quiet_ld _ rfl (ad := ⟨gt, 2, none⟩) rfl (fun w' h => ld3 (h.cell (by simp) C2.out)) ?_; go_simp; go_big_quiet_on
      go_big_quiet_want; (refine quiet_val ?_ ?_ ?_; rotate_left; (intro w; go_simp; rfl); go_simp; go_big_quiet_on)
      refine wpQuiet_nil ?_
      intro V hV
      replace HT4 := Lib.hid (HT4.out.on hV)
      replace HBX : Hid (BoxT V gT pn nilV lv nilV) := hV.keep (by simp) HBX.out
      replace HEY := Lib.hid (HEY.out.on hV)
      replace HA := Lib.hid (HA.out.trans (hV.mono (by simp)))
      clear hV Q27 C2 HC0 c0
      obtain ⟨lp, xv, yv, mp, hb, hka, hfa⟩ := HEY.out.ent.blk
      have K44 := Lib.hid (poison_c ps lp xv yv mp hb hka hfa)
      clear hb hka hfa
      go_wp2_with fail
      refine K44.out.mono ?_
      rintro E w7 ⟨rfl, hb7, haw7⟩
      have HGM : Hid (c.g ∈ fp1) := HEY.out.ent.mem
      have HT7 : Hid (Tab w7 gt mb ov q now (cs.set i ⟨poisS ps, c.g, [c.g]⟩)) := by
        have h1 := HT4.out.upd HSG.out (haw7.mono (fun z hz => by simp at hz; rw [hz]; exact HGM.out)) (ey_pois hb7) rfl (fun z hz => by simp at hz; rw [hz]; exact .inl HGM.out)
        rw [List.set_set] at h1
        exact h1
      have HNF2 : Hid (gT ∉ fpT gt mb ov (cs.set i ⟨poisS ps, c.g, [c.g]⟩)) := fun hz => by
        rcases mem_fpT.1 hz with e | e | hz | ⟨d, hd, hz⟩
        · exact HI.out.far (mem_fpT.2 (.inl e))
        · exact HI.out.far (mem_fpT.2 (.inr (.inl e)))
        · exact HI.out.far (mem_fpT.2 (.inr (.inr (.inl hz))))
        · obtain ⟨j, hj⟩ := List.mem_iff_getElem?.1 hd
          rcases set_get HC.out hj with ⟨-, e⟩ | ⟨-, e⟩
          · subst e
            simp at hz
            exact HNF1.out (mem_fpT.2 (.inr (.inr (.inr ⟨_, HSM.out, by rw [hz]; exact HGM.out⟩))))
          · exact HI.out.far (mem_fpT.2 (.inr (.inr (.inr ⟨d, List.mem_of_getElem? e, hz⟩))))
      have HFG : Hid (c.g ∈ fpT gt mb ov cs) := HFS.out c.g (HI.out.tab.ent c HCM.out).ent.mem
      replace HBX : Hid (BoxT w7 gT pn nilV lv nilV) := haw7.keep (fun hm => by simp at hm; exact HI.out.far (by rw [hm]; exact HFG.out)) HBX.out
      replace HA : Hid (Away (gT :: fpT gt mb ov cs) w w7) := HA.out.trans (haw7.mono (fun z hz => by simp at hz; rw [hz]; simp [HFG.out]))
      clear hb7 haw7 K44 HT4 HEY
      have c0 : w7.cell? ⟨gT, 0, none⟩ = some (.int .i64 pn) := cell_of_block HBX.out 0
      have f0 : w7.frozen? ⟨gT, 0, none⟩ = false := free_of_block HBX.out 0
      go_upto_region 10 with fail
      have HA8 := away_one' w7 gT 0 (.int .i64 4)
      have HB8 := HBX.out.says 4
      have HT8 := HT7.out.away HA8 (fun z hz hm => by simp at hm; subst hm; exact HNF2.out hz)
      obtain ⟨w8, hw8⟩ : ∃ z, z = w7.setCell ⟨gT, 0, none⟩ (.int .i64 4) := ⟨_, rfl⟩
      rw [← hw8] at HA8 HB8 HT8 ⊢
      replace HA : Hid (Away (gT :: fpT gt mb ov cs) w w8) := HA.out.trans (HA8.mono (by simp))
      replace HBX := Lib.hid HB8
      replace HT7 := Lib.hid HT8
      clear HA8 HB8 HT8 hw8 c0 f0
      have K45 := Lib.hid (push_c HT7.out HQ.out)
      go_wp2_with fail
      refine K45.out.mono ?_
      rintro E w11 ⟨gv, ov9, rfl, hl9, hn9, htab9, hob9, haw9⟩
      obtain ⟨ga, gn, gc, hgv⟩ : ∃ ga gn gc, gv = .slice ga gn gc := by
        rcases hl9.shp with ⟨h1, -⟩ | ⟨g', c', h1⟩
        · exact ⟨_, _, _, h1⟩
        · exact ⟨_, _, _, h1⟩
      subst hgv
      have HL9 := Lib.hid hl9
      have HSW : Hid (w.heap.size ≤ w8.heap.size) := HA.out.size
      have HN9 : Hid (New w.heap.size (.slice ga gn gc)) := hn9.mono HSW.out
      have HT11 := Lib.hid htab9
      have HOB := Lib.hid hob9
      have HSM' : Hid (∀ z ∈ gt :: mb :: ov.ownBlock.toList, z ∈ fpT gt mb ov cs) := fun z hz => by
        simp only [List.mem_cons, Option.mem_toList] at hz
        exact mem_fpT.2 (hz.imp id (Or.imp id Or.inl))
      have HBF : Hid (BoxT w11 gT 4 nilV lv nilV) := haw9.keep (fun hm => HI.out.far (HSM'.out gT hm)) HBX.out
      have HAF : Hid (Away (gT :: fpT gt mb ov cs) w w11) := HA.out.trans (haw9.mono (fun z hz => by simp only [List.mem_cons]; exact .inr (HSM'.out z hz)))
      have HNFD : Hid (gT ∉ fpT gt mb ov9 ((cs.set i ⟨poisS ps, c.g, [c.g]⟩).drop (pushN q (cs.set i ⟨poisS ps, c.g, [c.g]⟩)))) := fun hz => by
        rcases mem_fpT.1 hz with e | e | hz | ⟨d, hd, hz⟩
        · exact HNF2.out (mem_fpT.2 (.inl e))
        · exact HNF2.out (mem_fpT.2 (.inr (.inl e)))
        · exact HNF2.out (mem_fpT.2 (.inr (.inr (.inl (by rw [← HOB.out]; exact hz)))))
        · exact HNF2.out (mem_fpT.2 (.inr (.inr (.inr ⟨d, List.mem_of_mem_drop hd, hz⟩))))
      clear hl9 hn9 htab9 hob9 haw9 K45
      have c3 : w11.cell? ⟨gT, 3, none⟩ = some (.slice none 0 0) := cell_of_block HBF.out 3
      have f3 : w11.frozen? ⟨gT, 3, none⟩ = false := free_of_block HBF.out 3
      have HTC : Hid (takeC q cs i c p fp1 [c.g] = ⟨4, [], ((cs.set i ⟨poisS ps, c.g, [c.g]⟩).take (pushN q (cs.set i ⟨poisS ps, c.g, [c.g]⟩))).map (·.s.k), (cs.set i ⟨poisS ps, c.g, [c.g]⟩).drop (pushN q (cs.set i ⟨poisS ps, c.g, [c.g]⟩))⟩) := by
        show _ = _
        unfold takeC
        rw [if_neg (by rw [← HPN.out]; exact h6), ← HPS.out, if_pos (by rw [← HQH.out, ← HHN.out]; exact hh)]
      go_wp2_with fail
      go_end0
      have HA12 := away_one' w11 gT 3 (.slice ga gn gc)
      refine ⟨rfl, fp1, [c.g], nilV, .slice ga gn gc, ov9, [], ?_⟩
      rw [HTC.out]
      refine ⟨⟨HFN.out, HGC.out⟩, HBF.out.gone _, Cuts.nil _ _, rfl, HL9.out.away HA12 (fun z hz hm => ?_), HN9.out, HT11.out.away HA12 (fun z hz hm => by simp at hm; subst hm; exact HNFD.out hz), HOB.out, HAF.out.trans (HA12.mono (by simp))⟩
      simp at hm; subst hm
      have h1 := HN9.out _ hz
      have h2 := HGT.out
      omega
    · have hhb : decide (qh < hn) = false := by simpa using hh
      go_wp2_with fail
      refine wp_region_cls (C := fun w' => Away [] w5 w') (by kernel_rfl) (by kernel_rfl) HC0.out ?_
      go_big_quiet_want; (refine quiet_val ?_ ?_ ?_; rotate_left; (intro w; go_simp; rfl); go_simp; go_big_quiet_on)
      go_big_quiet_want; refine quiet_call 38 #[.pointer (some ⟨c.g, 0, none⟩)] (.int .i64 hn) ?_ Q27.out ?_
      · intro w; go_simp; all_goals (with_reducible rfl)
      go_simp; go_big_quiet_on
      iterate 4 (go_big_quiet_want; (refine quiet_val ?_ ?_ ?_; rotate_left; (intro w; go_simp; rfl); go_simp; go_big_quiet_on))
      go_big_quiet_want; refine quiet_ld _ rfl (ad := ⟨gt, 2, none⟩) rfl (fun w' h => ld3 (h.cell (by simp) C2.out)) ?_; go_simp; go_big_quiet_on
      go_big_quiet_want; (refine quiet_val ?_ ?_ ?_; rotate_left; (intro w; go_simp; rfl); go_simp; go_big_quiet_on)
      refine wpQuiet_nil ?_
      intro V hV
      replace HT4 := Lib.hid (HT4.out.on hV)
      replace HBX : Hid (BoxT V gT pn nilV lv nilV) := hV.keep (by simp) HBX.out
      replace HA := Lib.hid (HA.out.trans (hV.mono (by simp)))
      clear hV Q27 C2 HC0 c0 HEY
      have K45 := Lib.hid (push_c HT4.out HQ.out)
      go_wp2_with fail
      refine K45.out.mono ?_
      rintro E w11 ⟨gv, ov9, rfl, hl9, hn9, htab9, hob9, haw9⟩
      obtain ⟨ga, gn, gc, hgv⟩ : ∃ ga gn gc, gv = .slice ga gn gc := by
        rcases hl9.shp with ⟨h1, -⟩ | ⟨g', c', h1⟩
        · exact ⟨_, _, _, h1⟩
        · exact ⟨_, _, _, h1⟩
      subst hgv
      have HL9 := Lib.hid hl9
      have HSW : Hid (w.heap.size ≤ V.heap.size) := HA.out.size
      have HN9 : Hid (New w.heap.size (.slice ga gn gc)) := hn9.mono HSW.out
      have HT11 := Lib.hid htab9
      have HOB := Lib.hid hob9
      have HSM' : Hid (∀ z ∈ gt :: mb :: ov.ownBlock.toList, z ∈ fpT gt mb ov cs) := fun z hz => by
        simp only [List.mem_cons, Option.mem_toList] at hz
        exact mem_fpT.2 (hz.imp id (Or.imp id Or.inl))
      have HBF : Hid (BoxT w11 gT pn nilV lv nilV) := haw9.keep (fun hm => HI.out.far (HSM'.out gT hm)) HBX.out
      have HAF : Hid (Away (gT :: fpT gt mb ov cs) w w11) := HA.out.trans (haw9.mono (fun z hz => by simp only [List.mem_cons]; exact .inr (HSM'.out z hz)))
      have HNFD : Hid (gT ∉ fpT gt mb ov9 ((cs.set i ⟨ps, c.g, fp1⟩).drop (pushN q (cs.set i ⟨ps, c.g, fp1⟩)))) := fun hz => by
        rcases mem_fpT.1 hz with e | e | hz | ⟨d, hd, hz⟩
        · exact HNF1.out (mem_fpT.2 (.inl e))
        · exact HNF1.out (mem_fpT.2 (.inr (.inl e)))
        · exact HNF1.out (mem_fpT.2 (.inr (.inr (.inl (by rw [← HOB.out]; exact hz)))))
        · exact HNF1.out (mem_fpT.2 (.inr (.inr (.inr ⟨d, List.mem_of_mem_drop hd, hz⟩))))
      clear hl9 hn9 htab9 hob9 haw9 K45
      have c3 : w11.cell? ⟨gT, 3, none⟩ = some (.slice none 0 0) := cell_of_block HBF.out 3
      have f3 : w11.frozen? ⟨gT, 3, none⟩ = false := free_of_block HBF.out 3
      have HTC : Hid (takeC q cs i c p fp1 [c.g] = ⟨pn, [], ((cs.set i ⟨ps, c.g, fp1⟩).take (pushN q (cs.set i ⟨ps, c.g, fp1⟩))).map (·.s.k), (cs.set i ⟨ps, c.g, fp1⟩).drop (pushN q (cs.set i ⟨ps, c.g, fp1⟩))⟩) := by
        show _ = _
        unfold takeC
        rw [if_neg (by rw [← HPN.out]; exact h6), ← HPS.out, if_neg (by rw [← HQH.out, ← HHN.out]; omega), ← HPN.out]
      go_wp2_with fail
      go_end0
      have HA12 := away_one' w11 gT 3 (.slice ga gn gc)
      refine ⟨rfl, fp1, [c.g], nilV, .slice ga gn gc, ov9, [], ?_⟩
      rw [HTC.out]
      refine ⟨⟨HFN.out, HGC.out⟩, HBF.out.gone _, Cuts.nil _ _, rfl, HL9.out.away HA12 (fun z hz hm => ?_), HN9.out, HT11.out.away HA12 (fun z hz hm => by simp at hm; subst hm; exact HNFD.out hz), HOB.out, HAF.out.trans (HA12.mono (by simp))⟩
      simp at hm; subst hm
      have h1 := HN9.out _ hz
      have h2 := HGT.out
      omega
end
section
variable {w w' : World} {gt mb : Nat} {ov : Value} {q : Qo} {now : Int} {cs : List Cel}
set_option maxHeartbeats 16000000 in
theorem take_new {p : Pk} {po pd lv : Value} {gT : Nat} (h : TakeIn w gt mb ov q now cs p po pd gT lv) (hno : ∀ c ∈ cs, kyB p c.s.k = false) (hq : 0 ≤ q.e ∧ 0 ≤ q.b) (hl : cs.length < 1000) (Φ : Ending → World → Prop)
    (hΦ : ∀ w3 g fp ov1, Tab w3 gt mb ov1 q now (cs ++ [⟨newS p now, g, fp⟩]) → (∀ z ∈ fp, w.heap.size ≤ z) → (∀ z, ov1.ownBlock = some z → ov.ownBlock = some z ∨ w.heap.size ≤ z) → Away (gt :: mb :: ov.ownBlock.toList) w w3 →
      ∀ E w', TakeOut w3 gt mb ov1 q now (cs ++ [⟨newS p now, g, fp⟩]) cs.length ⟨newS p now, g, fp⟩ p gT lv E w' → Φ E w') :
    Calls Tryz.prog 34 #[.pointer (some ⟨gt, 0, none⟩), .agg (csP p po pd), .pointer (some ⟨gT, 0, none⟩)] w Φ := by
  have HI := Lib.hid h
  have HAD := Lib.hid h.pkt.wf.ad
  have HNO := Lib.hid hno
  have HL := Lib.hid hl
  have HPH := Lib.hid hΦ
  have HQ := Lib.hid hq
  have hsz := h.box
  have HGT : Hid (gT < w.heap.size) := lt_of_block h.box
  clear h hno hq hsz hl hΦ
  go_enter Tryz.func34, Tryz.ntmps34
  go_wp2_with (refine wpList_box28 rfl _ rfl p _ _ rfl ?_; refine Hid.out ?_)
  refine Lib.hid ?_
  intro g4 w1 hg4 hb4 haw1
  have HB4 := Lib.hid hb4
  have HG4 := Lib.hid hg4
  have HA := Lib.hid haw1
  clear hb4 haw1 hg4
  have K39 := Lib.hid (tkey_c p po pd w1 HAD.out)
  go_wp2_with (refine wpList_load28 rfl _ rfl _ rfl p _ _ (by exact HB4.out) HAD.out ?_)
  refine K39.out.mono ?_
  rintro E w2 ⟨rfl, haw2⟩
  replace HB4 := Lib.hid (HB4.out.on haw2)
  replace HA := Lib.hid (HA.out.trans haw2)
  clear haw2 K39
  have K38 := Lib.hid (entryOf_new (HI.out.tab.on HA.out) p HI.out.pkt.wf HNO.out HL.out)
  go_wp2_with fail
  refine K38.out.mono ?_
  rintro E w3 ⟨g, fp, ov1, rfl, htab, hfp, hov, haw3⟩
  have hs2 := HA.out.size
  have HFPN : Hid (∀ z ∈ fp, w.heap.size ≤ z) := fun z hz => Nat.le_trans hs2 (hfp z hz)
  have HOVN : Hid (∀ z, ov1.ownBlock = some z → ov.ownBlock = some z ∨ w.heap.size ≤ z) := fun z hz => (hov z hz).imp id (fun h1 => Nat.le_trans hs2 h1)
  have HAW : Hid (Away (gt :: mb :: ov.ownBlock.toList) w w3) := (HA.out.mono (by simp)).trans haw3
  have HPHI := Lib.hid (HPH.out w3 g fp ov1 htab HFPN.out HOVN.out HAW.out)
  have HSM0 : Hid (∀ z ∈ gt :: mb :: ov.ownBlock.toList, z ∈ fpT gt mb ov cs) := fun z hz => by
    simp only [List.mem_cons, Option.mem_toList] at hz
    exact mem_fpT.2 (hz.imp id (Or.imp id Or.inl))
  have HNEW : Hid (∀ z ∈ fpT gt mb ov1 (cs ++ [⟨newS p now, g, fp⟩]), z ∈ fpT gt mb ov cs ∨ w.heap.size ≤ z) := fun z hz => by
    rcases mem_fpT.1 hz with e | e | e | ⟨d, hd, e⟩
    · exact .inl (mem_fpT.2 (.inl e))
    · exact .inl (mem_fpT.2 (.inr (.inl e)))
    · exact (HOVN.out z e).imp (fun h1 => mem_fpT.2 (.inr (.inr (.inl h1)))) id
    · rcases List.mem_append.1 hd with hd | hd
      · exact .inl (mem_fpT.2 (.inr (.inr (.inr ⟨d, hd, e⟩))))
      · simp at hd; subst hd; exact .inr (HFPN.out z e)
  have HPW : Hid (0 < w.heap.size) := HI.out.glob.pos
  replace HB4 : Hid (BoxP w3 g4 p po pd) := HB4.out.away haw3 (fun hm => by have h1 := HI.out.tab.lt g4 (HSM0.out g4 hm); have h2 := HG4.out; omega)
  have HI3 : Hid (TakeIn w3 gt mb ov1 q now (cs ++ [⟨newS p now, g, fp⟩]) p po pd gT lv) := by
    refine ⟨htab, HI.out.glob.away HAW.out (fun hm => HI.out.pos (HSM0.out 0 hm)), HI.out.pkt.away HAW.out (HI.out.outs.mono (fun z hz => by simp only [List.mem_cons]; exact .inr (HSM0.out z hz))), HAW.out.keep (fun hm => HI.out.far (HSM0.out gT hm)) HI.out.box, fun hm => ?_, ⟨fun e z hz hm => ?_, fun e z hz hm => ?_⟩, fun hm => ?_⟩
    · rcases HNEW.out gT hm with h1 | h1
      · exact HI.out.far h1
      · have := HGT.out; omega
    · have h2 := HI.out.pkt.o.old e z hz
      rcases List.mem_cons.1 hm with h1 | h1
      · exact HI.out.outs.o e z hz (by rw [h1]; simp)
      · rcases HNEW.out z h1 with h3 | h3
        · exact HI.out.outs.o e z hz (by simp [h3])
        · omega
    · have h2 := HI.out.pkt.d.old e z hz
      rcases List.mem_cons.1 hm with h1 | h1
      · exact HI.out.outs.d e z hz (by rw [h1]; simp)
      · rcases HNEW.out z h1 with h3 | h3
        · exact HI.out.outs.d e z hz (by simp [h3])
        · omega
    · rcases HNEW.out 0 hm with h1 | h1
      · exact HI.out.pos h1
      · have := HPW.out; omega
  have HC : Hid ((cs ++ [(⟨newS p now, g, fp⟩ : Cel)])[cs.length]? = some ⟨newS p now, g, fp⟩) := by show _ = _; simp
  have HGT3 : Hid (gT < w3.heap.size) := Nat.lt_of_lt_of_le HGT.out HAW.out.size
  obtain ⟨i, hi⟩ : ∃ z, z = cs.length := ⟨_, rfl⟩
  rw [← hi] at HC HPHI
  obtain ⟨cs1, hcs1⟩ : ∃ z, z = cs ++ [(⟨newS p now, g, fp⟩ : Cel)] := ⟨_, rfl⟩
  rw [← hcs1] at HC HPHI HI3
  obtain ⟨c, hce⟩ : ∃ z, z = (⟨newS p now, g, fp⟩ : Cel) := ⟨_, rfl⟩
  rw [← hce] at HC HPHI
  have hcg : g = c.g := by rw [hce]
  rw [hcg]
  clear HI HGT htab hfp hov haw3 HFPN HOVN HAW HNEW HSM0 K38 HPH HNO HL HA hs2 hi hcs1 hce hcg
  have HI := HI3
  have HGT := HGT3
  have HA : Hid (Away [] w3 w3) := Away.refl _ _
  clear HI3 HGT3
  have HCM := Lib.hid (List.mem_of_getElem? HC.out)
  have HFS : Hid (∀ z ∈ c.fp, z ∈ fpT gt mb ov1 cs1) := fun z hz => mem_fpT.2 (.inr (.inr (.inr ⟨c, HCM.out, hz⟩)))
  have K40 := Lib.hid (eput_c ((HI.out.tab.on HA.out).ent c HCM.out) p po pd (HI.out.pkt.on HA.out) (HI.out.glob.on HA.out) (HI.out.outs.mono (fun z hz => by simp [HFS.out z hz])) (fun hm => HI.out.pos (HFS.out 0 hm)))
  go_wp2_with (refine wpList_load28 rfl _ rfl _ rfl p _ _ (by exact HB4.out) HAD.out ?_)
  refine K40.out.mono ?_
  rintro E w4 ⟨rfl, fp1, hy1, hf1, haw4⟩
  have HT4 := Lib.hid ((HI.out.tab.on HA.out).upd HC.out haw4 hy1 (put_kt c.s p).1 hf1)
  have HBX : Hid (BoxT w4 gT 0 nilV lv nilV) := haw4.keep (fun hm => HI.out.far (HFS.out gT hm)) (HA.out.keep (by simp) HI.out.box)
  have HS3 : Hid (w3.heap.size ≤ w3.heap.size) := HA.out.size
  have HF1 := Lib.hid hf1
  replace HA : Hid (Away (gT :: fpT gt mb ov1 cs1) w3 w4) := (HA.out.mono (by simp)).trans (haw4.mono (fun z hz => by simp [HFS.out z hz]))
  have HFN : Hid (∀ z ∈ fp1, z ∈ c.fp ∨ w3.heap.size ≤ z) := fun z hz => (HF1.out z hz).imp id (fun h1 => Nat.le_trans HS3.out h1)
  have HGC : Hid (∀ z ∈ [c.g], z ∈ c.fp ∨ w3.heap.size ≤ z) := fun z hz => .inl (by simp at hz; rw [hz]; exact (HI.out.tab.ent c HCM.out).ent.mem)
  clear hy1 hf1 haw4 K40 HB4
  have c0 : w4.cell? ⟨gT, 0, none⟩ = some (.int .i64 0) := cell_of_block HBX.out 0
  have f0 : w4.frozen? ⟨gT, 0, none⟩ = false := free_of_block HBX.out 0
  obtain ⟨pn, hpn⟩ : ∃ z, z = (putS c.s p).1 := ⟨_, rfl⟩
  obtain ⟨ps, hps⟩ : ∃ z, z = (putS c.s p).2 := ⟨_, rfl⟩
  rw [← hpn]
  rw [← hps] at HT4
  have HPN := Lib.hid hpn
  have HPS := Lib.hid hps
  clear hpn hps
  have HNF1 : Hid (gT ∉ fpT gt mb ov1 (cs1.set i ⟨ps, c.g, fp1⟩)) := fun hz => by
    have h1 := HGT.out
    have h2 := HS3.out
    rcases mem_fpT.1 hz with e | e | hz | ⟨d, hd, hz⟩
    · exact HI.out.far (mem_fpT.2 (.inl e))
    · exact HI.out.far (mem_fpT.2 (.inr (.inl e)))
    · exact HI.out.far (mem_fpT.2 (.inr (.inr (.inl hz))))
    · obtain ⟨j, hj⟩ := List.mem_iff_getElem?.1 hd
      rcases set_get HC.out hj with ⟨-, e⟩ | ⟨-, e⟩
      · subst e
        rcases HF1.out gT hz with h3 | h3
        · exact HI.out.far (HFS.out gT h3)
        · omega
      · exact HI.out.far (mem_fpT.2 (.inr (.inr (.inr ⟨d, List.mem_of_getElem? e, hz⟩))))
  go_upto_region 3 with fail
  have HA5 := away_one' w4 gT 0 (.int .i64 pn)
  have HB5 := HBX.out.says pn
  have HT5 := HT4.out.away HA5 (fun z hz hm => by simp at hm; subst hm; exact HNF1.out hz)
  obtain ⟨w5, hw5⟩ : ∃ z, z = w4.setCell ⟨gT, 0, none⟩ (.int .i64 pn) := ⟨_, rfl⟩
  rw [← hw5] at HA5 HB5 HT5 ⊢
  replace HA : Hid (Away (gT :: fpT gt mb ov1 cs1) w3 w5) := HA.out.trans (HA5.mono (by simp))
  replace HBX := Lib.hid HB5
  replace HT4 := Lib.hid HT5
  clear HA5 HB5 HT5 hw5 c0 f0
  have c0 : w5.cell? ⟨gT, 0, none⟩ = some (.int .i64 pn) := cell_of_block HBX.out 0
  have HSG : Hid ((cs1.set i ⟨ps, c.g, fp1⟩)[i]? = some ⟨ps, c.g, fp1⟩) := by show _ = _; rw [List.getElem?_set_self (lt_of_get HC.out)]
  have HSM := Lib.hid (List.mem_of_getElem? HSG.out)
  have HEY : Hid (Ey w5 c.g ps fp1) := HT4.out.ent _ HSM.out
  have HKW : Hid (Wf ps.k) := HT4.out.kwf _ HSM.out
  by_cases h6 : pn = 6
  · subst h6
    have K41 := Lib.hid (ewhole_c HEY.out)
    go_wp2_with fail
    refine K41.out.mono ?_
    rintro E w6 ⟨fo, fd, rfl, hm1, haw6⟩
    have HFW : Hid (Wf (wholeP ps).1) := whole_wf HEY.out
    have HM1 := Lib.hid hm1
    have HO1 := Lib.hid hm1.o.one
    have HD1 := Lib.hid hm1.d.one
    replace HT4 := Lib.hid (HT4.out.on haw6)
    replace HBX : Hid (BoxT w6 gT 6 nilV lv nilV) := haw6.keep (by simp) HBX.out
    have HS5 : Hid (w3.heap.size ≤ w5.heap.size) := HA.out.size
    replace HA := Lib.hid (HA.out.trans (haw6.mono (by simp)))
    clear hm1 haw6 K41 c0
    obtain ⟨fq, hfq⟩ : ∃ z, z = (wholeP ps).1 := ⟨_, rfl⟩
    obtain ⟨fb, hfb⟩ : ∃ z, z = (wholeP ps).2 := ⟨_, rfl⟩
    rw [← hfq] at HFW HM1 ⊢
    rw [← hfb]
    have HFQ := Lib.hid hfq
    clear hfq hfb
    go_wp2_with (refine wpList_new28 rfl rfl rfl _ _ rfl fq fo fd (fun g => rfl) (fun g => rfl) HFW.out.ad HO1.out HD1.out ?_; refine Hid.out ?_)
    refine Lib.hid ?_
    intro g7 w7 hg7 hb7 haw7
    have HB7 := Lib.hid hb7
    replace HT4 := Lib.hid (HT4.out.on haw7)
    replace HBX : Hid (BoxT w7 gT 6 nilV lv nilV) := haw7.keep (by simp) HBX.out
    replace HM1 := Lib.hid (HM1.out.on haw7)
    replace HA := Lib.hid (HA.out.trans (haw7.mono (by simp)))
    clear hb7 haw7 hg7
    go_wp2_with (first | (refine wpList_load28 rfl _ rfl _ rfl fq _ _ (by exact HB7.out) HFW.out.ad ?_) | (refine wpList_build28 rfl _ rfl fq fo fd rfl HFW.out.ad ?_; refine Hid.out ?_))
    refine Lib.hid ?_
    intro gq w8 hgq hbq haw8
    have HLM : Hid (∀ k, fo.ownBlock = some k ∨ fd.ownBlock = some k → k < w7.heap.size) := fun k hk => (HM1.out.lto k hk).1
    replace HT4 := Lib.hid (HT4.out.on haw8)
    replace HBX : Hid (BoxT w8 gT 6 nilV lv nilV) := haw8.keep (by simp) HBX.out
    replace HM1 := Lib.hid (HM1.out.on haw8)
    have HS7 : Hid (w3.heap.size ≤ w7.heap.size) := HA.out.size
    have HGQ : Hid (w7.heap.size ≤ gq) := hgq
    replace HA := Lib.hid (HA.out.trans (haw8.mono (by simp)))
    have HCU : Hid (Cuts w8 w3.heap.size (.slice (some ⟨gq, 0, none⟩) 1 1) [⟨fq, fo, fd⟩]) := Cuts.one hbq HFW.out (HM1.out.mono HS5.out) (Nat.le_trans HS7.out hgq) (fun k hk e => by have h1 := HLM.out k hk; omega)
    clear hbq haw8 hgq HB7
    have c1 : w8.cell? ⟨gT, 1, none⟩ = some (.slice none 0 0) := cell_of_block HBX.out 1
    have f1 : w8.frozen? ⟨gT, 1, none⟩ = false := free_of_block HBX.out 1
    go_upto_region 6 with fail
    have HA9 := away_one' w8 gT 1 (.slice (some ⟨gq, 0, none⟩) 1 1)
    have HB9 := HBX.out.whole (.slice (some ⟨gq, 0, none⟩) 1 1)
    have HT9 := HT4.out.away HA9 (fun z hz hm => by simp at hm; subst hm; exact HNF1.out hz)
    have HC9 := HCU.out.away HA9 (fun z hz => by simp at hz; rw [hz]; exact HGT.out)
    obtain ⟨w9, hw9⟩ : ∃ z, z = w8.setCell ⟨gT, 1, none⟩ (.slice (some ⟨gq, 0, none⟩) 1 1) := ⟨_, rfl⟩
    rw [← hw9] at HA9 HB9 HT9 HC9 ⊢
    replace HA : Hid (Away (gT :: fpT gt mb ov1 cs1) w3 w9) := HA.out.trans (HA9.mono (by simp))
    replace HBX := Lib.hid HB9
    replace HT4 := Lib.hid HT9
    replace HCU := Lib.hid HC9
    clear HA9 HB9 HT9 HC9 hw9 c1 f1
    have K43 := Lib.hid (ekey_c (HT4.out.ent _ HSM.out).ent)
    go_wp2_with fail
    refine K43.out.mono ?_
    rintro E w10 ⟨rfl, haw10⟩
    replace HT4 := Lib.hid (HT4.out.on haw10)
    replace HCU := Lib.hid (HCU.out.on haw10)
    replace HBX : Hid (BoxT w10 gT 6 (.slice (some ⟨gq, 0, none⟩) 1 1) lv nilV) := haw10.keep (by simp) HBX.out
    replace HA := Lib.hid (HA.out.trans (haw10.mono (by simp)))
    clear haw10 K43
    have K42 := Lib.hid (drop_c HT4.out HSG.out ps.k HKW.out (ky_self _))
    go_wp2_with fail
    refine K42.out.mono ?_
    rintro E w11 ⟨rfl, ov9, htab9, hob9, haw9⟩
    have HTC : Hid (takeC q cs1 i c p fp1 fp1 = ⟨6, [fq], [], (cs1.set i ⟨ps, c.g, fp1⟩).eraseIdx i⟩) := by
      show _ = _
      unfold takeC
      rw [if_pos HPN.out.symm, ← HPS.out, ← HFQ.out]
    have HT11 := Lib.hid htab9
    have HOB := Lib.hid hob9
    have HSM' : Hid (∀ z ∈ gt :: mb :: ov1.ownBlock.toList, z ∈ fpT gt mb ov1 cs1) := fun z hz => by
      simp only [List.mem_cons, Option.mem_toList] at hz
      exact mem_fpT.2 (hz.imp id (Or.imp id Or.inl))
    have HBF : Hid (BoxT w11 gT 6 (.slice (some ⟨gq, 0, none⟩) 1 1) lv nilV) := haw9.keep (fun hm => HI.out.far (HSM'.out gT hm)) HBX.out
    have HCF := Lib.hid (HCU.out.away haw9 (fun z hz => HI.out.tab.lt z (HSM'.out z hz)))
    have HAF : Hid (Away (gT :: fpT gt mb ov1 cs1) w3 w11) := HA.out.trans (haw9.mono (fun z hz => by simp only [List.mem_cons]; exact .inr (HSM'.out z hz)))
    clear htab9 hob9 haw9 K42
    go_wp2_with fail
    go_end0
    refine HPHI.out _ _ ⟨rfl, fp1, fp1, .slice (some ⟨gq, 0, none⟩) 1 1, nilV, ov9, [⟨fq, fo, fd⟩], ?_⟩
    rw [HTC.out]
    exact ⟨⟨HFN.out, HFN.out⟩, HBF.out, HCF.out, rfl, K.LstK.nil _, New.nil _, HT11.out, HOB.out, HAF.out⟩
  · have h6b : (pn == 6) = false := by simpa using h6
    obtain ⟨hn, hhn⟩ : ∃ z, z = holesN ps := ⟨_, rfl⟩
    obtain ⟨qh, hqh⟩ : ∃ z, z = q.h := ⟨_, rfl⟩
    have HHN := Lib.hid hhn
    have HQH := Lib.hid hqh
    have C2 : Hid (w5.cell? ⟨gt, 2, none⟩ = some (.int .i64 qh)) := by rw [hqh]; exact HT4.out.cell 2
    have Q27 : Hid (∀ W, Away [] w5 W → Calls Tryz.prog 38 #[.pointer (some ⟨c.g, 0, none⟩)] W fun E w3' => E = .returned (.int .i64 hn) ∧ Away [] w5 w3') := fun W hW => by
      rw [hhn]
      exact (eholes_c (HEY.out.on hW).ent).mono (fun E w3' h => ⟨h.1, hW.trans h.2⟩)
    clear hhn hqh
    have HC0 : Hid (Away [] w5 w5.drew) := (Away.refl _ _).drew
    by_cases hh : qh < hn
    · have hhb : decide (qh < hn) = true := by simpa using hh
      go_wp2_with fail
      refine wp_region_cls (C := fun w3' => Away [] w5 w3') (by kernel_rfl) (by kernel_rfl) HC0.out ?_
      go_big_quiet_want; (refine quiet_val ?_ ?_ ?_; rotate_left; (intro w3; go_simp; rfl); go_simp; go_big_quiet_on)
      go_big_quiet_want; refine quiet_call 38 #[.pointer (some ⟨c.g, 0, none⟩)] (.int .i64 hn) ?_ Q27.out ?_
      · intro w3; go_simp; all_goals (with_reducible rfl)
      go_simp; go_big_quiet_on
      iterate 4 (go_big_quiet_want; (refine quiet_val ?_ ?_ ?_; rotate_left; (intro w3; go_simp; rfl); go_simp; go_big_quiet_on))
      go_big_quiet_want; refine quiet_ld _ rfl (ad := ⟨gt, 2, none⟩) rfl (fun w3' h => ld3 (h.cell (by simp) C2.out)) ?_; go_simp; go_big_quiet_on
      go_big_quiet_want; (refine quiet_val ?_ ?_ ?_; rotate_left; (intro w3; go_simp; rfl); go_simp; go_big_quiet_on)
      refine wpQuiet_nil ?_
      intro V hV
      replace HT4 := Lib.hid (HT4.out.on hV)
      replace HBX : Hid (BoxT V gT pn nilV lv nilV) := hV.keep (by simp) HBX.out
      replace HEY := Lib.hid (HEY.out.on hV)
      replace HA := Lib.hid (HA.out.trans (hV.mono (by simp)))
      clear hV Q27 C2 HC0 c0
      obtain ⟨lp, xv, yv, mp, hb, hka, hfa⟩ := HEY.out.ent.blk
      have K44 := Lib.hid (poison_c ps lp xv yv mp hb hka hfa)
      clear hb hka hfa
      go_wp2_with fail
      refine K44.out.mono ?_
      rintro E w7 ⟨rfl, hb7, haw7⟩
      have HGM : Hid (c.g ∈ fp1) := HEY.out.ent.mem
      have HT7 : Hid (Tab w7 gt mb ov1 q now (cs1.set i ⟨poisS ps, c.g, [c.g]⟩)) := by
        have h1 := HT4.out.upd HSG.out (haw7.mono (fun z hz => by simp at hz; rw [hz]; exact HGM.out)) (ey_pois hb7) rfl (fun z hz => by simp at hz; rw [hz]; exact .inl HGM.out)
        rw [List.set_set] at h1
        exact h1
      have HNF2 : Hid (gT ∉ fpT gt mb ov1 (cs1.set i ⟨poisS ps, c.g, [c.g]⟩)) := fun hz => by
        rcases mem_fpT.1 hz with e | e | hz | ⟨d, hd, hz⟩
        · exact HI.out.far (mem_fpT.2 (.inl e))
        · exact HI.out.far (mem_fpT.2 (.inr (.inl e)))
        · exact HI.out.far (mem_fpT.2 (.inr (.inr (.inl hz))))
        · obtain ⟨j, hj⟩ := List.mem_iff_getElem?.1 hd
          rcases set_get HC.out hj with ⟨-, e⟩ | ⟨-, e⟩
          · subst e
            simp at hz
            exact HNF1.out (mem_fpT.2 (.inr (.inr (.inr ⟨_, HSM.out, by rw [hz]; exact HGM.out⟩))))
          · exact HI.out.far (mem_fpT.2 (.inr (.inr (.inr ⟨d, List.mem_of_getElem? e, hz⟩))))
      have HFG : Hid (c.g ∈ fpT gt mb ov1 cs1) := HFS.out c.g (HI.out.tab.ent c HCM.out).ent.mem
      replace HBX : Hid (BoxT w7 gT pn nilV lv nilV) := haw7.keep (fun hm => by simp at hm; exact HI.out.far (by rw [hm]; exact HFG.out)) HBX.out
      replace HA : Hid (Away (gT :: fpT gt mb ov1 cs1) w3 w7) := HA.out.trans (haw7.mono (fun z hz => by simp at hz; rw [hz]; simp [HFG.out]))
      clear hb7 haw7 K44 HT4 HEY
      have c0 : w7.cell? ⟨gT, 0, none⟩ = some (.int .i64 pn) := cell_of_block HBX.out 0
      have f0 : w7.frozen? ⟨gT, 0, none⟩ = false := free_of_block HBX.out 0
      go_upto_region 10 with fail
      have HA8 := away_one' w7 gT 0 (.int .i64 4)
      have HB8 := HBX.out.says 4
      have HT8 := HT7.out.away HA8 (fun z hz hm => by simp at hm; subst hm; exact HNF2.out hz)
      obtain ⟨w8, hw8⟩ : ∃ z, z = w7.setCell ⟨gT, 0, none⟩ (.int .i64 4) := ⟨_, rfl⟩
      rw [← hw8] at HA8 HB8 HT8 ⊢
      replace HA : Hid (Away (gT :: fpT gt mb ov1 cs1) w3 w8) := HA.out.trans (HA8.mono (by simp))
      replace HBX := Lib.hid HB8
      replace HT7 := Lib.hid HT8
      clear HA8 HB8 HT8 hw8 c0 f0
      have K45 := Lib.hid (push_c HT7.out HQ.out)
      go_wp2_with fail
      refine K45.out.mono ?_
      rintro E w11 ⟨gv, ov9, rfl, hl9, hn9, htab9, hob9, haw9⟩
      obtain ⟨ga, gn, gc, hgv⟩ : ∃ ga gn gc, gv = .slice ga gn gc := by
        rcases hl9.shp with ⟨h1, -⟩ | ⟨g', c', h1⟩
        · exact ⟨_, _, _, h1⟩
        · exact ⟨_, _, _, h1⟩
      subst hgv
      have HL9 := Lib.hid hl9
      have HSW : Hid (w3.heap.size ≤ w8.heap.size) := HA.out.size
      have HN9 : Hid (New w3.heap.size (.slice ga gn gc)) := hn9.mono HSW.out
      have HT11 := Lib.hid htab9
      have HOB := Lib.hid hob9
      have HSM' : Hid (∀ z ∈ gt :: mb :: ov1.ownBlock.toList, z ∈ fpT gt mb ov1 cs1) := fun z hz => by
        simp only [List.mem_cons, Option.mem_toList] at hz
        exact mem_fpT.2 (hz.imp id (Or.imp id Or.inl))
      have HBF : Hid (BoxT w11 gT 4 nilV lv nilV) := haw9.keep (fun hm => HI.out.far (HSM'.out gT hm)) HBX.out
      have HAF : Hid (Away (gT :: fpT gt mb ov1 cs1) w3 w11) := HA.out.trans (haw9.mono (fun z hz => by simp only [List.mem_cons]; exact .inr (HSM'.out z hz)))
      have HNFD : Hid (gT ∉ fpT gt mb ov9 ((cs1.set i ⟨poisS ps, c.g, [c.g]⟩).drop (pushN q (cs1.set i ⟨poisS ps, c.g, [c.g]⟩)))) := fun hz => by
        rcases mem_fpT.1 hz with e | e | hz | ⟨d, hd, hz⟩
        · exact HNF2.out (mem_fpT.2 (.inl e))
        · exact HNF2.out (mem_fpT.2 (.inr (.inl e)))
        · exact HNF2.out (mem_fpT.2 (.inr (.inr (.inl (by rw [← HOB.out]; exact hz)))))
        · exact HNF2.out (mem_fpT.2 (.inr (.inr (.inr ⟨d, List.mem_of_mem_drop hd, hz⟩))))
      clear hl9 hn9 htab9 hob9 haw9 K45
      have c3 : w11.cell? ⟨gT, 3, none⟩ = some (.slice none 0 0) := cell_of_block HBF.out 3
      have f3 : w11.frozen? ⟨gT, 3, none⟩ = false := free_of_block HBF.out 3
      have HTC : Hid (takeC q cs1 i c p fp1 [c.g] = ⟨4, [], ((cs1.set i ⟨poisS ps, c.g, [c.g]⟩).take (pushN q (cs1.set i ⟨poisS ps, c.g, [c.g]⟩))).map (·.s.k), (cs1.set i ⟨poisS ps, c.g, [c.g]⟩).drop (pushN q (cs1.set i ⟨poisS ps, c.g, [c.g]⟩))⟩) := by
        show _ = _
        unfold takeC
        rw [if_neg (by rw [← HPN.out]; exact h6), ← HPS.out, if_pos (by rw [← HQH.out, ← HHN.out]; exact hh)]
      go_wp2_with fail
      go_end0
      have HA12 := away_one' w11 gT 3 (.slice ga gn gc)
      refine HPHI.out _ _ ⟨rfl, fp1, [c.g], nilV, .slice ga gn gc, ov9, [], ?_⟩
      rw [HTC.out]
      refine ⟨⟨HFN.out, HGC.out⟩, HBF.out.gone _, Cuts.nil _ _, rfl, HL9.out.away HA12 (fun z hz hm => ?_), HN9.out, HT11.out.away HA12 (fun z hz hm => by simp at hm; subst hm; exact HNFD.out hz), HOB.out, HAF.out.trans (HA12.mono (by simp))⟩
      simp at hm; subst hm
      have h1 := HN9.out _ hz
      have h2 := HGT.out
      omega
    · have hhb : decide (qh < hn) = false := by simpa using hh
      go_wp2_with fail
      refine wp_region_cls (C := fun w3' => Away [] w5 w3') (by kernel_rfl) (by kernel_rfl) HC0.out ?_
      go_big_quiet_want; (refine quiet_val ?_ ?_ ?_; rotate_left; (intro w3; go_simp; rfl); go_simp; go_big_quiet_on)
      go_big_quiet_want; refine quiet_call 38 #[.pointer (some ⟨c.g, 0, none⟩)] (.int .i64 hn) ?_ Q27.out ?_
      · intro w3; go_simp; all_goals (with_reducible rfl)
      go_simp; go_big_quiet_on
      iterate 4 (go_big_quiet_want; (refine quiet_val ?_ ?_ ?_; rotate_left; (intro w3; go_simp; rfl); go_simp; go_big_quiet_on))
      go_big_quiet_want; refine quiet_ld _ rfl (ad := ⟨gt, 2, none⟩) rfl (fun w3' h => ld3 (h.cell (by simp) C2.out)) ?_; go_simp; go_big_quiet_on
      go_big_quiet_want; (refine quiet_val ?_ ?_ ?_; rotate_left; (intro w3; go_simp; rfl); go_simp; go_big_quiet_on)
      refine wpQuiet_nil ?_
      intro V hV
      replace HT4 := Lib.hid (HT4.out.on hV)
      replace HBX : Hid (BoxT V gT pn nilV lv nilV) := hV.keep (by simp) HBX.out
      replace HA := Lib.hid (HA.out.trans (hV.mono (by simp)))
      clear hV Q27 C2 HC0 c0 HEY
      have K45 := Lib.hid (push_c HT4.out HQ.out)
      go_wp2_with fail
      refine K45.out.mono ?_
      rintro E w11 ⟨gv, ov9, rfl, hl9, hn9, htab9, hob9, haw9⟩
      obtain ⟨ga, gn, gc, hgv⟩ : ∃ ga gn gc, gv = .slice ga gn gc := by
        rcases hl9.shp with ⟨h1, -⟩ | ⟨g', c', h1⟩
        · exact ⟨_, _, _, h1⟩
        · exact ⟨_, _, _, h1⟩
      subst hgv
      have HL9 := Lib.hid hl9
      have HSW : Hid (w3.heap.size ≤ V.heap.size) := HA.out.size
      have HN9 : Hid (New w3.heap.size (.slice ga gn gc)) := hn9.mono HSW.out
      have HT11 := Lib.hid htab9
      have HOB := Lib.hid hob9
      have HSM' : Hid (∀ z ∈ gt :: mb :: ov1.ownBlock.toList, z ∈ fpT gt mb ov1 cs1) := fun z hz => by
        simp only [List.mem_cons, Option.mem_toList] at hz
        exact mem_fpT.2 (hz.imp id (Or.imp id Or.inl))
      have HBF : Hid (BoxT w11 gT pn nilV lv nilV) := haw9.keep (fun hm => HI.out.far (HSM'.out gT hm)) HBX.out
      have HAF : Hid (Away (gT :: fpT gt mb ov1 cs1) w3 w11) := HA.out.trans (haw9.mono (fun z hz => by simp only [List.mem_cons]; exact .inr (HSM'.out z hz)))
      have HNFD : Hid (gT ∉ fpT gt mb ov9 ((cs1.set i ⟨ps, c.g, fp1⟩).drop (pushN q (cs1.set i ⟨ps, c.g, fp1⟩)))) := fun hz => by
        rcases mem_fpT.1 hz with e | e | hz | ⟨d, hd, hz⟩
        · exact HNF1.out (mem_fpT.2 (.inl e))
        · exact HNF1.out (mem_fpT.2 (.inr (.inl e)))
        · exact HNF1.out (mem_fpT.2 (.inr (.inr (.inl (by rw [← HOB.out]; exact hz)))))
        · exact HNF1.out (mem_fpT.2 (.inr (.inr (.inr ⟨d, List.mem_of_mem_drop hd, hz⟩))))
      clear hl9 hn9 htab9 hob9 haw9 K45
      have c3 : w11.cell? ⟨gT, 3, none⟩ = some (.slice none 0 0) := cell_of_block HBF.out 3
      have f3 : w11.frozen? ⟨gT, 3, none⟩ = false := free_of_block HBF.out 3
      have HTC : Hid (takeC q cs1 i c p fp1 [c.g] = ⟨pn, [], ((cs1.set i ⟨ps, c.g, fp1⟩).take (pushN q (cs1.set i ⟨ps, c.g, fp1⟩))).map (·.s.k), (cs1.set i ⟨ps, c.g, fp1⟩).drop (pushN q (cs1.set i ⟨ps, c.g, fp1⟩))⟩) := by
        show _ = _
        unfold takeC
        rw [if_neg (by rw [← HPN.out]; exact h6), ← HPS.out, if_neg (by rw [← HQH.out, ← HHN.out]; omega), ← HPN.out]
      go_wp2_with fail
      go_end0
      have HA12 := away_one' w11 gT 3 (.slice ga gn gc)
      refine HPHI.out _ _ ⟨rfl, fp1, [c.g], nilV, .slice ga gn gc, ov9, [], ?_⟩
      rw [HTC.out]
      refine ⟨⟨HFN.out, HGC.out⟩, HBF.out.gone _, Cuts.nil _ _, rfl, HL9.out.away HA12 (fun z hz hm => ?_), HN9.out, HT11.out.away HA12 (fun z hz hm => by simp at hm; subst hm; exact HNFD.out hz), HOB.out, HAF.out.trans (HA12.mono (by simp))⟩
      simp at hm; subst hm
      have h1 := HN9.out _ hz
      have h2 := HGT.out
      omega
end
def dgP (p : Pk) : Pk := if p.v = 6 then { p with frag := false, id := 0 } else p
set_option maxHeartbeats 8000000 in
theorem dgm_c (p : Pk) (ov dv : Value) (w : World) (hp : Pkt w p ov dv) :
    Calls Tryz.prog 33 #[.agg (csP p ov dv)] w fun E w' => OwnOut w (dgP p) E w' := by
  have HAD := Lib.hid hp.wf.ad
  have KO : Hid (∀ w', Away [] w w' → Calls Tryz.prog 48 #[ov] w' fun E w'' => ∃ v, E = .returned v ∧ Owns w'' v p.o ∧ New w'.heap.size v ∧ Away [] w' w'') := by
    obtain ⟨a, c, rfl, x1, x2, x3⟩ := hp.o
    exact fun w' h => clone_any a p.o c w' x2 (x3.away h (by simp))
  have KD : Hid (∀ w', Away [] w w' → Calls Tryz.prog 48 #[dv] w' fun E w'' => ∃ v, E = .returned v ∧ Owns w'' v p.d ∧ New w'.heap.size v ∧ Away [] w' w'') := by
    obtain ⟨a, c, rfl, x1, x2, x3⟩ := hp.d
    exact fun w' h => clone_any a p.d c w' x2 (x3.away h (by simp))
  obtain ⟨-, ⟨o1, o2, rfl, -⟩, ⟨o3, o4, rfl, -⟩⟩ := hp
  generalize p.o.length = no at *
  generalize p.d.length = nd at *
  go_enter Tryz.func33, Tryz.ntmps33
  go_wp2_with (refine wpList_box28 rfl _ rfl p _ _ rfl ?_; refine Hid.out ?_)
  refine Lib.hid ?_
  intro g1 w1 hg1 hb1 haw1
  have HB1 := Lib.hid hb1; have HA1 := Lib.hid haw1
  have hl1 := hb1.lt
  clear hb1 haw1
  go_wp2_with (refine wpList_alloc28 rfl rfl ?_; refine Hid.out ?_)
  refine Lib.hid ?_
  intro g2 w2 hg2 hb2 haw2
  have HB2 := Lib.hid hb2
  replace HB1 := Lib.hid (HB1.out.on haw2)
  replace HA1 := Lib.hid (HA1.out.next haw2 (by simp))
  have hl2 := hb2.lt
  have hs1 := HA1.out.size
  have hs2 := haw2.size
  clear hb2 haw2
  go_wp2_with fail
  have ck : BoxP w2.drew g1 p (.slice o1 no o2) (.slice o3 nd o4) := HB1.out
  refine wp_region_U [7] (fun w' => BoxP w' g1 p (.slice o1 no o2) (.slice o3 nd o4)) (by kernel_rfl) ?_
  refine wpAnyU_take (i := 0) (v := ?_) (by simp only [gA, List.getElem?_cons_succ, List.getElem?_cons_zero]; rfl) (by kernel_rfl) (by kernel_rfl) (by kernel_rfl) (by decide) (by decide) (by unfold Un; kernel_rfl) (by exact fun _ _ _ h => h) (Or.inl ⟨by rfl, ?_⟩) (by exact ck) ?_
  rotate_left; focus (intro wq hSw; (try dsimp only at hSw); go_simp; all_goals (with_reducible rfl))
  try simp only [Act.put, sA, s0, s1]
  refine wpAnyU_take (i := 1) (by simp only [gA, List.getElem?_cons_succ, List.getElem?_cons_zero]; rfl) (by kernel_rfl) (by kernel_rfl) (by kernel_rfl) (by decide) (by decide) (by unfold Un; kernel_rfl) (by exact fun _ _ _ h => h) (yields_ld (ad := ⟨g1, 44, none⟩) (by rfl) _ rfl rfl (fun w' h => S6.ld26 (BoxP.cells h HAD.out).o)) (by exact ck) ?_
  try simp only [Act.put, sA, s0, s1]
  refine wpAnyU_take (i := 3) (v := ?_) (by simp only [gA, List.getElem?_cons_succ, List.getElem?_cons_zero]; rfl) (by kernel_rfl) (by kernel_rfl) (by kernel_rfl) (by decide) (by decide) (by unfold Un; kernel_rfl) (by exact fun _ _ _ h => h) (Or.inl ⟨by rfl, ?_⟩) (by exact ck) ?_
  rotate_left; focus (intro wq hSw; (try dsimp only at hSw); go_simp; all_goals (with_reducible rfl))
  try simp only [Act.put, sA, s0, s1]
  refine wpAnyU_take (i := 4) (by simp only [gA, List.getElem?_cons_succ, List.getElem?_cons_zero]; rfl) (by kernel_rfl) (by kernel_rfl) (by kernel_rfl) (by decide) (by decide) (by unfold Un; kernel_rfl) (by exact fun _ _ _ h => h) (yields_ld (ad := ⟨g1, 45, none⟩) (by rfl) _ rfl rfl (fun w' h => S6.ld26 (BoxP.cells h HAD.out).d)) (by exact ck) ?_
  try simp only [Act.put, sA, s0, s1]
  refine wpAnyU_ready (rs := [2]) (by kernel_rfl) (by simp) ?_
  refine ReadyU.cons (by simp only [gA, List.getElem?_cons_succ, List.getElem?_cons_zero]; rfl) (fun K hK => ?_) ReadyU.nil
  go_simp
  refine (KO.out _ HA1.out.drew).mono ?_
  rintro E y1 ⟨v1, rfl, ho1, hn1, ha1⟩
  have HO1 := Lib.hid ho1
  have HB2y := Lib.hid (HB2.out.on ((Away.refl [] w2).drew.next ha1 (by simp)))
  have HAy := Lib.hid (HA1.out.drew.next ha1 (by simp))
  have hsy : w2.heap.size ≤ y1.heap.size := ha1.size
  have hlt1 := ho1.lt
  replace ck := BoxP.on ck ha1
  clear ho1 ha1
  obtain ⟨a3, n3, k3, rfl⟩ := HO1.out.shp
  go_wp2_with fail
  refine hK.out _ _ (fun _ => ck) ?_
  clear hK K
  try simp only [Act.put, sA, s0, s1]
  refine wpAnyU_take (i := 6) (v := ?_) (by simp only [gA, List.getElem?_cons_succ, List.getElem?_cons_zero]; rfl) (by kernel_rfl) (by kernel_rfl) (by kernel_rfl) (by decide) (by decide) (by unfold Un; kernel_rfl) (by exact fun _ _ _ h => h) (Or.inl ⟨by rfl, ?_⟩) (by exact ck) ?_
  rotate_left; focus (intro wq hSw; (try dsimp only at hSw); go_simp; all_goals (with_reducible rfl))
  try simp only [Act.put, sA, s0, s1]
  refine wpAnyU_ready (rs := [5]) (by kernel_rfl) (by simp) ?_
  refine ReadyU.cons (by simp only [gA, List.getElem?_cons_succ, List.getElem?_cons_zero]; rfl) (fun K hK => ?_) ReadyU.nil
  go_simp
  refine (KD.out _ HAy.out).mono ?_
  rintro E y2 ⟨v2, rfl, ho2, hn2, ha2⟩
  have HO2 := Lib.hid ho2
  replace HO1 := Lib.hid (HO1.out.on ha2)
  replace HB2y := Lib.hid (HB2y.out.on ha2)
  replace HAy := Lib.hid (HAy.out.next ha2 (by simp))
  have hsz : y1.heap.size ≤ y2.heap.size := ha2.size
  replace ck := BoxP.on ck ha2
  clear ho2 ha2
  obtain ⟨a5, n5, k5, rfl⟩ := HO2.out.shp
  go_wp2_with fail
  refine hK.out _ _ (fun _ => ck) ?_
  clear hK K
  try simp only [Act.put, sA, s0, s1]
  refine wpAnyU_ready (rs := [7]) (by kernel_rfl) (by simp) ?_
  refine ReadyU.cons (by simp only [gA, List.getElem?_cons_succ, List.getElem?_cons_zero]; rfl) (fun K hK => ?_) ReadyU.nil
  refine step_store26 rfl 9 5 rfl g1 44 rfl a3 n3 k3 rfl _ (by exact (ck.cells HAD.out).o) (by exact ck.free 44) ?_
  refine hK.out _ _ (by intro h; simp [Un] at h) ?_
  clear hK K
  try simp only [Act.put]
  have CK3 := Lib.hid (ck.put 44 (.slice a3 n3 k3) ((csP_set HAD.out _ _).2.2.2.2.2.2.2.2.2.2.2.2.1 p.o (.slice a3 n3 k3)))
  have hA3 := away_put (w := y2) (g := g1) 44 (.slice a3 n3 k3)
  refine wpAnyU_ready (rs := [8]) (by kernel_rfl) (by simp) ?_
  refine ReadyU.cons (by simp only [gA, List.getElem?_cons_succ, List.getElem?_cons_zero]; rfl) (fun K hK => ?_) ReadyU.nil
  go_simp
  refine hK.out _ _ (by intro h; simp [Un] at h) ?_
  clear hK K
  try simp only [Act.put]
  refine wpAnyU_ready (rs := [9]) (by kernel_rfl) (by simp) ?_
  refine ReadyU.cons (by simp only [gA, List.getElem?_cons_succ, List.getElem?_cons_zero]; rfl) (fun K hK => ?_) ReadyU.nil
  refine step_store26 rfl 10 8 rfl g1 45 rfl a5 n5 k5 rfl _ (by exact (CK3.out.cells HAD.out).d) (by exact CK3.out.free 45) ?_
  refine hK.out _ _ (by intro h; simp [Un] at h) ?_
  clear hK K
  try simp only [Act.put]
  refine wpAnyU_done (by kernel_rfl) ?_ _
  have hA4 := away_put (w := y2.setCell ⟨g1, 44, none⟩ (.slice a3 n3 k3)) (g := g1) 45 (.slice a5 n5 k5)
  have HB6 := Lib.hid (CK3.out.put 45 (.slice a5 n5 k5) ((csP_set (p := { p with o := p.o }) HAD.out _ _).2.2.2.2.2.2.2.2.2.2.2.2.2 p.d (.slice a5 n5 k5)))
  have hA := hA3.trans hA4
  have hv3 : ∀ k, (Value.slice a3 n3 k3).ownBlock = some k → k ≠ g1 ∧ k ≠ g2 ∧ w.heap.size ≤ k ∧ k < y1.heap.size := fun k hk => by
    have h1 := hn1 k hk
    have h2 := hlt1 k hk
    have h3 : w2.heap.size ≤ k := h1
    exact ⟨by omega, by omega, by omega, h2⟩
  have hv5 : ∀ k, (Value.slice a5 n5 k5).ownBlock = some k → k ≠ g1 ∧ k ≠ g2 ∧ w.heap.size ≤ k ∧ y1.heap.size ≤ k := fun k hk => by
    have h1 := hn2 k hk
    exact ⟨by omega, by omega, by omega, h1⟩
  have HM := Lib.hid (show Mine _ w.heap.size p (.slice a3 n3 k3) (.slice a5 n5 k5) from ⟨HO1.out.away hA (fun k hk => by simpa using (hv3 k hk).1), HO2.out.away hA (fun k hk => by simpa using (hv5 k hk).1), fun k hk => (hv3 k hk).2.2.1, fun k hk => (hv5 k hk).2.2.1, fun k hk e => by
    have h1 := (hv3 k hk).2.2.2; have h2 := (hv5 k e).2.2.2; omega⟩)
  have HB7 := Lib.hid (HB2y.out.away hA (by simp; omega))
  have HA7 := Lib.hid (HAy.out.next hA (fun x hx => .inr (by simp at hx; omega)))
  have HV := Lib.hid (show ∀ k, (Value.slice a3 n3 k3).ownBlock = some k ∨ (Value.slice a5 n5 k5).ownBlock = some k → k ≠ g2 from fun k hk => by
    rcases hk with hk | hk
    · exact (hv3 k hk).2.1
    · exact (hv5 k hk).2.1)
  have HV1 := Lib.hid (show ∀ k, (Value.slice a3 n3 k3).ownBlock = some k ∨ (Value.slice a5 n5 k5).ownBlock = some k → k ≠ g1 from fun k hk => by
    rcases hk with hk | hk
    · exact (hv3 k hk).1
    · exact (hv5 k hk).1)
  have hz7 : w.heap.size ≤ g2 := by omega
  clear hA hA3 hA4 CK3 ck HO1 HO2 HB2y HAy hv3 hv5 hn1 hn2 hlt1 hsy hsz
  generalize (y2.setCell ⟨g1, 44, none⟩ (.slice a3 n3 k3)).setCell ⟨g1, 45, none⟩ (.slice a5 n5 k5) = w6 at *
  have cv := (HB6.out.cells HAD.out).v
  by_cases h6 : p.v = 6
  · have HDG : Hid (dgP p = { p with frag := false, id := 0 }) := by show _ = _; unfold dgP; rw [if_pos h6]
    rw [h6] at cv
    clear h6
    have c42 := (HB6.out.cells HAD.out).frag
    have c39 := (HB6.out.cells HAD.out).id
    have f42 := HB6.out.free 42
    have f39 := HB6.out.free 39
    have HBZ : Hid (BoxP ((w6.setCell ⟨g1, 42, none⟩ (.bool false)).setCell ⟨g1, 39, none⟩ (.int .u32 0)) g1 { p with frag := false, id := 0 } (.slice a3 n3 k3) (.slice a5 n5 k5)) :=
      (HB6.out.put 42 (.bool false) ((csP_set HAD.out _ _).2.2.2.2.2.2.2.2.2.2.1 false)).put 39 (.int .u32 0) ((csP_set (p := { p with frag := false }) HAD.out _ _).2.2.2.2.2.2.2.1 0)
    have hA8 : Away [g1] w6 ((w6.setCell ⟨g1, 42, none⟩ (.bool false)).setCell ⟨g1, 39, none⟩ (.int .u32 0)) := (away_put (w := w6) (g := g1) 42 _).trans (away_put (g := g1) 39 _)
    go_upto_region 4 with fail
    obtain ⟨w8, hw8⟩ : ∃ z, z = (w6.setCell ⟨g1, 42, none⟩ (.bool false)).setCell ⟨g1, 39, none⟩ (.int .u32 0) := ⟨_, rfl⟩
    rw [← hw8] at HBZ hA8 ⊢
    replace HB6 := HBZ
    have HAD2 : Hid (Ad { p with frag := false, id := 0 }) := HAD.out
    replace HB7 := Lib.hid (HB7.out.away hA8 (by simp; omega))
    replace HA7 : Hid (Away [] w w8) := HA7.out.next hA8 (fun x hx => .inr (by simp at hx; omega))
    replace HM := Lib.hid (HM.out.away hA8 (fun k hk => by simpa using HV1.out k hk))
    clear hA8 hw8 HBZ c42 c39 f42 f39 cv
    go_wp2_with (first
      | (refine wpList_load28 rfl _ rfl _ rfl { p with frag := false, id := 0 } _ _ (by exact HB6.out) HAD2.out ?_)
      | (refine wpList_store28 rfl _ _ rfl _ rfl { p with frag := false, id := 0 } (.slice a3 n3 k3) (.slice a5 n5 k5) rfl zeroPk (.slice none 0 0) (.slice none 0 0) (by exact HB7.out) HAD2.out ⟨rfl, rfl⟩ rfl rfl ?_; refine Hid.out ?_))
    refine Lib.hid ?_
    intro w7 hb7 haw7
    have HB8 := Lib.hid hb7
    have HA8 : Hid (Away [] w w7) := HA7.out.next haw7 (fun x hx => .inr (by simp at hx; omega))
    have HM8 : Hid (Mine w7 w.heap.size { p with frag := false, id := 0 } (.slice a3 n3 k3) (.slice a5 n5 k5)) := by have h1 := HM.out.away haw7 (fun k hk => by simpa using HV.out k hk); exact ⟨h1.o, h1.d, h1.no, h1.nd, h1.ap⟩
    clear hb7 haw7
    go_wp2_with fail
    exact bodyPost_ret (result28 rfl _ _ _ _ _ _ rfl HB8.out HAD2.out) rfl ⟨_, _, by rw [HDG.out], by rw [HDG.out]; exact HM8.out, HA8.out⟩
  · have HDG : Hid (dgP p = p) := by show _ = _; unfold dgP; rw [if_neg h6]
    have h6b : (p.v == 6) = false := by simpa using h6
    have HAD2 := HAD
    go_wp2_with (first
      | (refine wpList_load28 rfl _ rfl _ rfl p _ _ (by exact HB6.out) HAD2.out ?_)
      | (refine wpList_store28 rfl _ _ rfl _ rfl p (.slice a3 n3 k3) (.slice a5 n5 k5) rfl zeroPk (.slice none 0 0) (.slice none 0 0) (by exact HB7.out) HAD2.out ⟨rfl, rfl⟩ rfl rfl ?_; refine Hid.out ?_))
    refine Lib.hid ?_
    intro w7 hb7 haw7
    have HB8 := Lib.hid hb7
    have HA8 : Hid (Away [] w w7) := HA7.out.next haw7 (fun x hx => .inr (by simp at hx; omega))
    have HM8 : Hid (Mine w7 w.heap.size p (.slice a3 n3 k3) (.slice a5 n5 k5)) := by have h1 := HM.out.away haw7 (fun k hk => by simpa using HV.out k hk); exact ⟨h1.o, h1.d, h1.no, h1.nd, h1.ap⟩
    clear hb7 haw7
    go_wp2_with fail
    exact bodyPost_ret (result28 rfl _ _ _ _ _ _ rfl HB8.out HAD2.out) rfl ⟨_, _, by rw [HDG.out], by rw [HDG.out]; exact HM8.out, HA8.out⟩
end Go.Proofs.YtkccpidgeecemaaGreatDoor
