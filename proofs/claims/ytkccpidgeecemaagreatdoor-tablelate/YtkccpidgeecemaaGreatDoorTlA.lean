/-
  TableLate's state: a table of one key, and a list of packets that it does not touch.
-/
import Derived.Test.YtkccpidgeecemaaGreatDoorTmA
import Derived.Test.YtkccpidgeecemaaGreatDoorKop
import Derived.Test.YtkccpidgeecemaaGreatDoorTwB
import Derived.Test.YtkccpidgeecemaaGreatDoorTbC
import Derived.Test.YtkccpidgeecemaaGreatDoorJtB
import Derived.Test.YtkccpidgeecemaaGreatDoorTbA
namespace Go.Proofs.YtkccpidgeecemaaGreatDoor
open Go.ChangeShapes Go.WideShapes Go.ChangeAt Go.RowKit
open S6 (wp_region_cls quiet_val quiet_call quiet_ld ld3 ld4 ld5 ld25 ld26 load28_run load24m_run)
set_option linter.unusedVariables false
set_option linter.unusedSimpArgs false
set_option maxRecDepth 100000
/-! A step of a script in memory. -/
def csO (o : Oq) : Array Value := o.cells.toArray
def BoxO (w : World) (g : Nat) (o : Oq) : Prop := w.heap[g]? = some (.cells (csO o) 41 (0, 0))
theorem csO_one (o : Oq) (h1 : o.x.o.oneCell' = true) (h2 : o.x.d.oneCell' = true) : (csO o).all (·.oneCell') = true := by
  have h := csP_one o.x.p o.x.o o.x.d h1 h2
  rw [Array.all_eq_true_iff_forall_mem] at h ⊢
  intro x hx
  simp only [csO, Oq.cells, List.mem_toArray, List.mem_cons, List.mem_append, List.not_mem_nil, or_false] at hx
  rcases hx with rfl | rfl | rfl | rfl | rfl | hx | rfl
  all_goals first | rfl | exact h x (by simpa [csP] using hx)
theorem BoxO.k {w : World} {g : Nat} {o : Oq} (h : BoxO w g o) : w.cell? ⟨g, 0, none⟩ = some (.int .i64 o.k) := by rw [cell_of_block h]; rfl
theorem BoxO.t {w : World} {g : Nat} {o : Oq} (h : BoxO w g o) (ha : Ad o.x.p) : w.cell? ⟨g, 51, none⟩ = some (.int .i64 o.t) := by
  rw [cell_of_block h]
  simp only [csO, List.getElem?_toArray, Oq.cells]
  have hl := listP_len ha o.x.o o.x.d
  simp only [List.getElem?_cons_succ]
  rw [List.getElem?_append_right (by omega), hl]
  rfl
theorem BoxO.row {w : World} {g : Nat} {o : Oq} (h : BoxO w g o) : w.rangeAt g 5 (listP o.x.p o.x.o o.x.d) := fun j v hj => by
  rw [cell_of_block h]
  simp only [csO, List.getElem?_toArray, Oq.cells]
  rw [show 5 + j = j + 1 + 1 + 1 + 1 + 1 from by omega]
  simp only [List.getElem?_cons_succ]
  rw [List.getElem?_append_left (List.getElem?_eq_some_iff.1 hj).1]
  exact hj
theorem BoxO.on {w w' : World} {g : Nat} {o : Oq} (h : BoxO w g o) (hw : Away [] w w') : BoxO w' g o := hw.keep (by simp) h
theorem BoxO.lt {w : World} {g : Nat} {o : Oq} (h : BoxO w g o) : g < w.heap.size := lt_of_block h
/-! A quota's variable. -/
def BoxQ (w : World) (g : Nat) (q : Qo) : Prop := w.heap[g]? = some (.cells #[.int .i64 q.e, .int .i64 q.b, .int .i64 q.h, .int .i64 q.t] 23 (0, 0))
theorem info23 : (Tryz.prog.info? 23).map (·.size) = some 4 := by kernel_rfl
theorem q_one (q : Qo) : (#[Value.int IntKind.i64 q.e, Value.int IntKind.i64 q.b, Value.int IntKind.i64 q.h, Value.int IntKind.i64 q.t] : Array Value).all (·.oneCell') = true := by
  rw [Array.all_eq_true_iff_forall_mem]
  intro x hx
  simp only [List.mem_toArray, List.mem_cons, List.not_mem_nil, or_false] at hx
  rcases hx with rfl | rfl | rfl | rfl <;> rfl
theorem wpList_load23 {ops : Array Oper} {rest : List Oper} {o : Oper} {a : Act} {w : World} {Q : Exit → Act → World → Prop} (hw : Region.wanted o (yielded ops a.tmps) = true) (x : Operand) (ho : o.op = .load 23 x)
    (g : Nat) (hx : a.eval x = .pointer (some ⟨g, 0, none⟩)) (q : Qo) (hb : BoxQ w g q) (h : wpList Tryz.prog ops Q rest (a.put o.dst (valQ q)) w) : wpList Tryz.prog ops Q (o :: rest) a w :=
  BigFrame.wpList_want hw fun KK hK => wp_load_row 23 x ho g hx 23 _ (0, 0) _ hb Tryz.underlying23 rfl (by exact info23) (hK _ _ h)
theorem wpList_store23 {ops : Array Oper} {rest : List Oper} {o : Oper} {a : Act} {w : World} {Q : Exit → Act → World → Prop} (hw : Region.wanted o (yielded ops a.tmps) = true) (x y : Operand) (ho : o.op = .store 23 x y)
    (g : Nat) (hx : a.eval x = .pointer (some ⟨g, 0, none⟩)) (q : Qo) (hy : a.eval y = valQ q) (q' : Qo) (hb : BoxQ w g q')
    (h : ∀ w1, BoxQ w1 g q → Away [g] w w1 → wpList Tryz.prog ops Q rest (a.put o.dst undef) w1) : wpList Tryz.prog ops Q (o :: rest) a w :=
  BigFrame.wpList_want hw fun K hK => wp_store_row 23 x y ho g #[.int .i64 q.e, .int .i64 q.b, .int .i64 q.h, .int .i64 q.t] hx hy 23 _ hb (by exact info23) (by rfl) (q_one q) (hK _ _ (h _ (by
    unfold BoxQ at hb ⊢; simp [World.setRow, Array.getElem?_modify, hb]) ((Away.refl [g] w).setRow (.inl (by simp)) _)))
/-! Lists of int64 of the call's own. -/
def LJ (w : World) (v : Value) (l : List Int) : Prop := w.ownsRow 0 2 1 v l.length (l.map (Value.int .i64))
theorem LJ.away {S : List Nat} {w w' : World} {v : Value} {l : List Int} (h : LJ w v l) (hw : Away S w w') (ha : ∀ k, v.ownBlock = some k → k ∉ S) : LJ w' v l := by
  rcases h with ⟨h1, h2⟩
  refine ⟨h1, ?_⟩
  rcases h2 with ⟨rfl, h2⟩ | ⟨g, cap, cur, rfl, hg, hh, hr⟩
  · exact .inl ⟨rfl, h2⟩
  · exact .inr ⟨g, cap, cur, rfl, hg, hw.keep (ha g rfl) hh, hr⟩
theorem LJ.on {w w' : World} {v : Value} {l : List Int} (h : LJ w v l) (hw : Away [] w w') : LJ w' v l := h.away hw (by simp)
theorem LJ.nil (w : World) : LJ w (.slice none 0 0) [] := World.ownsRow_nil _ _ _ _
theorem LJ.lt {w : World} {v : Value} {l : List Int} (h : LJ w v l) : ∀ k, v.ownBlock = some k → k < w.heap.size := fun k hk => (World.ownsRow.lt h k hk).2
theorem LJ.sl {w : World} {v : Value} {l : List Int} (h : LJ w v l) : ∃ a cap, v = .slice a l.length cap ∧ ∀ (i : Nat) (x : Int), l[i]? = some x → ∃ g, a = some ⟨g, 0, none⟩ ∧ w.cell? ⟨g, i, none⟩ = some (.int .i64 x) := by
  have h0 := h
  rcases h.2 with ⟨rfl, h2⟩ | ⟨g, cap, cur, rfl, hg, hh, hn, -⟩
  · have : l = [] := by simpa using h2
    subst this
    exact ⟨none, 0, rfl, by simp⟩
  · refine ⟨_, cap, rfl, fun i x hx => ⟨g, rfl, ?_⟩⟩
    have hi : i < l.length := (List.getElem?_eq_some_iff.1 hx).1
    rw [World.ownsRow.cellAt h0 i (by simpa using hi)]
    simp [hx]
/-! Keys behind keys. -/
namespace K
end K
structure Wi (w0 w : World) (gt mb : Nat) (ov : Value) (q : Qo) (t : Int) (cs : List Cel) (kv bv : Value) (bk : List Cel) (F : List Nat) : Prop where
  tab : Tab w gt mb ov q t cs
  keep : Keep q t cs
  time : 0 ≤ t ∧ t ≤ 1099511627776
  new : ∀ z ∈ fpT gt mb ov cs, w0.heap.size ≤ z
  aw : Away [] w0 w
  kl : K.LstK w kv (bk.map (·.s.k))
  bl : LJ w bv (bk.map (·.s.tb))
  ka : ∀ x ∈ bk.map (·.s.k), Wf x
  kn : ∀ z, kv.ownBlock = some z → w0.heap.size ≤ z ∧ z ∉ fpT gt mb ov cs
  bn : ∀ z, bv.ownBlock = some z → w0.heap.size ≤ z ∧ z ∉ fpT gt mb ov cs
  kb : bk.Pairwise (fun a b => kyB a.s.k b.s.k = false)
  bk' : bk.length ≤ 64
  out : ∀ z ∈ F, z < w.heap.size ∧ w0.heap.size ≤ z ∧ z ∉ fpT gt mb ov cs ∧ kv.ownBlock ≠ some z ∧ bv.ownBlock ≠ some z
section
variable {w0 w w' : World} {gt mb : Nat} {ov : Value} {q : Qo} {t : Int} {cs bk : List Cel} {kv bv : Value} {F : List Nat}
theorem Wi.on (h : Wi w0 w gt mb ov q t cs kv bv bk F) (hw : Away [] w w') : Wi w0 w' gt mb ov q t cs kv bv bk F := ⟨h.tab.on hw, h.keep, h.time, h.new, h.aw.trans hw, h.kl.on hw, h.bl.on hw, h.ka, h.kn, h.bn, h.kb, h.bk', fun z hz => ⟨Nat.lt_of_lt_of_le (h.out z hz).1 hw.size, (h.out z hz).2⟩⟩
theorem Wi.add (h : Wi w0 w gt mb ov q t cs kv bv bk F) (hw : Away [] w w') {g : Nat} (hg : w.heap.size ≤ g) (hl : g < w'.heap.size) : Wi w0 w' gt mb ov q t cs kv bv bk (g :: F) :=
  have h1 := h.on hw
  ⟨h1.tab, h1.keep, h1.time, h1.new, h1.aw, h1.kl, h1.bl, h1.ka, h1.kn, h1.bn, h1.kb, h1.bk', fun z hz => by
    rcases List.mem_cons.1 hz with rfl | hz
    · exact ⟨hl, Nat.le_trans h.aw.size hg, fun hm => by have := h.tab.lt _ hm; omega, fun e => by have := h.kl.lt _ e; omega, fun e => by have := h.bl.lt _ e; omega⟩
    · exact h1.out z hz⟩
theorem Wi.ge (h : Wi w0 w gt mb ov q t cs kv bv bk F) : ∀ c ∈ cs, 0 ≤ c.s.h := fun c hc => (ey_h (h.tab.ent c hc)).1
theorem Wi.born (h : Wi w0 w gt mb ov q t cs kv bv bk F) : ∀ c ∈ cs, 0 ≤ c.s.tb ∧ c.s.tb ≤ t := fun c hc => ⟨(h.keep.tb c hc).1, (h.keep.tb c hc).2.1⟩
theorem Wi.call (h : Wi w0 w gt mb ov q t cs kv bv bk F) {now : Int} {ov' : Value} {cs' : List Cel} (ht : Tab w' gt mb ov' q now cs') (hk : Keep q now cs') (hn : 0 ≤ now ∧ now ≤ 1099511627776) (hf : ∀ z ∈ fpT gt mb ov' cs', z ∈ fpT gt mb ov cs ∨ w.heap.size ≤ z) (hw : Away (fpT gt mb ov cs) w w') :
    Wi w0 w' gt mb ov' q now cs' kv bv bk F :=
  ⟨ht, hk, hn, fun z hz => by
      rcases hf z hz with h1 | h1
      · exact h.new z h1
      · exact Nat.le_trans h.aw.size h1, h.aw.next hw (fun z hz => .inr (h.new z hz)), h.kl.away hw (fun z hz => (h.kn z hz).2), h.bl.away hw (fun z hz => (h.bn z hz).2), h.ka,
    fun z hz => ⟨(h.kn z hz).1, fun hm => by
      rcases hf z hm with h1 | h1
      · exact (h.kn z hz).2 h1
      · have := h.kl.lt z hz; omega⟩,
    fun z hz => ⟨(h.bn z hz).1, fun hm => by
      rcases hf z hm with h1 | h1
      · exact (h.bn z hz).2 h1
      · have := h.bl.lt z hz; omega⟩, h.kb, h.bk',
    fun z hz => ⟨Nat.lt_of_lt_of_le (h.out z hz).1 hw.size, (h.out z hz).2.1, fun hm => by
      rcases hf z hm with h1 | h1
      · exact (h.out z hz).2.2.1 h1
      · have := (h.out z hz).1; omega, (h.out z hz).2.2.2⟩⟩
theorem rq_of2 {q : Qo} (h : rightQ q = true) : 0 ≤ q.e ∧ 0 ≤ q.b ∧ 0 ≤ q.h ∧ 1 ≤ q.t ∧ q.e ≤ 64 ∧ q.h ≤ 8192 ∧ q.b ≤ 1048576 ∧ q.t ≤ 1099511627776 := by
  unfold rightQ at h
  simp only [Bool.and_eq_true, decide_eq_true_eq] at h
  omega
def WpR (w0 w : World) (gt mb : Nat) (q : Qo) (t now : Int) (kv bv : Value) (bk : List Cel) (F : List Nat) (p : Pk) (n : Int) (wn ln gn : Nat) (er : Int) : Prop :=
  (er = 1 ∧ (rgt2 p = false ∨ now < t ∨ 1099511627776 < now) ∧ n = 0 ∧ wn = 0 ∧ ln = 0 ∧ gn = 0 ∧ ∃ ov, Wi w0 w gt mb ov q t bk kv bv bk F) ∨
  (er = 0 ∧ (rgt2 p = true ∧ t ≤ now ∧ now ≤ 1099511627776) ∧ wn ≤ 1 ∧ ∃ ov cs, Wi w0 w gt mb ov q now cs kv bv bk F ∧ Leav q now bk p true cs)
section
variable {p : Pk} {now n er : Int} {wn ln gn : Nat}
theorem WpR.on (h : WpR w0 w gt mb q t now kv bv bk F p n wn ln gn er) (hw : Away [] w w') : WpR w0 w' gt mb q t now kv bv bk F p n wn ln gn er := by
  rcases h with ⟨h1, h2, h3, h4, h5, h6, ov, h7⟩ | ⟨h1, h2, h3, ov, cs, h7, h8⟩
  · exact .inl ⟨h1, h2, h3, h4, h5, h6, ov, h7.on hw⟩
  · exact .inr ⟨h1, h2, h3, ov, cs, h7.on hw, h8⟩
theorem WpR.add (h : WpR w0 w gt mb q t now kv bv bk F p n wn ln gn er) (hw : Away [] w w') {g : Nat} (hg : w.heap.size ≤ g) (hl : g < w'.heap.size) : WpR w0 w' gt mb q t now kv bv bk (g :: F) p n wn ln gn er := by
  rcases h with ⟨h1, h2, h3, h4, h5, h6, ov, h7⟩ | ⟨h1, h2, h3, ov, cs, h7, h8⟩
  · exact .inl ⟨h1, h2, h3, h4, h5, h6, ov, h7.add hw hg hl⟩
  · exact .inr ⟨h1, h2, h3, ov, cs, h7.add hw hg hl, h8⟩
end
def WputO (w0 w : World) (gt mb : Nat) (ov : Value) (q : Qo) (t now : Int) (kv bv : Value) (bk : List Cel) (F : List Nat) (p : Pk) (E : Ending) (w' : World) : Prop :=
  ∃ n wa wn wc la ln lc ga gn gc er, E = .returned (.tuple #[.agg (csTo n (.slice wa wn wc) (.slice la ln lc) (.slice ga gn gc)), .int .i64 er]) ∧ WpR w0 w' gt mb q t now kv bv bk F p n wn ln gn er ∧ Away (fpT gt mb ov bk) w w'
theorem Wi.put (h : Wi w0 w gt mb ov q t bk kv bv bk F) (hq : rightQ q = true) (hg : Glob w) (hN : 0 < w0.heap.size) {p : Pk} {po pd : Value} (hm : ∃ B, Mine w B p po pd ∧ ∀ z ∈ fpT gt mb ov bk, z < B) (hw : Wf p) (now : Int) :
    Calls Tryz.prog 10 #[.pointer (some ⟨gt, 0, none⟩), .agg (csP p po pd), .int .i64 now] w (WputO w0 w gt mb ov q t now kv bv bk F p) := by
  obtain ⟨B, hmi, hB⟩ := hm
  have hr := rq_of2 hq
  have hlen := h.keep.len
  have hin : PutIn w gt mb ov q t bk p po pd := ⟨h.tab, hg, hmi.pkt hw, ⟨fun _ k hk hm => by have h1 := (hmi.lto k (.inl hk)).2; have h2 := hB k hm; omega, fun _ k hk hm => by have h1 := (hmi.lto k (.inr hk)).2; have h2 := hB k hm; omega⟩, fun hm => by have := h.new 0 hm; omega, h.born, h.time, ⟨hr.1, hr.2.1⟩, by omega⟩
  refine (tput_c hin now).mono ?_
  rintro E w' (⟨hx, rfl, haw⟩ | ⟨⟨r1, r2, r3⟩, n', wv, lv, gv, ov', xs, ys, ks, cs', rfl, hcw, hcl, hgk, hgn, hys, htab', hres, hfp, haw⟩)
  · exact ⟨0, none, 0, 0, none, 0, 0, none, 0, 0, 1, rfl, .inl ⟨rfl, hx, rfl, rfl, rfl, rfl, ov, h.on haw⟩, haw.mono (by simp)⟩
  · have hnow : 0 ≤ now := by have := h.time; omega
    obtain ⟨hk, hf⟩ := h.keep.res h.ge ⟨hr.1, hr.2.1, hr.2.2.1, hr.2.2.2.1⟩ r2 hnow hres
    have hlv := leav_put h.keep hres hf
    have hxl : xs.length ≤ 1 := by have := res_len hres; rwa [List.length_map] at this
    have hyl : ys.length ≤ bk.length := by have h1 := told_len q now bk; rw [← hys, List.length_map] at h1; exact h1
    obtain ⟨a1, c1, rfl, -⟩ := hcw.pks (by omega)
    obtain ⟨a2, c2, rfl, -⟩ := hcl.pks (by omega)
    obtain ⟨a3, n3, c3, rfl⟩ := lstk_shp hgk
    exact ⟨n', a1, xs.length, c1, a2, ys.length, c2, a3, n3, c3, 0, rfl, .inr ⟨rfl, ⟨r1, r2, r3⟩, hxl, ov', cs', h.call htab' hk ⟨hnow, r3⟩ hfp haw, hlv⟩, haw⟩
def WtR (w0 w : World) (gt mb : Nat) (q : Qo) (t now : Int) (kv bv : Value) (bk : List Cel) (F : List Nat) (ln : Nat) (er : Int) : Prop :=
  (er = 1 ∧ (now < t ∨ 1099511627776 < now) ∧ ln = 0 ∧ ∃ ov, Wi w0 w gt mb ov q t bk kv bv bk F) ∨
  (er = 0 ∧ (t ≤ now ∧ now ≤ 1099511627776) ∧ ln ≤ bk.length ∧ ∃ ov cs, Wi w0 w gt mb ov q now cs kv bv bk F ∧ ∀ p, Leav q now bk p false cs)
theorem WtR.add {now er : Int} {ln : Nat} (h : WtR w0 w gt mb q t now kv bv bk F ln er) (hw : Away [] w w') {g : Nat} (hg : w.heap.size ≤ g) (hl : g < w'.heap.size) : WtR w0 w' gt mb q t now kv bv bk (g :: F) ln er := by
  rcases h with ⟨h1, h2, h3, ov, h7⟩ | ⟨h1, h2, h3, ov, cs, h7, h8⟩
  · exact .inl ⟨h1, h2, h3, ov, h7.add hw hg hl⟩
  · exact .inr ⟨h1, h2, h3, ov, cs, h7.add hw hg hl, h8⟩
end
end Go.Proofs.YtkccpidgeecemaaGreatDoor
namespace Go.Proofs.YtkccpidgeecemaaGreatDoor
open Go.ChangeShapes Go.WideShapes Go.ChangeAt Go.RowKit
set_option linter.unusedVariables false
set_option linter.unusedSimpArgs false
set_option maxRecDepth 100000
theorem wpList_alloc23 {ops : Array Oper} {rest : List Oper} {o : Oper} {a : Act} {w : World} {Q : Exit → Act → World → Prop} (hg : o.guard = none) (ho : o.op = .alloc 23)
    (h : ∀ g w1, w.heap.size ≤ g → BoxQ w1 g ⟨0, 0, 0, 0⟩ → Away [] w w1 → wpList Tryz.prog ops Q rest (a.put o.dst (.pointer (some ⟨g, 0, none⟩))) w1) : wpList Tryz.prog ops Q (o :: rest) a w := by
  have hz : (zeroValue 23).run Tryz.prog w = .ok (.agg #[.int .i64 0, .int .i64 0, .int .i64 0, .int .i64 0]) w := by kernel_rfl
  refine wpList_plain hg fun K hK => ?_
  unfold Oper.wp execOp
  simp only [ho, Instr.alloc, newVar, newRow, Sem.run_bind, hz, run_newObj_alloc, Sem.run_pure, Result.andThen_ok]
  exact hK _ _ (h w.heap.size _ (Nat.le_refl _) (block_new _ _) ((Away.refl [] w).alloc _))
structure Jq (wN : World) (gT C D : Nat) (v : Value) (xs : List X) (q : Qo) (T : T4) (t : Int) (a : Option Es) (w : World) : Prop where
  g : T.g = gT
  ts : Ts w wN.heap.size T q t a
  aw : Away [] wN w
  cu : Cuts w C v xs
  hi : (∀ k, v.ownBlock = some k → k < D) ∧ (∀ x ∈ xs, ∀ k, x.o.ownBlock = some k ∨ x.d.ownBlock = some k → k < D)
  sz : D ≤ w.heap.size
  ap : ∀ z ∈ T.fp, z < C ∨ D ≤ z
  pos : 0 < wN.heap.size
section
variable {wN w w' : World} {gT C D : Nat} {v : Value} {xs : List X} {q : Qo} {T : T4} {t now : Int} {a : Option Es}
theorem Jq.on (h : Jq wN gT C D v xs q T t a w) (hw : Away [] w w') : Jq wN gT C D v xs q T t a w' :=
  ⟨h.g, h.ts.on hw, h.aw.trans hw, h.cu.on hw, h.hi, Nat.le_trans h.sz hw.size, h.ap, h.pos⟩
theorem Jq.other (h : Jq wN gT C D v xs q T t a w) {g : Nat} (hw : Away [g] w w') (h1 : g ∉ T.fp) (h2 : wN.heap.size ≤ g) (h3 : D ≤ g) : Jq wN gT C D v xs q T t a w' :=
  ⟨h.g, h.ts.away hw (fun z hz e => by simp at e; rw [e] at hz; exact h1 hz), h.aw.next hw (fun z hz => .inr (by simp at hz; rw [hz]; exact h2)), h.cu.away3 hw h.hi.1 h.hi.2 (fun k hk => .inr (by simp at hk; rw [hk]; exact h3)), h.hi, Nat.le_trans h.sz hw.size, h.ap, h.pos⟩
theorem Jq.lt (h : Jq wN gT C D v xs q T t a w) : ∀ z ∈ T.fp, z < w.heap.size := h.ts.tab.lt
def JqO (wN : World) (gT C D : Nat) (v : Value) (xs : List X) (q : Qo) (T : T4) (w : World) (now : Int) (r : Int × List Pk × Option Es) (E : Ending) (w' : World) : Prop :=
  ∃ wa wc la lc ga gc nw T', E = .returned (.tuple #[.agg (csTo r.1 (.slice wa nw wc) (.slice la 0 lc) (.slice ga 0 gc)), .int .i64 0]) ∧ nw = r.2.1.length ∧
    Jq wN gT C D v xs q T' now r.2.2 w' ∧ (∀ z ∈ T'.fp, z ∈ T.fp ∨ w.heap.size ≤ z) ∧ Away T.fp w w'
theorem Jq.put (h : Jq wN gT C D v xs q T t a w) (hq : 2 ≤ q.e ∧ 131070 ≤ q.b ∧ q.h = 8192) (ht : 0 ≤ t ∧ t ≤ now ∧ now ≤ 1099511627776) (hl : ∀ s, a = some s → now - s.tb < q.t) (hg : Glob w) {p : Pk} {po pd : Value} (hk : Pkt w p po pd) (ho : p.o = []) (hd : ∀ k, pd.ownBlock = some k → k ∉ T.fp) (hr : rgt2 p = true)
    (ha : ∀ s, a = some s → kyB p s.k = true) :
    Calls Tryz.prog 10 #[.pointer (some ⟨gT, 0, none⟩), .agg (csP p po pd), .int .i64 now] w (JqO wN gT C D v xs q T w now (apQ now a p)) := by
  have h1 := h.ts.put (now := now) hq ht h.pos hg hk ho hd hr hl (fun s e _ => ha s e)
  rw [h.g] at h1
  refine h1.mono ?_
  rintro E w' ⟨wa, wc, la, lc, ga, gc, ys, T', rfl, hc, hm, hg', hts, hfp, haw⟩
  refine ⟨wa, wc, la, lc, ga, gc, ys.length, T', rfl, by rw [← hm, List.length_map], ⟨hg'.trans h.g, hts, h.aw.next haw (fun z hz => .inr (h.ts.new z hz)), h.cu.away3 haw h.hi.1 h.hi.2 h.ap, h.hi, Nat.le_trans h.sz haw.size, fun z hz => ?_, h.pos⟩, hfp, haw⟩
  rcases hfp z hz with h2 | h2
  · exact h.ap z h2
  · exact .inr (Nat.le_trans h.sz h2)
theorem Jq.young (h : Jq wN gT C D v xs q T t a w) (ht : 0 ≤ t ∧ t ≤ now ∧ now ≤ 1099511627776) (hy : ∀ s, a = some s → now - s.tb < q.t) :
    Calls Tryz.prog 15 #[.pointer (some ⟨gT, 0, none⟩), .int .i64 now] w fun E w' => ∃ la lc T', E = .returned (.tuple #[.agg (csTo 0 nilV (.slice la 0 lc) nilV), .int .i64 0]) ∧ Jq wN gT C D v xs q T' now a w' ∧ (∀ z ∈ T'.fp, z ∈ T.fp ∨ w.heap.size ≤ z) ∧ Away T.fp w w' := by
  have h1 := h.ts.tick (now := now) ht
  rw [h.g] at h1
  refine h1.mono ?_
  rintro E w' ⟨la, lc, ys, T', rfl, hc, hg', hor, hfp, haw⟩
  rcases hor with ⟨-, rfl, hts⟩ | ⟨⟨s, hs, hlate, -⟩, -⟩
  · refine ⟨la, lc, T', rfl, ⟨hg', hts, h.aw.next haw (fun z hz => .inr (h.ts.new z hz)), h.cu.away3 haw h.hi.1 h.hi.2 h.ap, h.hi, Nat.le_trans h.sz haw.size, fun z hz => ?_, h.pos⟩, hfp, haw⟩
    rcases hfp z hz with h2 | h2
    · exact h.ap z h2
    · exact .inr (Nat.le_trans h.sz h2)
  · have := hy s hs; omega
theorem Jq.old {s : Es} (h : Jq wN gT C D v xs q T t (some s) w) (ht : 0 ≤ t ∧ t ≤ now ∧ now ≤ 1099511627776) (hy : q.t ≤ now - s.tb) :
    Calls Tryz.prog 15 #[.pointer (some ⟨gT, 0, none⟩), .int .i64 now] w fun E w' => ∃ la lc ys T', E = .returned (.tuple #[.agg (csTo 0 nilV (.slice la ys.length lc) nilV), .int .i64 0]) ∧ Cuts w' w.heap.size (.slice la ys.length lc) ys ∧ ys.map X.p = (if (firstP s).2 = true then [(firstP s).1] else []) ∧ Jq wN gT C D v xs q T' now none w' ∧ (∀ z ∈ T'.fp, z ∈ T.fp ∨ w.heap.size ≤ z) ∧ Away T.fp w w' := by
  have h1 := h.ts.tick (now := now) ht
  rw [h.g] at h1
  refine h1.mono ?_
  rintro E w' ⟨la, lc, ys, T', rfl, hc, hg', hor, hfp, haw⟩
  rcases hor with ⟨hn, -, -⟩ | ⟨⟨s', hs, -, hm⟩, hts⟩
  · have := hn s rfl; omega
  · injection hs with hs
    subst hs
    refine ⟨la, lc, ys, T', rfl, hc, hm, ⟨hg', hts, h.aw.next haw (fun z hz => .inr (h.ts.new z hz)), h.cu.away3 haw h.hi.1 h.hi.2 h.ap, h.hi, Nat.le_trans h.sz haw.size, fun z hz => ?_, h.pos⟩, hfp, haw⟩
    rcases hfp z hz with h2 | h2
    · exact h.ap z h2
    · exact .inr (Nat.le_trans h.sz h2)
theorem Jq.keys (h : Jq wN gT C D v xs q T t a w) {n : Nat} (hn : n = a.toList.length) : Calls Tryz.prog 14 #[.pointer (some ⟨gT, 0, none⟩)] w fun E w' => ∃ ka kc, E = .returned (.slice ka n kc) ∧ Away [] w w' := by
  have hl : T.cs.length = n := by rw [hn]; exact h.ts.len
  have h1 := keys_c h.ts.tab
  rw [h.g] at h1
  refine h1.mono ?_
  rintro E w' ⟨v, rfl, hl2, -, haw⟩
  rcases hl2.shp with ⟨rfl, e⟩ | ⟨g, cap, rfl⟩
  · have e2 : T.cs.length = 0 := by rw [← List.length_map (f := fun c : Cel => c.s.k), e]; rfl
    exact ⟨none, 0, by rw [← hl, e2], haw⟩
  · exact ⟨_, cap, by rw [List.length_map, hl], haw⟩
theorem Jq.bytes (h : Jq wN gT C D v xs q T t none w) : Calls Tryz.prog 16 #[.pointer (some ⟨gT, 0, none⟩)] w fun E w' => E = .returned (.int .i64 0) ∧ Away [] w w' := by
  have hl : T.cs = [] := List.eq_nil_of_length_eq_zero h.ts.len
  have h1 := tbytes_c h.ts.tab
  rw [h.g, hl] at h1
  exact h1
theorem Jq.pois {s : Es} (h : Jq wN gT C D v xs q T t (some (poisS s)) w) (k : Pk) (hk : Wf k) (hky : kyB k s.k = true) : Calls Tryz.prog 23 #[.pointer (some ⟨gT, 0, none⟩), .agg (csK k)] w fun E w' => E = .returned (.bool true) ∧ Away [] w w' := by
  have h1 := tpois_c h.ts.tab k hk
  have hone := h.ts.one
  obtain ⟨c, hc, hcs⟩ : ∃ c, T.cs = [c] ∧ c.s = poisS s := by
    cases hcs : T.cs with
    | nil => rw [hcs] at hone; simp at hone
    | cons c r =>
      rw [hcs] at hone
      simp at hone
      obtain ⟨h2, h3⟩ := hone
      exact ⟨c, by rw [h3], h2⟩
  have e : poisOf T.cs k = true := by
    unfold poisOf
    rw [hc]
    have : kyB k c.s.k = true := by rw [hcs]; exact hky
    simp only [List.find?_cons, this]
    rw [hcs]; rfl
  rw [h.g, e] at h1
  exact h1
theorem new_q (w : World) (q : Qo) (hq : rightQ q = true) (N : Nat) (hN : N ≤ w.heap.size) : Calls Tryz.prog 9 #[valQ q] w fun E w' => ∃ T : T4, E = .returned (.tuple #[.pointer (some ⟨T.g, 0, none⟩), .int .i64 0]) ∧ Ts w' N T q 0 none ∧ (∀ z ∈ T.fp, w.heap.size ≤ z) ∧ Away [] w w' := by
  refine (tnew_c w q).mono ?_
  rintro E w' (⟨h1, -⟩ | ⟨-, gt, mb, rfl, htab, hgt, hmb, haw⟩)
  · rw [hq] at h1; simp at h1
  · have hf : ∀ z ∈ (⟨gt, mb, .slice none 0 0, []⟩ : T4).fp, w.heap.size ≤ z := fun z hz => by
      rcases mem_fpT.1 hz with rfl | rfl | h1 | ⟨c, hc, -⟩
      · exact hgt
      · exact hmb
      · simp [Value.ownBlock] at h1
      · simp at hc
    exact ⟨⟨gt, mb, .slice none 0 0, []⟩, rfl, ⟨htab, fun z hz => Nat.le_trans hN (hf z hz), rfl, by simp, by simp⟩, hf, haw⟩
theorem cuts_at {B : Nat} {b : Option Addr} {n c : Nat} (h : Cuts w B (.slice b n c) xs) (hl : xs.length ≤ 500000000000) {i : Nat} {x : X} (hx : xs[i]? = some x) :
    ∃ ob oo, b = some ⟨ob, oo, none⟩ ∧ w.rangeAt ob (oo + i * 46) (listP x.p x.o x.d) ∧ Pkt w x.p x.o x.d := by
  obtain ⟨a, c', e, h0, -, h1, h2⟩ := h.pks hl
  injection e with e1 e2 e3
  subst e1
  exact h1.at hx
end
end Go.Proofs.YtkccpidgeecemaaGreatDoor
