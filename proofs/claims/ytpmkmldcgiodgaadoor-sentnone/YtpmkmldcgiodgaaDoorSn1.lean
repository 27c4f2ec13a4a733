/-
  Of package sent: lengthOf, shows; bytes.HasPrefix.
-/
import Derived.Test.YtpmkmldcgiodgaaDoorDDel
import Derived.Test.YtpmkmldcgiodgaaDoorEqb
namespace Go.Proofs.YtpmkmldcgiodgaaDoor
open Go.ChangeShapes Go.WideShapes Go.ChangeAt Go.RowKit
open S6 (wp_region_cls quiet_val quiet_call quiet_ld ld3 ld4 ld5 ld25 ld26 load28_run load24m_run)
set_option linter.unusedVariables false
set_option linter.unusedSimpArgs false
set_option maxRecDepth 100000

/-- How long an uncut packet is; nought: it is none. -/
def lenQ (p : Pk) : Int := if headP p + S6.headP p = 0 ∨ p.off ≠ 0 ∨ p.more = true ∨ p.frag = true then 0 else headP p + S6.headP p + p.d.length
theorem head_bd (p : Pk) : headP p = 0 ∨ (20 ≤ headP p ∧ headP p ≤ 60) := by
  unfold headP
  split
  · rename_i h
    have := valid_len ((right_iff p).1 h).2
    omega
  · exact .inl rfl
theorem head6_bd (p : Pk) : S6.headP p = 0 ∨ (40 ≤ S6.headP p ∧ S6.headP p ≤ 48) := by
  unfold S6.headP S6.hofP
  split
  · split <;> simp
  · exact .inl rfl
theorem Pkt.six {w : World} {p : Pk} {ov dv : Value} (h : Pkt w p ov dv) : S6.Pkt w p ov dv := ⟨h.wf, h.o, h.d⟩
set_option maxHeartbeats 4000000 in
theorem length_c (p : Pk) (ov dv : Value) (w : World) (hp : Pkt w p ov dv) (hg : Glob w) :
    Calls Tryd.prog 23 #[.agg (csP p ov dv)] w fun E w' => E = .returned (.int .i64 (lenQ p)) ∧ Away [] w w' := by
  have ha := hp.wf.ad
  have hdn := hp.wf.dn
  have b4 := head_bd p; have b6 := head6_bd p
  obtain ⟨z, hz⟩ : ∃ z, z = lenQ p := ⟨_, rfl⟩
  rw [← hz]
  unfold lenQ at hz
  obtain ⟨h4, e4⟩ : ∃ z, z = headP p := ⟨_, rfl⟩
  obtain ⟨h6, e6⟩ : ∃ z, z = S6.headP p := ⟨_, rfl⟩
  have K4' : ∀ w', Away [] w w' → Calls Tryd.prog 33 #[.agg (csP p ov dv)] w' fun E w'' => E = .returned (.int .i64 (headP p)) ∧ Away [] w' w'' := fun w' h => head_c p ov dv w' (hp.on h) (hg.on h)
  have K6' : ∀ w', Away [] w w' → Calls Tryd.prog 34 #[.agg (csP p ov dv)] w' fun E w'' => E = .returned (.int .i64 (S6.headP p)) ∧ Away [] w' w'' := fun w' h => S6.head_c p ov dv w' (hp.on h).six
  rw [← e4] at b4 K4' hz
  rw [← e6] at b6 K6' hz
  obtain ⟨hwf, ho, ⟨ad, capd, rfl, q1, q2, q3⟩⟩ := hp
  clear hwf ho q1 q2 q3 hg e4 e6
  have HZ := Lib.hid hz
  have HAD := Lib.hid ha
  have HK4 := Lib.hid K4'
  have HK6 := Lib.hid K6'
  clear hz ha K4' K6'
  have ew : IntKind.i64.wrap (h4 + h6) = h4 + h6 := by rw [IntKind.wrap_i64]; omega
  have ew2 : IntKind.i64.wrap (h4 + h6 + (p.d.length : Int)) = h4 + h6 + (p.d.length : Int) := by rw [IntKind.wrap_i64]; omega
  go_enter Tryd.func23, Tryd.ntmps23
  go_wp2_with (refine wpList_box28 rfl _ rfl p _ _ rfl ?_; refine Hid.out ?_)
  refine Lib.hid ?_
  intro g w1 hg hb haw
  have HC0 : Hid (Away [] w w1.drew ∧ BoxP w1.drew g p ov (.slice ad p.d.length capd)) := ⟨haw.drew, hb⟩
  have K4 : Hid (∀ W, (Away [] w W ∧ BoxP W g p ov (.slice ad p.d.length capd)) → Calls Tryd.prog 33 #[.agg (csP p ov (.slice ad p.d.length capd))] W fun E w' => E = .returned (.int .i64 h4) ∧ (Away [] w w' ∧ BoxP w' g p ov (.slice ad p.d.length capd))) := fun W hW => (HK4.out W hW.1).mono (fun E w' h => ⟨h.1, hW.1.trans h.2, hW.2.on h.2⟩)
  have K6 : Hid (∀ W, (Away [] w W ∧ BoxP W g p ov (.slice ad p.d.length capd)) → Calls Tryd.prog 34 #[.agg (csP p ov (.slice ad p.d.length capd))] W fun E w' => E = .returned (.int .i64 h6) ∧ (Away [] w w' ∧ BoxP w' g p ov (.slice ad p.d.length capd))) := fun W hW => (HK6.out W hW.1).mono (fun E w' h => ⟨h.1, hW.1.trans h.2, hW.2.on h.2⟩)
  clear hb haw hg HK4 HK6
  go_wp2_with fail
  refine wp_region_cls (C := (fun w' => Away [] w w' ∧ BoxP w' g p ov (.slice ad p.d.length capd))) (by kernel_rfl) (by kernel_rfl) HC0.out ?_
  go_big_quiet_want; refine quiet_ld _ rfl (ad := ⟨g, 0, none⟩) rfl (fun w' h => load28_run h.2 HAD.out) ?_; go_simp; go_big_quiet_on
  go_big_quiet_want; refine quiet_call 33 #[.agg (csP p ov (.slice ad p.d.length capd))] (.int .i64 h4) ?_ K4.out ?_
  · intro w; go_simp; all_goals (with_reducible rfl)
  go_simp; go_big_quiet_on
  go_big_quiet_want; refine quiet_ld _ rfl (ad := ⟨g, 0, none⟩) rfl (fun w' h => load28_run h.2 HAD.out) ?_; go_simp; go_big_quiet_on
  go_big_quiet_want; refine quiet_call 34 #[.agg (csP p ov (.slice ad p.d.length capd))] (.int .i64 h6) ?_ K6.out ?_
  · intro w; go_simp; all_goals (with_reducible rfl)
  go_simp; go_big_quiet_on
  go_big_quiet_want; (refine quiet_val ?_ ?_ ?_; rotate_left; (intro w; go_simp; rfl); go_simp; go_big_quiet_on)
  go_big_quiet_want; (refine quiet_val ?_ ?_ ?_; rotate_left; (intro w; go_simp; rfl); go_simp; go_big_quiet_on)
  refine wpQuiet_nil ?_
  intro V hV
  have HA := Lib.hid hV.1
  have cc := hV.2.cells HAD.out
  have c43 := cc.off; have c41 := cc.more; have c42 := cc.frag; have c45 := cc.d
  clear hV cc HC0 K4 K6
  by_cases h0 : h4 + h6 = 0
  · have e0 : decide (h4 + h6 = 0) = true := by simpa using h0
    have e0b : (h4 + h6 == 0) = true := by simpa using h0
    have HR : Hid (z = 0) := by show _ = _; rw [HZ.out, if_pos (.inl h0)]
    clear HZ h0
    obtain rfl := HR.out
    go_wp2_with fail
    go_ret
    exact ⟨rfl, HA.out⟩
  · have e0 : decide (h4 + h6 = 0) = false := by simpa using h0
    have e0b : (h4 + h6 == 0) = false := by simpa using h0
    by_cases h1 : p.off = 0
    · rw [h1] at c43
      cases hm : p.more with
      | true =>
        have HR : Hid (z = 0) := by show _ = _; rw [HZ.out, if_pos (.inr (.inr (.inl hm)))]
        rw [hm] at c41
        clear HZ h0 h1 hm
        obtain rfl := HR.out
        go_wp2_with fail
        go_ret
        exact ⟨rfl, HA.out⟩
      | false =>
        rw [hm] at c41
        cases hf : p.frag with
        | true =>
          have HR : Hid (z = 0) := by show _ = _; rw [HZ.out, if_pos (.inr (.inr (.inr hf)))]
          rw [hf] at c42
          clear HZ h0 h1 hm hf
          obtain rfl := HR.out
          go_wp2_with fail
          go_ret
          exact ⟨rfl, HA.out⟩
        | false =>
          have HR : Hid (z = h4 + h6 + (p.d.length : Int)) := by show _ = _; rw [HZ.out, if_neg (by simp [h0, h1, hm, hf])]
          rw [hf] at c42
          clear HZ h0 h1 hm hf
          go_wp2_with fail
          go_ret
          exact ⟨ret_int HR.out.symm, HA.out⟩
    · have e1 : decide (p.off = 0) = false := by simpa using h1
      have e1b : (p.off == 0) = false := by simpa using h1
      have e1c : (p.off != 0) = true := by simpa using h1
      have HR : Hid (z = 0) := by show _ = _; rw [HZ.out, if_pos (.inr (.inl h1))]
      clear HZ h0 h1
      obtain rfl := HR.out
      go_wp2_with fail
      go_ret
      exact ⟨rfl, HA.out⟩
/-- Does l begin with b? -/
def preB (b l : List Int) : Bool := decide (b.length ≤ l.length) && decide (l.take b.length = b)
theorem pre_c (a b : Option Addr) (l m : List Int) (n k cap cap' : Nat) (w : World) (hn : l.length = n) (hk : m.length = k) (hc : n ≤ cap) (ha : a = none → cap = 0) (hb : b = none → cap' = 0) (hr : Row w a l) (hs : Row w b m) :
    Calls Tryd.prog 35 #[.slice a n cap, .slice b k cap'] w fun E w' => E = .returned (.bool (preB m l)) ∧ w' = w := by
  have HZ : Hid (preB m l = (decide (k ≤ n) && decide (l.take k = m))) := by show _ = _; unfold preB; rw [hn, hk]
  obtain ⟨z, hz⟩ : ∃ z, z = preB m l := ⟨_, rfl⟩
  rw [← hz] at HZ ⊢
  clear hz
  by_cases h : k ≤ n
  · have h' : (k : Int) ≤ (n : Int) := by omega
    have s1 := slice_h a n cap k (k : Int) rfl (by omega)
    have K41 : Hid (Calls Tryd.prog 41 #[.slice a k cap, .slice b k cap'] w fun E w' => E = .returned (.bool (decide (l.take k = m))) ∧ w' = w) := bequal_any a b (l.take k) m k k cap cap' w (by rw [List.length_take, hn]; omega) hk ha hb (hr.head k) hs
    obtain ⟨y, hy⟩ : ∃ y, y = decide (l.take k = m) := ⟨_, rfl⟩
    rw [← hy] at HZ K41
    have HR : Hid (z = y) := by show _ = _; rw [HZ.out]; simp [h]
    clear hy hr hs ha hb hn hk HZ h hc
    go_enter Tryd.func35, Tryd.ntmps35
    go_wp2_with fail
    refine K41.out.mono ?_
    rintro E w2 ⟨rfl, rfl⟩
    clear K41
    go_wp2_with fail
    go_ret
    exact ⟨ret_bool HR.out.symm, rfl⟩
  · have h' : ¬ ((k : Int) ≤ (n : Int)) := by omega
    have h2 : decide ((k : Int) ≤ (n : Int)) = false := by simpa using h'
    have h3 : decide (k ≤ n) = false := by simpa using h
    have h4 : n < k := by omega
    have HR : Hid (z = false) := by show _ = _; rw [HZ.out]; simp [h]
    clear hr hs ha hb hn hk HZ hc h'
    obtain rfl := HR.out
    go_enter Tryd.func35, Tryd.ntmps35
    go_wp2_with fail
    go_ret
    exact ⟨rfl, rfl⟩
open W
def showsP (d : Nt) (q : Pk) : Bool := decide (q.off = 0) && ((q.frag == d.f) && (keyB q d.k && preB d.b q.d))
def BoxD (w : World) (g : Nat) (x : Dd) : Prop := w.heap[g]? = some (.cells (csD x) 64 (0, 0))
theorem BoxD.away {S : List Nat} {w w' : World} {g : Nat} {x : Dd} (h : BoxD w g x) (hw : Away S w w') (hg : g ∉ S) : BoxD w' g x := hw.keep hg h
theorem BoxD.on {w w' : World} {g : Nat} {x : Dd} (h : BoxD w g x) (hw : Away [] w w') : BoxD w' g x := h.away hw (by simp)
theorem wpList_boxD {ops : Array Oper} {rest : List Oper} {o : Oper} {a : Act} {w : World} {Q : Exit → Act → World → Prop} (hg : o.guard = none) (x : Operand) (ho : o.op = .box 64 x)
    (d : Dd) (hx : a.eval x = .agg (csD d))
    (h : ∀ g w1, w.heap.size ≤ g → BoxD w1 g d → Away [] w w1 → wpList Tryd.prog ops Q rest (a.put o.dst (.pointer (some ⟨g, 0, none⟩))) w1) : wpList Tryd.prog ops Q (o :: rest) a w := by
  refine wpList_plain hg fun K hK => ?_
  unfold Oper.wp execOp
  simp only [ho, hx, Sem.run_bind, Instr.box, newVar, newRow, run_newObj_alloc, Sem.run_pure, Result.andThen_ok]
  exact hK _ _ (h w.heap.size _ (Nat.le_refl _) (block_new _ _) ((Away.refl [] w).alloc _))
theorem csD_get {x : Dd} (h : Okd x) : (csD x)[37]? = some (.bool x.t.f) ∧ (csD x)[38]? = some x.v ∧ (csD x)[39]? = some (.int .i64 x.t.n) := by
  have hl := listK_len h.1
  simp only [csD, listD, List.getElem?_toArray]
  refine ⟨?_, ?_, ?_⟩
  · rw [List.getElem?_append_right (by omega), hl]; rfl
  · rw [List.getElem?_append_right (by omega), hl]; rfl
  · rw [List.getElem?_append_right (by omega), hl]; rfl
theorem range_key {w : World} {b o : Nat} {x : Dd} (h : w.rangeAt b o (listD x)) (hx : Okd x) : w.rangeAt b o (listK x.t.k) := fun j v hj => h j v (by
  unfold listD
  rw [List.getElem?_append_left (lt_of_get hj), hj])
theorem BoxD.range {w : World} {g : Nat} {x : Dd} (h : BoxD w g x) : w.rangeAt g 0 (listD x) := fun j v hj => by
  rw [Nat.zero_add, cell_of_block h]
  simpa [csD] using hj
theorem load78m_run {w : World} {g k : Nat} {p : Pk} (hc : w.rangeAt g k (listK p)) (ha : Ad p) : (Instr.loadAt 61 (.pointer (some ⟨g, k, none⟩))).run Tryd.prog w = .ok (.agg (csK p)) w := by
  have := run_loadVar_mid (P := Tryd.prog) w g k 61 (listK p) _ hc Tryd.underlying61 rfl (by rw [listK_len ha]; exact info78)
  simp only [Instr.loadAt, Instr.sureAddr, Sem.run_bind, Sem.run_pure, Result.andThen]
  rw [this]; rfl
theorem quiet_eqb {o : Oper} {a : Act} {C : World → Prop} {K : Act → Prop} (x y : Operand) (ho : o.op = .binOp .eql 4 x y 4) (b1 b2 : Bool) (hx : a.eval x = .bool b1) (hy : a.eval y = .bool b2) (hk : K (a.put o.dst (.bool (b1 == b2)))) : o.quiet Tryd.prog a C K :=
  S6.quiet_val _ (fun w => by
    unfold execOp
    simp only [ho, hx, hy]
    simp [go_sem]) hk
set_option maxHeartbeats 8000000 in
theorem shows_c (x : Dd) (q : Pk) (ov dv : Value) (w : World) (hx : Okd x) (hf : Sl w x.v x.t.b) (hq : Pkt w q ov dv) :
    Calls Tryd.prog 27 #[.agg (csD x), .agg (csP q ov dv)] w fun E w' => E = .returned (.bool (showsP x.t q)) ∧ Away [] w w' := by
  have HZ : Hid (showsP x.t q = (decide (q.off = 0) && ((q.frag == x.t.f) && (keyB q x.t.k && preB x.t.b q.d)))) := rfl
  obtain ⟨z, hz⟩ : ∃ z, z = showsP x.t q := ⟨_, rfl⟩
  rw [← hz] at HZ ⊢
  clear hz
  have HAD := Lib.hid hq.wf.ad
  have HX := Lib.hid hx
  have HKQ : Hid (∀ W, (Op.equalIn 10000 61 (.agg (csK q)) (.agg (csK x.t.k))).run Tryd.prog W = .ok (keyB q x.t.k) W) := fun W => eq78 q x.t.k hq.wf.ad hx.1 W
  obtain ⟨fa, fc, hfv, f1, f2, f3⟩ := hf
  obtain ⟨-, -, da, dc, rfl, d1, d2, d3⟩ := hq
  have HFV := Lib.hid hfv
  have HK35 : Hid (∀ W, Away [] w W → Calls Tryd.prog 35 #[.slice da q.d.length dc, .slice fa x.t.b.length fc] W fun E w' => E = .returned (.bool (preB x.t.b q.d)) ∧ w' = W) := fun W hW => pre_c da fa q.d x.t.b _ _ dc fc W rfl rfl d1 d2 f2 (d3.away hW (by simp)) (f3.away hW (by simp))
  clear hx hfv f1 f2 f3 d1 d2 d3
  generalize keyB q x.t.k = kb at *
  generalize preB x.t.b q.d = pb at *
  generalize x.t.b.length = bl at *
  generalize q.d.length = ql at *
  go_enter Tryd.func27, Tryd.ntmps27
  go_wp2_with (first | (refine wpList_boxD rfl _ rfl x rfl ?_; refine Hid.out ?_))
  refine Lib.hid ?_
  intro g2 w2 hg2 hb2 haw2
  have HB2 := Lib.hid hb2
  have HA2 := Lib.hid haw2
  clear hb2 haw2 hg2
  go_wp2_with (first | (refine wpList_box28 rfl _ rfl q _ _ rfl ?_; refine Hid.out ?_))
  refine Lib.hid ?_
  intro g3 w3 hg3 hb3 haw3
  have HC0 : Hid (Away [] w w3.drew ∧ BoxD w3.drew g2 x ∧ BoxP w3.drew g3 q ov (.slice da ql dc)) := ⟨(HA2.out.trans haw3).drew, HB2.out.on haw3.drew, hb3⟩
  clear hb3 haw3 hg3 HA2 HB2
  have K24 : Hid (∀ W, (Away [] w W ∧ BoxD W g2 x ∧ BoxP W g3 q ov (.slice da ql dc)) → Calls Tryd.prog 24 #[.agg (csP q ov (.slice da ql dc))] W fun E w' => E = .returned (.agg (csK q)) ∧ (Away [] w w' ∧ BoxD w' g2 x ∧ BoxP w' g3 q ov (.slice da ql dc))) := fun W hW => (key_c q ov _ W HAD.out).mono (fun E w' h => ⟨h.1, hW.1.trans h.2, hW.2.1.on h.2, hW.2.2.on h.2⟩)
  have K35 : Hid (∀ W, (Away [] w W ∧ BoxD W g2 x ∧ BoxP W g3 q ov (.slice da ql dc)) → Calls Tryd.prog 35 #[.slice da ql dc, .slice fa bl fc] W fun E w' => E = .returned (.bool pb) ∧ (Away [] w w' ∧ BoxD w' g2 x ∧ BoxP w' g3 q ov (.slice da ql dc))) := fun W hW => (HK35.out W hW.1).mono (fun E w' h => ⟨h.1, by rw [h.2]; exact hW⟩)
  clear HK35
  go_wp2_with fail
  by_cases h0 : q.off = 0
  · have e0 : decide (q.off = 0) = true := by simpa using h0
    have e0b : (q.off == 0) = true := by simpa using h0
    have HZ1 : Hid (z = ((q.frag == x.t.f) && (kb && pb))) := by show _ = _; rw [HZ.out, e0, Bool.true_and]
    clear HZ h0
    obtain ⟨fb, hfb⟩ : ∃ fb, fb = (q.frag == x.t.f) := ⟨_, rfl⟩
    rw [← hfb] at HZ1
    have HFB := Lib.hid hfb
    clear hfb
    cases fb
    · obtain rfl : z = false := by rw [HZ1.out]; rfl
      refine wp_region_cls (C := (fun w' => Away [] w w' ∧ BoxD w' g2 x ∧ BoxP w' g3 q ov (.slice da ql dc))) (by kernel_rfl) (by kernel_rfl) HC0.out ?_
      go_big_quiet_want; (refine quiet_val ?_ ?_ ?_; rotate_left; (intro w; go_simp; rfl); go_simp; go_big_quiet_on)
      go_big_quiet_want; refine quiet_ld _ rfl (ad := ⟨g3, 43, none⟩) rfl (fun w' h => ld3 (h.2.2.cells HAD.out).off) ?_; go_simp; go_big_quiet_on
      go_big_quiet_want; (refine quiet_val ?_ ?_ ?_; rotate_left; (intro w; go_simp; rfl); go_simp; go_big_quiet_on)
      go_big_quiet_want; (refine quiet_val ?_ ?_ ?_; rotate_left; (intro w; go_simp; rfl); go_simp; go_big_quiet_on)
      go_big_quiet_want; (refine quiet_val ?_ ?_ ?_; rotate_left; (intro w; go_simp; rfl); go_simp; go_big_quiet_on)
      go_big_quiet_want; refine quiet_ld _ rfl (ad := ⟨g3, 42, none⟩) rfl (fun w' h => ld4 (h.2.2.cells HAD.out).frag) ?_; go_simp; go_big_quiet_on
      go_big_quiet_want; (refine quiet_val ?_ ?_ ?_; rotate_left; (intro w; go_simp; rfl); go_simp; go_big_quiet_on)
      go_big_quiet_want; refine quiet_ld _ rfl (ad := ⟨g2, 37, none⟩) rfl (fun w' h => ld4 (by rw [cell_of_block h.2.1]; exact (csD_get HX.out).1)) ?_; go_simp; go_big_quiet_on
      go_big_quiet_want; refine quiet_eqb _ _ rfl q.frag x.t.f rfl rfl ?_; (rw [← HFB.out]); go_simp; go_big_quiet_on
      go_big_quiet_want; (refine quiet_val ?_ ?_ ?_; rotate_left; (intro w; go_simp; rfl); go_simp; go_big_quiet_on)
      go_big_quiet_want; (refine quiet_val ?_ ?_ ?_; rotate_left; (intro w; go_simp; rfl); go_simp; go_big_quiet_on)
      go_big_quiet_skip
      go_big_quiet_skip
      go_big_quiet_skip
      go_big_quiet_skip
      go_big_quiet_skip
      go_big_quiet_want; (refine quiet_val ?_ ?_ ?_; rotate_left; (intro w; go_simp; rfl); go_simp; go_big_quiet_on)
      go_big_quiet_want; (refine quiet_val ?_ ?_ ?_; rotate_left; (intro w; go_simp; rfl); go_simp; go_big_quiet_on)
      go_big_quiet_skip
      go_big_quiet_skip
      go_big_quiet_skip
      go_big_quiet_skip
      go_big_quiet_skip
      go_big_quiet_want; (refine quiet_val ?_ ?_ ?_; rotate_left; (intro w; go_simp; rfl); go_simp; go_big_quiet_on)
      go_big_quiet_want; (refine quiet_val ?_ ?_ ?_; rotate_left; (intro w; go_simp; rfl); go_simp; go_big_quiet_on)
      refine wpQuiet_nil ?_
      intro V hV
      have HA := Lib.hid hV.1
      clear hV
      go_wp2_with fail
      go_ret
      exact ⟨rfl, HA.out⟩
    · cases kb
      · obtain rfl : z = false := by rw [HZ1.out]; rfl
        refine wp_region_cls (C := (fun w' => Away [] w w' ∧ BoxD w' g2 x ∧ BoxP w' g3 q ov (.slice da ql dc))) (by kernel_rfl) (by kernel_rfl) HC0.out ?_
        go_big_quiet_want; (refine quiet_val ?_ ?_ ?_; rotate_left; (intro w; go_simp; rfl); go_simp; go_big_quiet_on)
        go_big_quiet_want; refine quiet_ld _ rfl (ad := ⟨g3, 43, none⟩) rfl (fun w' h => ld3 (h.2.2.cells HAD.out).off) ?_; go_simp; go_big_quiet_on
        go_big_quiet_want; (refine quiet_val ?_ ?_ ?_; rotate_left; (intro w; go_simp; rfl); go_simp; go_big_quiet_on)
        go_big_quiet_want; (refine quiet_val ?_ ?_ ?_; rotate_left; (intro w; go_simp; rfl); go_simp; go_big_quiet_on)
        go_big_quiet_want; (refine quiet_val ?_ ?_ ?_; rotate_left; (intro w; go_simp; rfl); go_simp; go_big_quiet_on)
        go_big_quiet_want; refine quiet_ld _ rfl (ad := ⟨g3, 42, none⟩) rfl (fun w' h => ld4 (h.2.2.cells HAD.out).frag) ?_; go_simp; go_big_quiet_on
        go_big_quiet_want; (refine quiet_val ?_ ?_ ?_; rotate_left; (intro w; go_simp; rfl); go_simp; go_big_quiet_on)
        go_big_quiet_want; refine quiet_ld _ rfl (ad := ⟨g2, 37, none⟩) rfl (fun w' h => ld4 (by rw [cell_of_block h.2.1]; exact (csD_get HX.out).1)) ?_; go_simp; go_big_quiet_on
        go_big_quiet_want; refine quiet_eqb _ _ rfl q.frag x.t.f rfl rfl ?_; (rw [← HFB.out]); go_simp; go_big_quiet_on
        go_big_quiet_want; (refine quiet_val ?_ ?_ ?_; rotate_left; (intro w; go_simp; rfl); go_simp; go_big_quiet_on)
        go_big_quiet_want; (refine quiet_val ?_ ?_ ?_; rotate_left; (intro w; go_simp; rfl); go_simp; go_big_quiet_on)
        go_big_quiet_want; refine quiet_ld _ rfl (ad := ⟨g3, 0, none⟩) rfl (fun w' h => load28_run h.2.2 HAD.out) ?_; go_simp; go_big_quiet_on
        go_big_quiet_want; refine quiet_call 24 #[.agg (csP q ov (.slice da ql dc))] (.agg (csK q)) ?_ K24.out ?_
        · intro w; go_simp; all_goals (with_reducible rfl)
        go_simp; go_big_quiet_on
        go_big_quiet_want; (refine quiet_val ?_ ?_ ?_; rotate_left; (intro w; go_simp; rfl); go_simp; go_big_quiet_on)
        go_big_quiet_want; refine quiet_ld _ rfl (ad := ⟨g2, 0, none⟩) rfl (fun w' h => load78m_run (range_key h.2.1.range HX.out) HX.out.1) ?_; go_simp; go_big_quiet_on
        go_big_quiet_want; refine quiet_eq78 _ _ rfl (csK q) (csK x.t.k) rfl rfl false HKQ.out ?_; go_simp; go_big_quiet_on
        go_big_quiet_want; (refine quiet_val ?_ ?_ ?_; rotate_left; (intro w; go_simp; rfl); go_simp; go_big_quiet_on)
        go_big_quiet_want; (refine quiet_val ?_ ?_ ?_; rotate_left; (intro w; go_simp; rfl); go_simp; go_big_quiet_on)
        go_big_quiet_skip
        go_big_quiet_skip
        go_big_quiet_skip
        go_big_quiet_skip
        go_big_quiet_skip
        go_big_quiet_want; (refine quiet_val ?_ ?_ ?_; rotate_left; (intro w; go_simp; rfl); go_simp; go_big_quiet_on)
        go_big_quiet_want; (refine quiet_val ?_ ?_ ?_; rotate_left; (intro w; go_simp; rfl); go_simp; go_big_quiet_on)
        refine wpQuiet_nil ?_
        intro V hV
        have HA := Lib.hid hV.1
        clear hV
        go_wp2_with fail
        go_ret
        exact ⟨rfl, HA.out⟩
      · obtain rfl : pb = z := by rw [HZ1.out]; rfl
        refine wp_region_cls (C := (fun w' => Away [] w w' ∧ BoxD w' g2 x ∧ BoxP w' g3 q ov (.slice da ql dc))) (by kernel_rfl) (by kernel_rfl) HC0.out ?_
        go_big_quiet_want; (refine quiet_val ?_ ?_ ?_; rotate_left; (intro w; go_simp; rfl); go_simp; go_big_quiet_on)
        go_big_quiet_want; refine quiet_ld _ rfl (ad := ⟨g3, 43, none⟩) rfl (fun w' h => ld3 (h.2.2.cells HAD.out).off) ?_; go_simp; go_big_quiet_on
        go_big_quiet_want; (refine quiet_val ?_ ?_ ?_; rotate_left; (intro w; go_simp; rfl); go_simp; go_big_quiet_on)
        go_big_quiet_want; (refine quiet_val ?_ ?_ ?_; rotate_left; (intro w; go_simp; rfl); go_simp; go_big_quiet_on)
        go_big_quiet_want; (refine quiet_val ?_ ?_ ?_; rotate_left; (intro w; go_simp; rfl); go_simp; go_big_quiet_on)
        go_big_quiet_want; refine quiet_ld _ rfl (ad := ⟨g3, 42, none⟩) rfl (fun w' h => ld4 (h.2.2.cells HAD.out).frag) ?_; go_simp; go_big_quiet_on
        go_big_quiet_want; (refine quiet_val ?_ ?_ ?_; rotate_left; (intro w; go_simp; rfl); go_simp; go_big_quiet_on)
        go_big_quiet_want; refine quiet_ld _ rfl (ad := ⟨g2, 37, none⟩) rfl (fun w' h => ld4 (by rw [cell_of_block h.2.1]; exact (csD_get HX.out).1)) ?_; go_simp; go_big_quiet_on
        go_big_quiet_want; refine quiet_eqb _ _ rfl q.frag x.t.f rfl rfl ?_; (rw [← HFB.out]); go_simp; go_big_quiet_on
        go_big_quiet_want; (refine quiet_val ?_ ?_ ?_; rotate_left; (intro w; go_simp; rfl); go_simp; go_big_quiet_on)
        go_big_quiet_want; (refine quiet_val ?_ ?_ ?_; rotate_left; (intro w; go_simp; rfl); go_simp; go_big_quiet_on)
        go_big_quiet_want; refine quiet_ld _ rfl (ad := ⟨g3, 0, none⟩) rfl (fun w' h => load28_run h.2.2 HAD.out) ?_; go_simp; go_big_quiet_on
        go_big_quiet_want; refine quiet_call 24 #[.agg (csP q ov (.slice da ql dc))] (.agg (csK q)) ?_ K24.out ?_
        · intro w; go_simp; all_goals (with_reducible rfl)
        go_simp; go_big_quiet_on
        go_big_quiet_want; (refine quiet_val ?_ ?_ ?_; rotate_left; (intro w; go_simp; rfl); go_simp; go_big_quiet_on)
        go_big_quiet_want; refine quiet_ld _ rfl (ad := ⟨g2, 0, none⟩) rfl (fun w' h => load78m_run (range_key h.2.1.range HX.out) HX.out.1) ?_; go_simp; go_big_quiet_on
        go_big_quiet_want; refine quiet_eq78 _ _ rfl (csK q) (csK x.t.k) rfl rfl true HKQ.out ?_; go_simp; go_big_quiet_on
        go_big_quiet_want; (refine quiet_val ?_ ?_ ?_; rotate_left; (intro w; go_simp; rfl); go_simp; go_big_quiet_on)
        go_big_quiet_want; (refine quiet_val ?_ ?_ ?_; rotate_left; (intro w; go_simp; rfl); go_simp; go_big_quiet_on)
        go_big_quiet_want; (refine quiet_val ?_ ?_ ?_; rotate_left; (intro w; go_simp; rfl); go_simp; go_big_quiet_on)
        go_big_quiet_want; refine quiet_ld _ rfl (ad := ⟨g3, 45, none⟩) rfl (fun w' h => ld26 (h.2.2.cells HAD.out).d) ?_; go_simp; go_big_quiet_on
        go_big_quiet_want; (refine quiet_val ?_ ?_ ?_; rotate_left; (intro w; go_simp; rfl); go_simp; go_big_quiet_on)
        go_big_quiet_want; refine quiet_ld _ rfl (ad := ⟨g2, 38, none⟩) rfl (fun w' h => ld26 (by rw [cell_of_block h.2.1, (csD_get HX.out).2.1, HFV.out])) ?_; go_simp; go_big_quiet_on
        go_big_quiet_want; refine quiet_call 35 #[.slice da ql dc, .slice fa bl fc] (.bool pb) ?_ K35.out ?_
        · intro w; go_simp; all_goals (with_reducible rfl)
        go_simp; go_big_quiet_on
        go_big_quiet_want; (refine quiet_val ?_ ?_ ?_; rotate_left; (intro w; go_simp; rfl); go_simp; go_big_quiet_on)
        go_big_quiet_want; (refine quiet_val ?_ ?_ ?_; rotate_left; (intro w; go_simp; rfl); go_simp; go_big_quiet_on)
        refine wpQuiet_nil ?_
        intro V hV
        have HA := Lib.hid hV.1
        clear hV
        go_wp2_with fail
        go_ret
        exact ⟨rfl, HA.out⟩
  · have e0 : decide (q.off = 0) = false := by simpa using h0
    have e0b : (q.off == 0) = false := by simpa using h0
    obtain rfl : z = false := by rw [HZ.out, e0]; rfl
    clear h0 HZ
    refine wp_region_cls (C := (fun w' => Away [] w w' ∧ BoxD w' g2 x ∧ BoxP w' g3 q ov (.slice da ql dc))) (by kernel_rfl) (by kernel_rfl) HC0.out ?_
    go_big_quiet_want; (refine quiet_val ?_ ?_ ?_; rotate_left; (intro w; go_simp; rfl); go_simp; go_big_quiet_on)
    go_big_quiet_want; refine quiet_ld _ rfl (ad := ⟨g3, 43, none⟩) rfl (fun w' h => ld3 (h.2.2.cells HAD.out).off) ?_; go_simp; go_big_quiet_on
    go_big_quiet_want; (refine quiet_val ?_ ?_ ?_; rotate_left; (intro w; go_simp; rfl); go_simp; go_big_quiet_on)
    go_big_quiet_want; (refine quiet_val ?_ ?_ ?_; rotate_left; (intro w; go_simp; rfl); go_simp; go_big_quiet_on)
    go_big_quiet_skip
    go_big_quiet_skip
    go_big_quiet_skip
    go_big_quiet_skip
    go_big_quiet_skip
    go_big_quiet_want; (refine quiet_val ?_ ?_ ?_; rotate_left; (intro w; go_simp; rfl); go_simp; go_big_quiet_on)
    go_big_quiet_want; (refine quiet_val ?_ ?_ ?_; rotate_left; (intro w; go_simp; rfl); go_simp; go_big_quiet_on)
    go_big_quiet_skip
    go_big_quiet_skip
    go_big_quiet_skip
    go_big_quiet_skip
    go_big_quiet_skip
    go_big_quiet_want; (refine quiet_val ?_ ?_ ?_; rotate_left; (intro w; go_simp; rfl); go_simp; go_big_quiet_on)
    go_big_quiet_want; (refine quiet_val ?_ ?_ ?_; rotate_left; (intro w; go_simp; rfl); go_simp; go_big_quiet_on)
    go_big_quiet_skip
    go_big_quiet_skip
    go_big_quiet_skip
    go_big_quiet_skip
    go_big_quiet_skip
    go_big_quiet_want; (refine quiet_val ?_ ?_ ?_; rotate_left; (intro w; go_simp; rfl); go_simp; go_big_quiet_on)
    go_big_quiet_want; (refine quiet_val ?_ ?_ ?_; rotate_left; (intro w; go_simp; rfl); go_simp; go_big_quiet_on)
    refine wpQuiet_nil ?_
    intro V hV
    have HA := Lib.hid hV.1
    clear hV
    go_wp2_with fail
    go_ret
    exact ⟨rfl, HA.out⟩
end Go.Proofs.YtpmkmldcgiodgaaDoor
