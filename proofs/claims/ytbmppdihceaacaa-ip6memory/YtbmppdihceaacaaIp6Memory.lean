/-
  Ip6Memory: nothing that is told is seen in another.
-/
import Derived.Test.YtbmppdihceaacaaAlive
import Derived.Test.YtbmppdihceaacaaTl
import Derived.Deep.RegionHeld3
import Derived.Deep.CondSized
import Derived.WalkMore
namespace Go.Proofs.Ytbmppdihceaacaa
open Go.ChangeShapes Go.WideShapes Go.ChangeAt Go.RowKit Go.Deep Num
set_option linter.unusedVariables false
set_option maxHeartbeats 40000000
set_option maxRecDepth 100000

theorem quiet_ix {o : Oper} {a : Act} {C : World → Prop} {K : Act → Prop} {gb off n cap : Nat} (x ix : Operand) (ho : o.op = .indexAddr 26 x ix) (i : Nat) (hx : a.eval x = .slice (some ⟨gb, off, none⟩) n cap) (hix : a.eval ix = .int .i64 (i : Int)) (hi : i < n) (hk : K (a.put o.dst (.pointer (some ⟨gb, off + i, none⟩)))) : o.quiet Try.prog a C K := by
  refine ⟨.pointer (some ⟨gb, off + i, none⟩), fun w hw => ?_, hk⟩
  have he : Try.prog.elem 26 = 5 := by kernel_rfl
  have hsz : (sizeOf 5).run Try.prog w = .ok 1 w := by kernel_rfl
  unfold Oper.quietAt execOp
  simp only [ho, hx, hix, Sem.run_bind]
  rw [run_indexAt_slice w 26 ⟨gb, off, none⟩ n cap .i64 (i : Int) under22, he, if_pos ⟨by omega, by omega⟩, hsz]
  simp only [Result.andThen, add_plain, Int.toNat_natCast, Nat.mul_one]
  exact ⟨rfl, rfl⟩

/-- What two appends did: a list that was made since w0. -/
theorem two_apps {w0 w1 w2 : World} {v1 v2 : Value} {c : Array Value} (h : Away [] w0 w1) (hn : New w0.heap.size v1) (ha : Away v1.ownBlock.toList (w1.alloc (.cells c 5)) w2) (hm : Moved (w1.alloc (.cells c 5)) v1 v2) : Away [] w0 w2 ∧ New w0.heap.size v2 := by
  have hs := h.size
  refine ⟨(h.alloc (.cells c 5)).next ha (fun x hx => .inr (hn x (by simpa using hx))), hn.moved hm (by simp; omega)⟩
/-- The first k bytes are greater by x. -/
def inc (x : Int) (k : Nat) (l : List Int) : List Int := (l.take k).map (fun b => (b + x) % 256) ++ l.drop k
theorem inc_zero (x : Int) (l : List Int) : inc x 0 l = l := by simp [inc]
theorem inc_len (x : Int) (k : Nat) (l : List Int) : (inc x k l).length = l.length := by simp [inc]; omega
theorem inc_bytes {x : Int} {k : Nat} {l : List Int} (h : Bytes l) : Bytes (inc x k l) := by
  refine Bytes.app (fun n hn => ?_) (h.drop k)
  obtain ⟨b, _, rfl⟩ := List.mem_map.1 hn
  omega
theorem inc_get {x : Int} {k : Nat} {l : List Int} (hk : k < l.length) : (inc x k l)[k]?.getD 0 = l[k]?.getD 0 := by
  unfold inc
  rw [List.getElem?_append_right (by simp; omega)]
  simp; congr 2; omega
theorem inc_step {x : Int} {k : Nat} {l : List Int} (hk : k < l.length) : (inc x k l).set k ((l[k]?.getD 0 + x) % 256) = inc x (k + 1) l := by
  unfold inc
  have hl : ((l.take k).map (fun b => (b + x) % 256)).length = k := by simp; omega
  rw [List.set_append_right _ _ (by omega), hl, Nat.sub_self, List.drop_eq_getElem_cons hk, List.set_cons_zero, List.take_succ_eq_append_getElem hk, List.map_append, List.getElem?_eq_getElem hk]
  simp
theorem inc_all {x : Int} {l : List Int} : inc x l.length l = l.map (fun b => (b + x) % 256) := by simp [inc]
theorem inc_at {x : Int} {l : List Int} {k : Nat} (hk : k < l.length) : (inc x l.length l)[k]?.getD 0 = (l[k]?.getD 0 + x) % 256 := by
  rw [inc_all, List.getElem?_map, List.getElem?_eq_getElem hk]; rfl
/-- The head hangs on the length of the data alone. -/
theorem lay_data (q : Pk) (d : List Int) (h : d.length = q.d.length) : lay6 { q with d := d } = headB q ++ d := by
  simp [lay6, headB, fixP, fragP, lenP, word, nextP, placeP, hofP, h]
theorem lay_self (q : Pk) : lay6 q = headB q ++ q.d := rfl
theorem right_data (q : Pk) (d : List Int) (h : d.length = q.d.length) (hr : rightP q = true) : rightP { q with d := d } = true := by
  rw [← hr]; unfold rightP hofP placedP octP bareP; simp [h]
theorem headB_ge (q : Pk) (hw : Wf q) : 40 ≤ (headB q).length := by rw [headB_len hw]; unfold hofP; split <;> omega
theorem perm8' : ∀ i, i < 8 → ∀ j, j < 8 → i ≠ j → ([0, 1, 2, 6, 3, 4, 5, 7] : List Nat)[i]?.getD i ≠ ([0, 1, 2, 6, 3, 4, 5, 7] : List Nat)[j]?.getD j := by decide
theorem perm8 (i j : Nat) (hi : i < 8) (hj : j < 8) : i ≠ j → ([0, 1, 2, 6, 3, 4, 5, 7] : List Nat)[i]?.getD i ≠ ([0, 1, 2, 6, 3, 4, 5, 7] : List Nat)[j]?.getD j := perm8' i hi j hj
/-- The world has not shrunk. -/
def Up (n : Nat) (w : World) : Prop := n ≤ w.heap.size
theorem Up.on {n : Nat} {S : List Nat} {w w' : World} (h : Up n w) (hw : Away S w w') : Up n w' := Nat.le_trans h hw.size
theorem part_sl {w : World} {g N c : Nat} {l m : List Int} (h : Owns w (.slice (some ⟨g, 0, none⟩) N c) (l ++ m)) (hl : Bytes l) (hm : Bytes m) (hn : l.length + m.length ≤ 140737488355328) (hc : l.length ≤ c) : Sl w (.slice (some ⟨g, 0, none⟩) l.length c) l := by
  have hr := h.row' (by simp; omega) (hl.app hm)
  have hr' := hr.head l.length
  rw [List.take_left] at hr'
  exact ⟨_, _, rfl, hc, by simp, hr'⟩
theorem b2 {a b : Int} (h1 : 0 ≤ a) (h2 : a ≤ 255) (h3 : 0 ≤ b) (h4 : b ≤ 255) : Bytes [a, b] := (Bytes.nil.cons h3 h4).cons h1 h2
theorem yields_ix0 {ops : Array Oper} {S : World → Prop} {op : Oper} {a : Act} {gb n cap : Nat} (hw : Region.wanted op (yielded ops a.tmps) = true) (x ix : Operand) (ho : op.op = .indexAddr 26 x ix) (i : Nat) (hx : a.eval x = .slice (some ⟨gb, 0, none⟩) n cap) (hix : a.eval ix = .int .i64 (i : Int)) (hi : i < n) :
    YieldsIf Try.prog ops S op (.pointer (some ⟨gb, i, none⟩)) a := by
  refine .inl ⟨hw, fun w _ => ?_⟩
  have he : Try.prog.elem 26 = 5 := by kernel_rfl
  have hsz : (sizeOf 5).run Try.prog w = .ok 1 w := by kernel_rfl
  unfold execOp
  simp only [ho, hx, hix, Sem.run_bind]
  rw [run_indexAt_slice w 26 ⟨gb, 0, none⟩ n cap .i64 (i : Int) under22, he, if_pos ⟨by omega, by omega⟩, hsz]
  simp only [Result.andThen, add_plain, Int.toNat_natCast, Nat.mul_one, Sem.run_pure, Nat.zero_add]
/-- How a region ends. -/
def RPost (w : World) (B : Act) : Exit → Act → World → Prop := fun e a' w1 => e = .normal ∧ a' = B ∧ Away [] w w1
theorem regThen {id : Nat} {os : Array Oper} {Q : Exit → Act → World → Prop} {a : Act} {w : World} (B : Act) (hr : (Code.region id os true).wp Try.prog (RPost w B) a w) (h : ∀ w1, Away [] w w1 → Q .normal B w1) : (Code.region id os true).wp Try.prog Q a w :=
  Code.wp_mono (fun e a' w1 hx => by obtain ⟨rfl, rfl, h3⟩ := hx; exact h _ h3) hr
/-- How a region ends, two values left open. -/
def RPost2 (w : World) (B : Value → Value → Act) : Exit → Act → World → Prop
  | .normal, a', w1 => (∃ x y, a' = B x y) ∧ Away [] w w1
  | _, _, _ => False
theorem regThen2 {id : Nat} {os : Array Oper} {Q : Exit → Act → World → Prop} {a : Act} {w : World} (B : Value → Value → Act) (hr : (Code.region id os true).wp Try.prog (RPost2 w B) a w) (h : ∀ x y w1, Away [] w w1 → Q .normal (B x y) w1) : (Code.region id os true).wp Try.prog Q a w :=
  Code.wp_mono (fun e a' w1 hx => by
    cases e
    case normal => obtain ⟨⟨x, y, rfl⟩, h3⟩ := hx; exact h _ _ _ h3
    all_goals exact hx.elim) hr
namespace ip6Memory
theorem walk (p : Pk) (ov dv : Value) (W : World) (hp : Pkt W p ov dv) (hol : p.o.length ≤ 140737488351232) (hdl : p.d.length ≤ 140737488351232) :
    Calls Try.prog 7 #[.agg (csP p ov dv)] W fun e W' => e = .returned (.bool true) ∧ Below W.heap.size W W' := by
  have HAD := Lib.hid hp.wf.ad
  have HP := Lib.hid hp
  have HA : Hid (Away [] W W) := Away.refl _ _
  obtain ⟨q, hq⟩ : ∃ q, q = fitP p := ⟨_, rfl⟩
  have HQW : Hid (Wf q) := by rw [hq]; exact fit_wf hp.wf
  have HQR : Hid (rightP q = true) := by rw [hq]; exact right_fit p
  have hcb := lay6_bd HQW.out ((right_iff q).1 HQR.out)
  have HCB := Lib.hid hcb.1
  have hc1 := hcb.2.1
  have hc2 := hcb.2.2
  have HLS : Hid (lay6 q = headB q ++ q.d) := rfl
  have HHL : Hid ((lay6 q).length = (headB q).length + q.d.length) := by show _ = _; rw [lay_self, List.length_append]
  have HBQ : Hid (build6 q = (lay6 q, 0)) := build_ok HQR.out
  have HPQ : Hid (parse6 (lay6 q) = (q, 0)) := parse_lay6 HQW.out HQR.out
  have HFIT : Hid (∀ w, Pkt w p ov dv → Calls Try.prog 10 #[.agg (csP p ov dv)] w fun E w' => OwnOut w q E w') := fun w h => by rw [hq]; exact fit_c p ov dv w h
  have hn : q.d.length + 40 ≤ (lay6 q).length := by have := HHL.out; have h2 : 40 ≤ (headB q).length := headB_ge q HQW.out; omega
  have HQD := Lib.hid HQW.out.d
  clear hp hcb hq
  generalize hA : lay6 q = A at *
  have HAE := Lib.hid hA
  clear hA
  go_enter Try.func7, Try.ntmps7
  go_wp2_with (refine wpList_box28 rfl _ rfl p ov dv rfl ?_; refine Hid.out ?_)
  refine Lib.hid ?_
  intro g1 w1 hg_g1 hb haw
  have hz0 := Lib.hid haw.size
  replace HA := Lib.hid (HA.out.on haw)
  replace HP := Lib.hid (HP.out.on haw)
  clear haw
  have H1 := Lib.hid hb
  have hl_g1 := hb.lt
  clear hb
  go_wp2_with fail
  refine (alive_c _).mono ?_
  rintro E w2 ⟨rfl, haw⟩
  have hz1 := Lib.hid haw.size
  replace HA := Lib.hid (HA.out.on haw)
  replace HP := Lib.hid (HP.out.on haw)
  replace H1 := Lib.hid (H1.out.on haw)
  clear haw
  go_wp2_with (first | (refine wpList_load28 rfl _ rfl g1 rfl p _ _ (by exact H1.out) HAD.out ?_))
  have HG1 : Hid (g1 < w2.heap.size) := H1.out.lt
  refine (HFIT.out _ (by exact HP.out)).mono ?_
  rintro E w3 ⟨oq, dq, rfl, hm, haw⟩
  have hs_oq := haw.size
  have hz2 := Lib.hid haw.size
  replace HA := Lib.hid (HA.out.on haw)
  replace HP := Lib.hid (HP.out.on haw)
  replace H1 := Lib.hid (H1.out.on haw)
  clear haw
  have HM := Lib.hid hm
  clear hm
  have hb1 := H1.out.lt
  have kq1 := HM.out.ov; have kq2 := HM.out.dv
  go_wp2_with (refine wpList_store28 rfl _ _ rfl g1 rfl q oq dq rfl p ov dv (by exact H1.out) HQW.out.ad HAD.out kq1 kq2 ?_; refine Hid.out ?_)
  refine Lib.hid ?_
  intro w4 hb haw
  have hz3 := Lib.hid haw.size
  replace HA := Lib.hid (HA.out.next haw (fun x hx => .inr (by simp at hx; omega)))
  replace HM := Lib.hid (Mine.mk (HM.out.o.away haw (fun k hk => by have := HM.out.no k hk; have h2 := HG1.out; simp; omega)) (HM.out.d.away haw (fun k hk => by have := HM.out.nd k hk; have h2 := HG1.out; simp; omega)) HM.out.no HM.out.nd HM.out.ap)
  replace H1 := Lib.hid hb
  clear hb haw HP
  obtain ⟨da, dc, hdv, hdc⟩ := HM.out.d.slc
  subst hdv
  have HSD := Lib.hid (HM.out.d.sl HQW.out.d HQW.out.dn)
  have c45 := (H1.out.cells HQW.out.ad).d
  go_upto_region 6 with fail
  clear c45
  have HLQ0 : Hid ((∀ k, oq.ownBlock = some k → k < w4.heap.size) ∧ (∀ k, (Value.slice da q.d.length dc).ownBlock = some k → k < w4.heap.size) ∧ g1 < w4.heap.size) := ⟨HM.out.o.lt, HM.out.d.lt, H1.out.lt⟩
  have c45 := ((H1.out.on ((Away.refl [] w4).alloc (.cells #[] 5))).cells HQW.out.ad).d
  have hA0 := (Away.refl [] w4).alloc (.cells #[] 5)
  go_wp2_with (at_builtin; refine wpList_appS rfl _ _ rfl _ [] q.d rfl (owns_lit0 w4 _ rfl) _ rfl (HSD.out.on hA0) (by simpa using HSD.out.bytes.2) ?_; refine Hid.out ?_)
  refine Lib.hid ?_
  intro v1 wx hown hawx hmvx
  obtain ⟨hx1, hx2⟩ := fresh hawx hmvx
  (try rw [List.nil_append] at hown)
  clear hawx hmvx hA0
  have HX1 := Lib.hid hx1; have HX2 := Lib.hid hx2; have HX3 := Lib.hid hown
  clear hx1 hx2 hown
  have hlit := (Away.refl [] wx).alloc (.cells (([161, 162] : List Int).map (Value.int .u8)).toArray 5)
  have HLO := Lib.hid (HX3.out.on hlit)
  have HLR := Lib.hid (Row.lit wx [161, 162] ((Bytes.nil.cons (by omega) (by omega)).cons (by omega) (by omega)) (by simp))
  clear hlit
  go_wp2_with (at_builtin; refine wpList_appS rfl _ _ rfl _ q.d [161, 162] rfl (by exact HLO.out) _ rfl (by exact ⟨_, 2, rfl, by simp, by simp, HLR.out⟩) (by simp only [List.length_cons, List.length_nil]; omega) ?_; refine Hid.out ?_)
  refine Lib.hid ?_
  intro vd w5 hown hawx hmvx
  obtain ⟨haw, hnew⟩ := two_apps HX1.out HX2.out hawx hmvx
  clear hawx hmvx HX1 HX2 HX3 HLO HLR
  have hz4 := Lib.hid haw.size
  replace HA := Lib.hid (HA.out.on haw)
  replace H1 := Lib.hid (H1.out.on haw)
  replace HM := Lib.hid (HM.out.on haw)
  replace HSD := Lib.hid (HSD.out.on haw)
  clear haw
  have HDT := Lib.hid hown
  have hn_vd := Lib.hid hnew
  clear hown hnew
  clear c45
  obtain ⟨gd, cd, hvd, hcd⟩ := HDT.out.block (by simp)
  subst hvd
  simp only [List.length_append, List.length_cons, List.length_nil] at hcd
  have hgd := hn_vd.out gd rfl
  go_upto_region 7 with fail
  simp only [List.length_append, List.length_cons, List.length_nil]
  have HLQ : Hid ((∀ k, oq.ownBlock = some k → k < w5.heap.size) ∧ (∀ k, (Value.slice da q.d.length dc).ownBlock = some k → k < w5.heap.size)) := ⟨HM.out.o.lt, HM.out.d.lt⟩
  have hsa := HA.out.size
  have hw6 := Lib.hid H1.out.lt
  have hgdl := Lib.hid (HDT.out.lt gd rfl)
  go_wp2_with (first | (refine wpList_load28 rfl _ rfl g1 rfl q _ _ (by exact H1.out) HQW.out.ad ?_) | (refine wpList_new28 rfl rfl rfl _ _ rfl q oq (.slice da q.d.length dc) (fun _ => rfl) (fun _ => rfl) HQW.out.ad kq1 rfl ?_; refine Hid.out ?_))
  refine Lib.hid ?_
  intro g6 w6 hg_g6 hb haw
  have hz5 := Lib.hid haw.size
  replace HA := Lib.hid (HA.out.on haw)
  replace H1 := Lib.hid (H1.out.on haw)
  replace HM := Lib.hid (HM.out.on haw)
  replace HSD := Lib.hid (HSD.out.on haw)
  replace HDT := Lib.hid (HDT.out.on haw)
  clear haw
  have H6 := Lib.hid hb
  have hl_g6 := hb.lt
  clear hb
  have s1 := slice_h (some ⟨gd, 0, none⟩) (q.d.length + (0 + 1 + 1)) cd q.d.length (q.d.length : Int) rfl (by omega)
  have c45 := (H6.out.cells HQW.out.ad).d
  have f45 := H6.out.free 45
  have haw := away_put (w := w6) (g := g6) 45 (.slice (some ⟨gd, 0, none⟩) q.d.length cd)
  replace H6 := Lib.hid (H6.out.put 45 (.slice (some ⟨gd, 0, none⟩) q.d.length cd) ((csP_set HQW.out.ad _ _).2.2.2.2.2.2.2.2.2.2.2.2.2 q.d (.slice (some ⟨gd, 0, none⟩) q.d.length cd)))
  have hgd6 : gd < g6 := by have := hgdl.out; omega
  have hz6 := Lib.hid haw.size
  replace HA := Lib.hid (HA.out.next haw (fun x hx => .inr (by have := HA.out.size; simp at hx; omega)))
  replace HM := Lib.hid (Mine.mk (HM.out.o.away haw (fun k hk => by have := HM.out.o.lt k hk; simp; intro e; have h2 := HLQ.out.1 k hk; omega)) (HM.out.d.away haw (fun k hk => by simp; intro e; have h2 := HLQ.out.2 k hk; omega)) HM.out.no HM.out.nd HM.out.ap)
  replace H1 := Lib.hid (H1.out.away haw (by have := hw6.out; simp; omega))
  replace HDT := Lib.hid (HDT.out.away haw (fun k hk => by simp [Value.ownBlock] at hk; simp; omega))
  replace HSD := Lib.hid (HM.out.d.sl HQW.out.d HQW.out.dn)
  clear haw
  go_upto_region 9 with fail
  clear c45 f45 s1
  generalize World.setCell w6 ⟨g6, 45, none⟩ (.slice (some ⟨gd, 0, none⟩) q.d.length cd) = w7 at *
  have HSI := Lib.hid (part_sl HDT.out HQW.out.d (b2 (by omega) (by omega) (by omega) (by omega)) (by simp; omega) (by omega))
  go_wp2_with (first | (refine wpList_load28 rfl _ rfl g6 rfl q _ _ (by exact H6.out) HQW.out.ad ?_))
  refine (build_c q oq (.slice (some ⟨gd, 0, none⟩) q.d.length cd) _ (by exact ⟨HQW.out, HM.out.o.sl HQW.out.o HQW.out.ol, HSI.out⟩)).mono ?_
  rintro E w8 ⟨av, rfl, hown, hnew, haw⟩
  rw [HBQ.out] at hown ⊢
  have hs_av := haw.size
  have hz7 := Lib.hid haw.size
  replace HA := Lib.hid (HA.out.on haw)
  replace H1 := Lib.hid (H1.out.on haw)
  replace HM := Lib.hid (HM.out.on haw)
  replace HSD := Lib.hid (HSD.out.on haw)
  replace HDT := Lib.hid (HDT.out.on haw)
  replace H6 := Lib.hid (H6.out.on haw)
  replace HSI := Lib.hid (HSI.out.on haw)
  clear haw
  have HO1 := Lib.hid hown
  have hn_av := Lib.hid hnew
  clear hown hnew
  have hnw := hn_av; have how := HO1
  have HV1 : Hid (∀ k, Value.ownBlock (av) = some k → w7.heap.size ≤ k ∧ k < w8.heap.size) := fun k hk => ⟨hnw.out k hk, how.out.lt k hk⟩
  have HUP : Hid (Up w8.heap.size w8) := Nat.le_refl _
  clear hnw how
  obtain ⟨ga, ca, hv, hc_ga⟩ := HO1.out.block (fun e => by rw [show A = [] from e] at hc2; simp at hc2)
  rw [show ((A, (0 : Int)).1) = A from rfl] at hv hc_ga HO1
  subst hv
  go_wp2_with fail
  refine (piece_c _).mono ?_
  rintro E w9 ⟨o2, d2, rfl, hm, haw⟩
  have hs_o2 := haw.size
  have hz8 := Lib.hid haw.size
  replace HA := Lib.hid (HA.out.on haw)
  replace H1 := Lib.hid (H1.out.on haw)
  replace HM := Lib.hid (HM.out.on haw)
  replace HSD := Lib.hid (HSD.out.on haw)
  replace HDT := Lib.hid (HDT.out.on haw)
  replace H6 := Lib.hid (H6.out.on haw)
  replace HSI := Lib.hid (HSI.out.on haw)
  replace HO1 := Lib.hid (HO1.out.on haw)
  replace HUP := Lib.hid (HUP.out.on haw)
  clear haw
  have HMP := Lib.hid hm
  clear hm
  go_wp2_with fail
  have hup := HUP
  refine (build_c exP o2 d2 _ (by exact HMP.out.pkt ex_wf)).mono ?_
  rintro E w10 ⟨bo, rfl, hown, hnew, haw⟩
  rw [ex_build] at hown ⊢
  have hs_bo := haw.size
  have hz9 := Lib.hid haw.size
  replace HA := Lib.hid (HA.out.on haw)
  replace H1 := Lib.hid (H1.out.on haw)
  replace HM := Lib.hid (HM.out.on haw)
  replace HSD := Lib.hid (HSD.out.on haw)
  replace HDT := Lib.hid (HDT.out.on haw)
  replace H6 := Lib.hid (H6.out.on haw)
  replace HSI := Lib.hid (HSI.out.on haw)
  replace HO1 := Lib.hid (HO1.out.on haw)
  replace HUP := Lib.hid (HUP.out.on haw)
  replace HMP := Lib.hid (HMP.out.on haw)
  clear haw
  have HO2 := Lib.hid hown
  have hn_bo := Lib.hid hnew
  clear hown hnew
  clear HUP
  have hnw := hn_bo; have how := HO2
  have HV2 : Hid (∀ k, Value.ownBlock (bo) = some k → w9.heap.size ≤ k ∧ k < w10.heap.size) := fun k hk => ⟨hnw.out k hk, how.out.lt k hk⟩
  have HC2 : Hid (w8.heap.size ≤ w9.heap.size) := hup.out
  have HUP : Hid (Up w10.heap.size w10) := Nat.le_refl _
  clear hnw how
  clear hup
  obtain ⟨go, co, hv, hc_go⟩ := HO2.out.block (by show exB ≠ []; decide)
  rw [show ((exB, (0 : Int)).1) = exB from rfl] at hv hc_go HO2
  subst hv
  clear HMP
  go_wp2_with (first | (refine wpList_load28 rfl _ rfl g6 rfl q _ _ (by exact H6.out) HQW.out.ad ?_))
  have hup := HUP
  refine (build_c q oq (.slice (some ⟨gd, 0, none⟩) q.d.length cd) _ (by exact ⟨HQW.out, HM.out.o.sl HQW.out.o HQW.out.ol, HSI.out⟩)).mono ?_
  rintro E w11 ⟨bb, rfl, hown, hnew, haw⟩
  rw [HBQ.out] at hown ⊢
  have hs_bb := haw.size
  have hz10 := Lib.hid haw.size
  replace HA := Lib.hid (HA.out.on haw)
  replace H1 := Lib.hid (H1.out.on haw)
  replace HM := Lib.hid (HM.out.on haw)
  replace HSD := Lib.hid (HSD.out.on haw)
  replace HDT := Lib.hid (HDT.out.on haw)
  replace H6 := Lib.hid (H6.out.on haw)
  replace HSI := Lib.hid (HSI.out.on haw)
  replace HO1 := Lib.hid (HO1.out.on haw)
  replace HO2 := Lib.hid (HO2.out.on haw)
  replace HUP := Lib.hid (HUP.out.on haw)
  clear haw
  have HO3 := Lib.hid hown
  have hn_bb := Lib.hid hnew
  clear hown hnew
  clear HUP
  have hnw := hn_bb; have how := HO3
  have HV3 : Hid (∀ k, Value.ownBlock (bb) = some k → w10.heap.size ≤ k ∧ k < w11.heap.size) := fun k hk => ⟨hnw.out k hk, how.out.lt k hk⟩
  have HC3 : Hid (w10.heap.size ≤ w10.heap.size) := hup.out
  have HUP : Hid (Up w11.heap.size w11) := Nat.le_refl _
  clear hnw how
  clear hup
  obtain ⟨gb, cb, hv, hc_gb⟩ := HO3.out.block (fun e => by rw [show A = [] from e] at hc2; simp at hc2)
  rw [show ((A, (0 : Int)).1) = A from rfl] at hv hc_gb HO3
  subst hv
  have KS1 : Hid (∀ X, Away [] w11 X → Calls Try.prog 16 #[.slice (some ⟨ga, 0, none⟩) A.length ca, .slice (some ⟨gb, 0, none⟩) A.length cb] X fun E w' => E = .returned (.bool true) ∧ Away [] w11 w') := fun X hX =>
    (same_yes _ _ A A _ _ ca cb X rfl rfl (by simp) (by simp) ((HO1.out.row' (by omega) HCB.out).on hX) ((HO3.out.row' (by omega) HCB.out).on hX) rfl).mono fun E w' hk => ⟨hk.1, by rw [hk.2]; exact hX⟩
  have KS2 : Hid (∀ X, Away [] w11 X → Calls Try.prog 16 #[.slice (some ⟨gd, 0, none⟩) q.d.length cd, .slice da q.d.length dc] X fun E w' => E = .returned (.bool true) ∧ Away [] w11 w') := fun X hX => by
    obtain ⟨_, h2, h3, h4⟩ := HSD.out.of
    obtain ⟨_, h6, h7, h8⟩ := HSI.out.of
    exact (same_yes _ _ q.d q.d _ _ cd dc X rfl rfl (by simp) h3 (h8.on hX) (h4.on hX) rfl).mono fun E w' hk => ⟨hk.1, by rw [hk.2]; exact hX⟩
  have HD0 : Hid (∀ X, Away [] w11 X → X.cell? ⟨gd, q.d.length, none⟩ = some (.int .u8 161)) := fun X hX => by
    have := (HDT.out.on hX).cells q.d.length (by simp)
    rw [this.1]; simp
  have HD1 : Hid (∀ X, Away [] w11 X → X.cell? ⟨gd, q.d.length + 1, none⟩ = some (.int .u8 162)) := fun X hX => by
    have := (HDT.out.on hX).cells (q.d.length + 1) (by simp)
    rw [this.1]; simp
  have HX1 : Hid (∀ X, Away [] w11 X → X.cell? ⟨g1, 45, none⟩ = some (.slice da q.d.length dc)) := fun X hX => ((H1.out.on hX).cells HQW.out.ad).d
  have s1 := slice_h (some ⟨gd, 0, none⟩) (q.d.length + (0 + 1 + 1)) cd q.d.length (q.d.length : Int) rfl (by omega)
  have d0 : decide ((A.length : Int) < 40 + (q.d.length : Int)) = false := decide_eq_false (by omega)
  have w40 : IntKind.i64.wrap (40 + (q.d.length : Int)) = 40 + (q.d.length : Int) := by rw [IntKind.wrap_i64]; omega
  have w41 : IntKind.i64.wrap ((q.d.length : Int) + 1) = ((q.d.length + 1 : Nat) : Int) := by rw [IntKind.wrap_i64]; omega
  go_upto_region 12 with fail
  apply regThen
  case hr =>
    as_aux_lemma =>
      refine wp_region_cls (C := fun w' => Away [] w11 w') (by kernel_rfl) (by kernel_rfl) ((Away.refl [] w11).drew) ?_
      go_big_quiet_want; (refine quiet_val ?_ ?_ ?_; rotate_left; (intro w; go_simp; rfl); go_simp; go_big_quiet_on)
      go_big_quiet_want; (refine quiet_val ?_ ?_ ?_; rotate_left; (intro w; go_simp; rfl); go_simp; go_big_quiet_on)
      go_big_quiet_want; (refine quiet_val ?_ ?_ ?_; rotate_left; (intro w; go_simp; rfl); go_simp; go_big_quiet_on)
      go_big_quiet_want; (refine quiet_val ?_ ?_ ?_; rotate_left; (intro w; go_simp; rfl); go_simp; go_big_quiet_on)
      try simp only [w40]
      go_big_quiet_want; (refine quiet_val ?_ ?_ ?_; rotate_left; (intro w; go_simp; rfl); go_simp; go_big_quiet_on)
      try simp only [d0]
      go_big_quiet_want; (refine quiet_val ?_ ?_ ?_; rotate_left; (intro w; go_simp; rfl); go_simp; go_big_quiet_on)
      go_big_quiet_want; (refine quiet_val ?_ ?_ ?_; rotate_left; (intro w; go_simp; rfl); go_simp; go_big_quiet_on)
      go_big_quiet_want; (refine quiet_val ?_ ?_ ?_; rotate_left; (intro w; go_simp; rfl); go_simp; go_big_quiet_on)
      go_big_quiet_want; refine quiet_call 16 #[.slice (some ⟨ga, 0, none⟩) A.length ca, .slice (some ⟨gb, 0, none⟩) A.length cb] (.bool true) ?_ KS1.out ?_
      · intro w; go_simp; done
      go_simp; go_big_quiet_on
      go_big_quiet_want; (refine quiet_val ?_ ?_ ?_; rotate_left; (intro w; go_simp; rfl); go_simp; go_big_quiet_on)
      go_big_quiet_want; (refine quiet_val ?_ ?_ ?_; rotate_left; (intro w; go_simp; rfl); go_simp; go_big_quiet_on)
      go_big_quiet_want; (refine quiet_val ?_ ?_ ?_; rotate_left; (intro w; go_simp; rfl); go_simp; go_big_quiet_on)
      go_big_quiet_want; (refine quiet_val ?_ ?_ ?_; rotate_left; (intro w; go_simp; rfl); go_simp; go_big_quiet_on)
      go_big_quiet_want; (refine quiet_val ?_ ?_ ?_; rotate_left; (intro w; go_simp; rfl); go_simp; go_big_quiet_on)
      go_big_quiet_want; (refine quiet_val ?_ ?_ ?_; rotate_left; (intro w; go_simp; rfl); go_simp; go_big_quiet_on)
      go_big_quiet_want; (refine quiet_val ?_ ?_ ?_; rotate_left; (intro w; go_simp; rfl); go_simp; go_big_quiet_on)
      go_big_quiet_want; refine quiet_ld _ rfl (ad := ⟨g1, 45, none⟩) rfl (fun w' h => ld26 (HX1.out _ h)) ?_; go_simp; go_big_quiet_on
      go_big_quiet_want; refine quiet_call 16 #[.slice (some ⟨gd, 0, none⟩) q.d.length cd, .slice da q.d.length dc] (.bool true) ?_ KS2.out ?_
      · intro w; go_simp; done
      go_simp; go_big_quiet_on
      go_big_quiet_want; (refine quiet_val ?_ ?_ ?_; rotate_left; (intro w; go_simp; rfl); go_simp; go_big_quiet_on)
      go_big_quiet_want; (refine quiet_val ?_ ?_ ?_; rotate_left; (intro w; go_simp; rfl); go_simp; go_big_quiet_on)
      go_big_quiet_want; (refine quiet_val ?_ ?_ ?_; rotate_left; (intro w; go_simp; rfl); go_simp; go_big_quiet_on)
      go_big_quiet_want; (refine quiet_val ?_ ?_ ?_; rotate_left; (intro w; go_simp; rfl); go_simp; go_big_quiet_on)
      go_big_quiet_want; (refine quiet_val ?_ ?_ ?_; rotate_left; (intro w; go_simp; rfl); go_simp; go_big_quiet_on)
      go_big_quiet_want; refine quiet_ix _ _ rfl (q.d.length) rfl (by rfl) (by omega) ?_; go_simp; go_big_quiet_on
      go_big_quiet_want; refine quiet_ld _ rfl (ad := ⟨gd, q.d.length, none⟩) rfl (fun w' h => ld5 (HD0.out _ h)) ?_; go_simp; go_big_quiet_on
      go_big_quiet_want; (refine quiet_val ?_ ?_ ?_; rotate_left; (intro w; go_simp; rfl); go_simp; go_big_quiet_on)
      go_big_quiet_want; (refine quiet_val ?_ ?_ ?_; rotate_left; (intro w; go_simp; rfl); go_simp; go_big_quiet_on)
      go_big_quiet_want; (refine quiet_val ?_ ?_ ?_; rotate_left; (intro w; go_simp; rfl); go_simp; go_big_quiet_on)
      go_big_quiet_want; (refine quiet_val ?_ ?_ ?_; rotate_left; (intro w; go_simp; rfl); go_simp; go_big_quiet_on)
      go_big_quiet_want; (refine quiet_val ?_ ?_ ?_; rotate_left; (intro w; go_simp; rfl); go_simp; go_big_quiet_on)
      go_big_quiet_want; (refine quiet_val ?_ ?_ ?_; rotate_left; (intro w; go_simp; rfl); go_simp; go_big_quiet_on)
      try simp only [w41]
      go_big_quiet_want; refine quiet_ix _ _ rfl (q.d.length + 1) rfl (by rfl) (by omega) ?_; go_simp; go_big_quiet_on
      go_big_quiet_want; refine quiet_ld _ rfl (ad := ⟨gd, q.d.length + 1, none⟩) rfl (fun w' h => ld5 (HD1.out _ h)) ?_; go_simp; go_big_quiet_on
      go_big_quiet_want; (refine quiet_val ?_ ?_ ?_; rotate_left; (intro w; go_simp; rfl); go_simp; go_big_quiet_on)
      go_big_quiet_want; (refine quiet_val ?_ ?_ ?_; rotate_left; (intro w; go_simp; rfl); go_simp; go_big_quiet_on)
      refine wpQuiet_nil ?_
      intro V hV
      exact ⟨rfl, rfl, hV⟩
  intro V hV
  have haw := hV
  clear hV KS1 KS2 HD0 HD1 HX1 d0 s1 w40 w41
  have hz11 := Lib.hid haw.size
  replace HA := Lib.hid (HA.out.on haw)
  replace H1 := Lib.hid (H1.out.on haw)
  replace HM := Lib.hid (HM.out.on haw)
  replace HSD := Lib.hid (HSD.out.on haw)
  replace HDT := Lib.hid (HDT.out.on haw)
  replace H6 := Lib.hid (H6.out.on haw)
  replace HSI := Lib.hid (HSI.out.on haw)
  replace HO1 := Lib.hid (HO1.out.on haw)
  replace HO2 := Lib.hid (HO2.out.on haw)
  replace HO3 := Lib.hid (HO3.out.on haw)
  replace HUP := Lib.hid (HUP.out.on haw)
  clear haw
  have HSA := Lib.hid (HO1.out.sl HCB.out (by omega))
  have hA0 := (Away.refl [] V).alloc (.cells #[] 5)
  go_wp2_with (at_builtin; refine wpList_appS rfl _ _ rfl _ [] A rfl (owns_lit0 V _ rfl) _ rfl (HSA.out.on hA0) (by simpa using HSA.out.bytes.2) ?_; refine Hid.out ?_)
  refine Lib.hid ?_
  intro vw w12 hown hawx hmvx
  obtain ⟨haw, hnew⟩ := fresh hawx hmvx
  clear hawx hmvx hA0
  have hz12 := Lib.hid haw.size
  replace HA := Lib.hid (HA.out.on haw)
  replace H1 := Lib.hid (H1.out.on haw)
  replace HM := Lib.hid (HM.out.on haw)
  replace HSD := Lib.hid (HSD.out.on haw)
  replace HDT := Lib.hid (HDT.out.on haw)
  replace H6 := Lib.hid (H6.out.on haw)
  replace HSI := Lib.hid (HSI.out.on haw)
  replace HO1 := Lib.hid (HO1.out.on haw)
  replace HO2 := Lib.hid (HO2.out.on haw)
  replace HO3 := Lib.hid (HO3.out.on haw)
  replace HUP := Lib.hid (HUP.out.on haw)
  replace HSA := Lib.hid (HSA.out.on haw)
  clear haw
  have HWS := Lib.hid hown
  have hn_vw := Lib.hid hnew
  clear hown hnew
  have HNW := hn_vw
  obtain ⟨gw, cw, hv, hcw⟩ := HWS.out.block (fun e => by rw [show A = [] from e] at hc2; simp at hc2)
  subst hv
  have HLW : Hid (gw < w12.heap.size) := HWS.out.lt gw rfl
  have hA0 := (Away.refl [] w12).alloc (.cells #[] 5)
  go_wp2_with (at_builtin; refine wpList_appS rfl _ _ rfl _ [] A rfl (owns_lit0 w12 _ rfl) _ rfl (HSA.out.on hA0) (by simpa using HSA.out.bytes.2) ?_; refine Hid.out ?_)
  refine Lib.hid ?_
  intro v1 wx hown hawx hmvx
  obtain ⟨hx1, hx2⟩ := fresh hawx hmvx
  (try rw [List.nil_append] at hown)
  clear hawx hmvx hA0
  have HX1 := Lib.hid hx1; have HX2 := Lib.hid hx2; have HX3 := Lib.hid hown
  clear hx1 hx2 hown
  have hlit := (Away.refl [] wx).alloc (.cells (([177, 178] : List Int).map (Value.int .u8)).toArray 5)
  have HLO := Lib.hid (HX3.out.on hlit)
  have HLR := Lib.hid (Row.lit wx [177, 178] ((Bytes.nil.cons (by omega) (by omega)).cons (by omega) (by omega)) (by simp))
  clear hlit
  go_wp2_with (at_builtin; refine wpList_appS rfl _ _ rfl _ A [177, 178] rfl (by exact HLO.out) _ rfl (by exact ⟨_, 2, rfl, by simp, by simp, HLR.out⟩) (by simp only [List.length_cons, List.length_nil]; omega) ?_; refine Hid.out ?_)
  refine Lib.hid ?_
  intro vr w13 hown hawx hmvx
  obtain ⟨haw, hnew⟩ := two_apps HX1.out HX2.out hawx hmvx
  clear hawx hmvx HX1 HX2 HX3 HLO HLR
  have hz13 := Lib.hid haw.size
  replace HA := Lib.hid (HA.out.on haw)
  replace H1 := Lib.hid (H1.out.on haw)
  replace HM := Lib.hid (HM.out.on haw)
  replace HSD := Lib.hid (HSD.out.on haw)
  replace HDT := Lib.hid (HDT.out.on haw)
  replace H6 := Lib.hid (H6.out.on haw)
  replace HSI := Lib.hid (HSI.out.on haw)
  replace HO1 := Lib.hid (HO1.out.on haw)
  replace HO2 := Lib.hid (HO2.out.on haw)
  replace HO3 := Lib.hid (HO3.out.on haw)
  replace HUP := Lib.hid (HUP.out.on haw)
  replace HSA := Lib.hid (HSA.out.on haw)
  replace HWS := Lib.hid (HWS.out.on haw)
  clear haw
  have HRT := Lib.hid hown
  have hn_vr := Lib.hid hnew
  clear hown hnew
  have HLR : Hid (∀ k, Value.ownBlock vr = some k → k < w13.heap.size) := HRT.out.lt
  obtain ⟨gr, cr, hv, hcr⟩ := HRT.out.block (by simp)
  subst hv
  simp only [List.length_append, List.length_cons, List.length_nil] at hcr
  have hgr := hn_vr.out gr rfl
  have s2 := slice_h (some ⟨gr, 0, none⟩) (A.length + (0 + 1 + 1)) cr A.length (A.length : Int) rfl (by omega)
  go_upto_region 16 with fail
  simp only [List.length_append, List.length_cons, List.length_nil]
  go_upto_region 17 with fail
  clear s2
  have HSB := Lib.hid (part_sl HRT.out HCB.out (b2 (by omega) (by omega) (by omega) (by omega)) (by simp; omega) (by omega))
  go_wp2_with fail
  have hup := HUP
  refine (parse_c (some ⟨gr, 0, none⟩) A _ cr _ rfl (by omega) (by simp) (by exact HSB.out.of.2.2.2)).mono ?_
  rintro E w14 ⟨xo, xd, rfl, hou, hdu, hno, hnd, hap, haw⟩
  rw [HPQ.out] at hou hdu ⊢
  have hz14 := Lib.hid haw.size
  replace HA := Lib.hid (HA.out.on haw)
  replace H1 := Lib.hid (H1.out.on haw)
  replace HM := Lib.hid (HM.out.on haw)
  replace HSD := Lib.hid (HSD.out.on haw)
  replace HDT := Lib.hid (HDT.out.on haw)
  replace H6 := Lib.hid (H6.out.on haw)
  replace HSI := Lib.hid (HSI.out.on haw)
  replace HO1 := Lib.hid (HO1.out.on haw)
  replace HO2 := Lib.hid (HO2.out.on haw)
  replace HO3 := Lib.hid (HO3.out.on haw)
  replace HUP := Lib.hid (HUP.out.on haw)
  replace HSA := Lib.hid (HSA.out.on haw)
  replace HWS := Lib.hid (HWS.out.on haw)
  replace HRT := Lib.hid (HRT.out.on haw)
  replace HSB := Lib.hid (HSB.out.on haw)
  clear haw
  have HX : Hid (Mine w14 w13.heap.size _ xo xd) := ⟨hou, hdu, hno, hnd, hap⟩
  clear hou hdu hno hnd hap
  clear HUP
  have hnw := Lib.hid HX.out.nd; have how := Lib.hid HX.out.d
  obtain ⟨xda, xdc, hv, hc_xd⟩ := HX.out.d.slc
  subst hv
  have HV4 : Hid (∀ k, Value.ownBlock (.slice xda q.d.length xdc) = some k → w13.heap.size ≤ k ∧ k < w14.heap.size) := fun k hk => ⟨hnw.out k hk, how.out.lt k hk⟩
  have HC4 : Hid (w11.heap.size ≤ w13.heap.size) := hup.out
  have HUP : Hid (Up w14.heap.size w14) := Nat.le_refl _
  clear hnw how hup
  have ko_xo := HX.out.ov
  go_wp2_with (first | (refine wpList_new28 rfl rfl rfl _ _ rfl q xo (.slice xda q.d.length xdc) (fun _ => rfl) (fun _ => rfl) HQW.out.ad ko_xo rfl ?_; refine Hid.out ?_))
  refine Lib.hid ?_
  intro g16 w15 hg_g16 hb haw
  have hz15 := Lib.hid haw.size
  replace HA := Lib.hid (HA.out.on haw)
  replace H1 := Lib.hid (H1.out.on haw)
  replace HM := Lib.hid (HM.out.on haw)
  replace HSD := Lib.hid (HSD.out.on haw)
  replace HDT := Lib.hid (HDT.out.on haw)
  replace H6 := Lib.hid (H6.out.on haw)
  replace HSI := Lib.hid (HSI.out.on haw)
  replace HO1 := Lib.hid (HO1.out.on haw)
  replace HO2 := Lib.hid (HO2.out.on haw)
  replace HO3 := Lib.hid (HO3.out.on haw)
  replace HSA := Lib.hid (HSA.out.on haw)
  replace HWS := Lib.hid (HWS.out.on haw)
  replace HRT := Lib.hid (HRT.out.on haw)
  replace HSB := Lib.hid (HSB.out.on haw)
  replace HX := Lib.hid (HX.out.on haw)
  replace HUP := Lib.hid (HUP.out.on haw)
  clear haw
  have H16 := Lib.hid hb
  have hl_g16 := hb.lt
  clear hb
  go_wp2_with fail
  have hup := HUP
  refine (parse_c (some ⟨go, 0, none⟩) exB _ co _ rfl hc_go (by simp) (by exact HO2.out.row' (by decide) ex_bytes)).mono ?_
  rintro E w16 ⟨zo, zd, rfl, hou, hdu, hno, hnd, hap, haw⟩
  rw [ex_parse] at hou hdu ⊢
  have hz16 := Lib.hid haw.size
  replace HA := Lib.hid (HA.out.on haw)
  replace H1 := Lib.hid (H1.out.on haw)
  replace HM := Lib.hid (HM.out.on haw)
  replace HSD := Lib.hid (HSD.out.on haw)
  replace HDT := Lib.hid (HDT.out.on haw)
  replace H6 := Lib.hid (H6.out.on haw)
  replace HSI := Lib.hid (HSI.out.on haw)
  replace HO1 := Lib.hid (HO1.out.on haw)
  replace HO2 := Lib.hid (HO2.out.on haw)
  replace HO3 := Lib.hid (HO3.out.on haw)
  replace HSA := Lib.hid (HSA.out.on haw)
  replace HWS := Lib.hid (HWS.out.on haw)
  replace HRT := Lib.hid (HRT.out.on haw)
  replace HSB := Lib.hid (HSB.out.on haw)
  replace HX := Lib.hid (HX.out.on haw)
  replace HUP := Lib.hid (HUP.out.on haw)
  replace H16 := Lib.hid (H16.out.on haw)
  clear haw
  have HZ : Hid (Mine w16 w15.heap.size _ zo zd) := ⟨hou, hdu, hno, hnd, hap⟩
  clear hou hdu hno hnd hap
  clear HUP
  have hnw := Lib.hid HZ.out.nd; have how := Lib.hid HZ.out.d
  obtain ⟨zda, zdc, hv, hc_zd⟩ := HZ.out.d.slc
  subst hv
  have HV5 : Hid (∀ k, Value.ownBlock (.slice zda exP.d.length zdc) = some k → w15.heap.size ≤ k ∧ k < w16.heap.size) := fun k hk => ⟨hnw.out k hk, how.out.lt k hk⟩
  have HC5 : Hid (w14.heap.size ≤ w15.heap.size) := hup.out
  have HUP : Hid (Up w16.heap.size w16) := Nat.le_refl _
  clear hnw how hup
  have ko_zo := HZ.out.ov
  go_wp2_with (first | (refine wpList_new28 rfl rfl rfl _ _ rfl exP zo (.slice zda exP.d.length zdc) (fun _ => rfl) (fun _ => rfl) ex_wf.ad ko_zo rfl ?_; refine Hid.out ?_))
  refine Lib.hid ?_
  intro g18 w17 hg_g18 hb haw
  have hz17 := Lib.hid haw.size
  replace HA := Lib.hid (HA.out.on haw)
  replace H1 := Lib.hid (H1.out.on haw)
  replace HM := Lib.hid (HM.out.on haw)
  replace HSD := Lib.hid (HSD.out.on haw)
  replace HDT := Lib.hid (HDT.out.on haw)
  replace H6 := Lib.hid (H6.out.on haw)
  replace HSI := Lib.hid (HSI.out.on haw)
  replace HO1 := Lib.hid (HO1.out.on haw)
  replace HO2 := Lib.hid (HO2.out.on haw)
  replace HO3 := Lib.hid (HO3.out.on haw)
  replace HSA := Lib.hid (HSA.out.on haw)
  replace HWS := Lib.hid (HWS.out.on haw)
  replace HRT := Lib.hid (HRT.out.on haw)
  replace HSB := Lib.hid (HSB.out.on haw)
  replace HX := Lib.hid (HX.out.on haw)
  replace H16 := Lib.hid (H16.out.on haw)
  replace HZ := Lib.hid (HZ.out.on haw)
  replace HUP := Lib.hid (HUP.out.on haw)
  clear haw
  have H18 := Lib.hid hb
  have hl_g18 := hb.lt
  clear hb
  go_wp2_with fail
  have hup := HUP
  refine (parse_c (some ⟨gr, 0, none⟩) A _ cr _ rfl (by omega) (by simp) (by exact HSB.out.of.2.2.2)).mono ?_
  rintro E w18 ⟨yo, yd, rfl, hou, hdu, hno, hnd, hap, haw⟩
  rw [HPQ.out] at hou hdu ⊢
  have hz18 := Lib.hid haw.size
  replace HA := Lib.hid (HA.out.on haw)
  replace H1 := Lib.hid (H1.out.on haw)
  replace HM := Lib.hid (HM.out.on haw)
  replace HSD := Lib.hid (HSD.out.on haw)
  replace HDT := Lib.hid (HDT.out.on haw)
  replace H6 := Lib.hid (H6.out.on haw)
  replace HSI := Lib.hid (HSI.out.on haw)
  replace HO1 := Lib.hid (HO1.out.on haw)
  replace HO2 := Lib.hid (HO2.out.on haw)
  replace HO3 := Lib.hid (HO3.out.on haw)
  replace HSA := Lib.hid (HSA.out.on haw)
  replace HWS := Lib.hid (HWS.out.on haw)
  replace HRT := Lib.hid (HRT.out.on haw)
  replace HSB := Lib.hid (HSB.out.on haw)
  replace HX := Lib.hid (HX.out.on haw)
  replace H16 := Lib.hid (H16.out.on haw)
  replace HZ := Lib.hid (HZ.out.on haw)
  replace HUP := Lib.hid (HUP.out.on haw)
  replace H18 := Lib.hid (H18.out.on haw)
  clear haw
  have HY : Hid (Mine w18 w17.heap.size _ yo yd) := ⟨hou, hdu, hno, hnd, hap⟩
  clear hou hdu hno hnd hap
  clear HUP
  have hnw := Lib.hid HY.out.nd; have how := Lib.hid HY.out.d
  obtain ⟨yda, ydc, hv, hc_yd⟩ := HY.out.d.slc
  subst hv
  have HV6 : Hid (∀ k, Value.ownBlock (.slice yda q.d.length ydc) = some k → w17.heap.size ≤ k ∧ k < w18.heap.size) := fun k hk => ⟨hnw.out k hk, how.out.lt k hk⟩
  have HC6 : Hid (w16.heap.size ≤ w17.heap.size) := hup.out
  have HUP : Hid (Up w18.heap.size w18) := Nat.le_refl _
  clear hnw how hup
  have ko_yo := HY.out.ov
  go_wp2_with (first | (refine wpList_new28 rfl rfl rfl _ _ rfl q yo (.slice yda q.d.length ydc) (fun _ => rfl) (fun _ => rfl) HQW.out.ad ko_yo rfl ?_; refine Hid.out ?_))
  refine Lib.hid ?_
  intro g20 w19 hg_g20 hb haw
  have hz19 := Lib.hid haw.size
  replace HA := Lib.hid (HA.out.on haw)
  replace H1 := Lib.hid (H1.out.on haw)
  replace HM := Lib.hid (HM.out.on haw)
  replace HSD := Lib.hid (HSD.out.on haw)
  replace HDT := Lib.hid (HDT.out.on haw)
  replace H6 := Lib.hid (H6.out.on haw)
  replace HSI := Lib.hid (HSI.out.on haw)
  replace HO1 := Lib.hid (HO1.out.on haw)
  replace HO2 := Lib.hid (HO2.out.on haw)
  replace HO3 := Lib.hid (HO3.out.on haw)
  replace HSA := Lib.hid (HSA.out.on haw)
  replace HWS := Lib.hid (HWS.out.on haw)
  replace HRT := Lib.hid (HRT.out.on haw)
  replace HSB := Lib.hid (HSB.out.on haw)
  replace HX := Lib.hid (HX.out.on haw)
  replace H16 := Lib.hid (H16.out.on haw)
  replace HZ := Lib.hid (HZ.out.on haw)
  replace H18 := Lib.hid (H18.out.on haw)
  replace HY := Lib.hid (HY.out.on haw)
  replace HUP := Lib.hid (HUP.out.on haw)
  clear haw
  have H20 := Lib.hid hb
  have hl_g20 := hb.lt
  clear hb
  go_upto_region 20 with fail
  apply regThen2
  case hr =>
    as_aux_lemma =>
      refine wp_region_held_drew (S := (fun w' => Away [] w19 w')) (by kernel_rfl) ((Away.refl [] w19).drew) (fun hHeld => ?_)
      refine wpAnyH_take (i := 0) (v := ?_) (by simp only [List.getElem?_toArray, List.getElem?_cons_zero]; rfl) (by kernel_rfl) (by kernel_rfl) (by kernel_rfl) (by exact fun _ _ _ h => h) (Or.inl ⟨by rfl, ?_⟩) (by assumption) ?_
      rotate_left
      · intro wq hSw
        (try dsimp only at hSw)
        go_simp
        all_goals (with_reducible rfl)
      try simp only [Act.put, List.setIfInBounds_toArray, List.set_cons_zero, List.set_cons_succ]
      refine wpAnyH_take (i := 1) (v := ?_) (by simp only [List.getElem?_toArray, List.getElem?_cons_succ, List.getElem?_cons_zero]; rfl) (by kernel_rfl) (by kernel_rfl) (by kernel_rfl) (by exact fun _ _ _ h => h) (Or.inl ⟨by rfl, ?_⟩) (by assumption) ?_
      rotate_left
      · intro wq hSw
        (try dsimp only at hSw)
        go_simp
        all_goals (with_reducible rfl)
      try simp only [Act.put, List.setIfInBounds_toArray, List.set_cons_zero, List.set_cons_succ]
      refine wpAnyH_take (i := 2) (v := ?_) (by simp only [List.getElem?_toArray, List.getElem?_cons_succ, List.getElem?_cons_zero]; rfl) (by kernel_rfl) (by kernel_rfl) (by kernel_rfl) (by exact fun _ _ _ h => h) (Or.inl ⟨by rfl, ?_⟩) (by assumption) ?_
      rotate_left
      · intro wq hSw
        (try dsimp only at hSw)
        go_simp
        all_goals (with_reducible rfl)
      try simp only [Act.put, List.setIfInBounds_toArray, List.set_cons_zero, List.set_cons_succ]
      refine wpAnyH_take (i := 3) (v := ?_) (by simp only [List.getElem?_toArray, List.getElem?_cons_succ, List.getElem?_cons_zero]; rfl) (by kernel_rfl) (by kernel_rfl) (by kernel_rfl) (by exact fun _ _ _ h => h) (Or.inl ⟨by rfl, ?_⟩) (by assumption) ?_
      rotate_left
      · intro wq hSw
        (try dsimp only at hSw)
        go_simp
        all_goals (with_reducible rfl)
      try simp only [Act.put, List.setIfInBounds_toArray, List.set_cons_zero, List.set_cons_succ]
      refine wpAnyH_take (i := 4) (v := ?_) (by simp only [List.getElem?_toArray, List.getElem?_cons_succ, List.getElem?_cons_zero]; rfl) (by kernel_rfl) (by kernel_rfl) (by kernel_rfl) (by exact fun _ _ _ h => h) (Or.inl ⟨by rfl, ?_⟩) (by assumption) ?_
      rotate_left
      · intro wq hSw
        (try dsimp only at hSw)
        go_simp
        all_goals (with_reducible rfl)
      try simp only [Act.put, List.setIfInBounds_toArray, List.set_cons_zero, List.set_cons_succ]
      refine wpAnyH_take (i := 5) (v := ?_) (by simp only [List.getElem?_toArray, List.getElem?_cons_succ, List.getElem?_cons_zero]; rfl) (by kernel_rfl) (by kernel_rfl) (by kernel_rfl) (by exact fun _ _ _ h => h) (Or.inl ⟨by rfl, ?_⟩) (by assumption) ?_
      rotate_left
      · intro wq hSw
        (try dsimp only at hSw)
        go_simp
        all_goals (with_reducible rfl)
      try simp only [Act.put, List.setIfInBounds_toArray, List.set_cons_zero, List.set_cons_succ]
      refine wpAnyH_take (i := 6) (v := ?_) (by simp only [List.getElem?_toArray, List.getElem?_cons_succ, List.getElem?_cons_zero]; rfl) (by kernel_rfl) (by kernel_rfl) (by kernel_rfl) (by exact fun _ _ _ h => h) (Or.inl ⟨by rfl, ?_⟩) (by assumption) ?_
      rotate_left
      · intro wq hSw
        (try dsimp only at hSw)
        go_simp
        all_goals (with_reducible rfl)
      try simp only [Act.put, List.setIfInBounds_toArray, List.set_cons_zero, List.set_cons_succ]
      refine wpAnyH_take (i := 7) (v := ?_) (by simp only [List.getElem?_toArray, List.getElem?_cons_succ, List.getElem?_cons_zero]; rfl) (by kernel_rfl) (by kernel_rfl) (by kernel_rfl) (by exact fun _ _ _ h => h) (Or.inl ⟨by rfl, ?_⟩) (by assumption) ?_
      rotate_left
      · intro wq hSw
        (try dsimp only at hSw)
        go_simp
        all_goals (with_reducible rfl)
      try simp only [Act.put, List.setIfInBounds_toArray, List.set_cons_zero, List.set_cons_succ]
      refine wpAnyH_take (i := 8) (v := ?_) (by simp only [List.getElem?_toArray, List.getElem?_cons_succ, List.getElem?_cons_zero]; rfl) (by kernel_rfl) (by kernel_rfl) (by kernel_rfl) (by exact fun _ _ _ h => h) (Or.inl ⟨by rfl, ?_⟩) (by assumption) ?_
      rotate_left
      · intro wq hSw
        (try dsimp only at hSw)
        go_simp
        all_goals (with_reducible rfl)
      try simp only [Act.put, List.setIfInBounds_toArray, List.set_cons_zero, List.set_cons_succ]
      refine wpAnyH_ready (rs := [9]) (by kernel_rfl) (by simp) ?_
      refine AllReadyH.cons (by simp only [List.getElem?_toArray, List.getElem?_cons_succ, List.getElem?_cons_zero]; rfl) (fun K hK => ?_) AllReadyH.nil
      go_simp
      refine (same_yes _ _ A A _ _ cr cw _ rfl rfl (by simp) (by simp) (by exact HSB.out.of.2.2.2.on hHeld) (by exact (HWS.out.row' (by omega) HCB.out).on hHeld) rfl).mono ?_
      rintro E wr ⟨rfl, hwr⟩
      subst hwr
      go_wp2_with fail
      refine hK.out _ _ hHeld (fun hHeld => ?_)
      clear hK K
      try simp only [Act.put, List.setIfInBounds_toArray, List.set_cons_zero, List.set_cons_succ]
      refine wpAnyH_take (i := 10) (v := ?_) (by simp only [List.getElem?_toArray, List.getElem?_cons_succ, List.getElem?_cons_zero]; rfl) (by kernel_rfl) (by kernel_rfl) (by kernel_rfl) (by exact fun _ _ _ h => h) (Or.inl ⟨by rfl, ?_⟩) (by assumption) ?_
      rotate_left
      · intro wq hSw
        (try dsimp only at hSw)
        go_simp
        all_goals (with_reducible rfl)
      try simp only [Act.put, List.setIfInBounds_toArray, List.set_cons_zero, List.set_cons_succ]
      refine wpAnyH_take (i := 11) (v := ?_) (by simp only [List.getElem?_toArray, List.getElem?_cons_succ, List.getElem?_cons_zero]; rfl) (by kernel_rfl) (by kernel_rfl) (by kernel_rfl) (by exact fun _ _ _ h => h) (Or.inl ⟨by rfl, ?_⟩) (by assumption) ?_
      rotate_left
      · intro wq hSw
        (try dsimp only at hSw)
        go_simp
        all_goals (with_reducible rfl)
      try simp only [Act.put, List.setIfInBounds_toArray, List.set_cons_zero, List.set_cons_succ]
      refine wpAnyH_take (i := 12) (v := ?_) (by simp only [List.getElem?_toArray, List.getElem?_cons_succ, List.getElem?_cons_zero]; rfl) (by kernel_rfl) (by kernel_rfl) (by kernel_rfl) (by exact fun _ _ _ h => h) (Or.inl ⟨by rfl, ?_⟩) (by assumption) ?_
      rotate_left
      · intro wq hSw
        (try dsimp only at hSw)
        go_simp
        all_goals (with_reducible rfl)
      try simp only [Act.put, List.setIfInBounds_toArray, List.set_cons_zero, List.set_cons_succ]
      refine wpAnyH_take (i := 13) (v := ?_) (by simp only [List.getElem?_toArray, List.getElem?_cons_succ, List.getElem?_cons_zero]; rfl) (by kernel_rfl) (by kernel_rfl) (by kernel_rfl) (by exact fun _ _ _ h => h) (Or.inl ⟨by rfl, ?_⟩) (by assumption) ?_
      rotate_left
      · intro wq hSw
        (try dsimp only at hSw)
        go_simp
        all_goals (with_reducible rfl)
      try simp only [Act.put, List.setIfInBounds_toArray, List.set_cons_zero, List.set_cons_succ]
      refine wpAnyH_take (i := 14) (v := ?_) (by simp only [List.getElem?_toArray, List.getElem?_cons_succ, List.getElem?_cons_zero]; rfl) (by kernel_rfl) (by kernel_rfl) (by kernel_rfl) (by exact fun _ _ _ h => h) (Or.inl ⟨by rfl, ?_⟩) (by assumption) ?_
      rotate_left
      · intro wq hSw
        (try dsimp only at hSw)
        go_simp
        all_goals (with_reducible rfl)
      try simp only [Act.put, List.setIfInBounds_toArray, List.set_cons_zero, List.set_cons_succ]
      refine wpAnyH_take (i := 15) (v := ?_) (by simp only [List.getElem?_toArray, List.getElem?_cons_succ, List.getElem?_cons_zero]; rfl) (by kernel_rfl) (by kernel_rfl) (by kernel_rfl) (by exact fun _ _ _ h => h) (Or.inl ⟨by rfl, ?_⟩) (by assumption) ?_
      rotate_left
      · intro wq hSw
        (try dsimp only at hSw)
        go_simp
        all_goals (with_reducible rfl)
      try simp only [Act.put, List.setIfInBounds_toArray, List.set_cons_zero, List.set_cons_succ]
      refine wpAnyH_take (i := 16) (by simp only [List.getElem?_toArray, List.getElem?_cons_succ, List.getElem?_cons_zero]; rfl) (by kernel_rfl) (by kernel_rfl) (by kernel_rfl) (by exact fun _ _ _ h => h) (yields_ix0 (by rfl) _ _ rfl (A.length) rfl (by rfl) (by omega)) (by assumption) ?_
      try simp only [Act.put, List.setIfInBounds_toArray, List.set_cons_zero, List.set_cons_succ]
      refine wpAnyH_take (i := 17) (by simp only [List.getElem?_toArray, List.getElem?_cons_succ, List.getElem?_cons_zero]; rfl) (by kernel_rfl) (by kernel_rfl) (by kernel_rfl) (by exact fun _ _ _ h => h) (yields_ld (ad := ⟨gr, A.length, none⟩) (by rfl) _ rfl rfl (fun w' h => ld5 (by have := ((HRT.out.on h).cells A.length (by simp)).1; rw [this]))) (by assumption) ?_
      try simp only [Act.put, List.setIfInBounds_toArray, List.set_cons_zero, List.set_cons_succ]
      refine wpAnyH_take (i := 18) (v := ?_) (by simp only [List.getElem?_toArray, List.getElem?_cons_succ, List.getElem?_cons_zero]; rfl) (by kernel_rfl) (by kernel_rfl) (by kernel_rfl) (by exact fun _ _ _ h => h) (Or.inl ⟨by rfl, ?_⟩) (by assumption) ?_
      rotate_left
      · intro wq hSw
        (try dsimp only at hSw)
        go_simp
        all_goals (with_reducible rfl)
      try simp only [Act.put, List.setIfInBounds_toArray, List.set_cons_zero, List.set_cons_succ]
      refine wpAnyH_take (i := 19) (v := ?_) (by simp only [List.getElem?_toArray, List.getElem?_cons_succ, List.getElem?_cons_zero]; rfl) (by kernel_rfl) (by kernel_rfl) (by kernel_rfl) (by exact fun _ _ _ h => h) (Or.inl ⟨by rfl, ?_⟩) (by assumption) ?_
      rotate_left
      · intro wq hSw
        (try dsimp only at hSw)
        go_simp
        all_goals (with_reducible rfl)
      try simp only [Act.put, List.setIfInBounds_toArray, List.set_cons_zero, List.set_cons_succ]
      refine wpAnyH_take (i := 20) (v := ?_) (by simp only [List.getElem?_toArray, List.getElem?_cons_succ, List.getElem?_cons_zero]; rfl) (by kernel_rfl) (by kernel_rfl) (by kernel_rfl) (by exact fun _ _ _ h => h) (Or.inl ⟨by rfl, ?_⟩) (by assumption) ?_
      rotate_left
      · intro wq hSw
        (try dsimp only at hSw)
        go_simp
        all_goals (with_reducible rfl)
      try simp only [Act.put, List.setIfInBounds_toArray, List.set_cons_zero, List.set_cons_succ]
      refine wpAnyH_take (i := 21) (v := ?_) (by simp only [List.getElem?_toArray, List.getElem?_cons_succ, List.getElem?_cons_zero]; rfl) (by kernel_rfl) (by kernel_rfl) (by kernel_rfl) (by exact fun _ _ _ h => h) (Or.inl ⟨by rfl, ?_⟩) (by assumption) ?_
      rotate_left
      · intro wq hSw
        (try dsimp only at hSw)
        go_simp
        all_goals (with_reducible rfl)
      try simp only [Act.put, List.setIfInBounds_toArray, List.set_cons_zero, List.set_cons_succ]
      refine wpAnyH_take (i := 22) (v := ?_) (by simp only [List.getElem?_toArray, List.getElem?_cons_succ, List.getElem?_cons_zero]; rfl) (by kernel_rfl) (by kernel_rfl) (by kernel_rfl) (by exact fun _ _ _ h => h) (Or.inl ⟨by rfl, ?_⟩) (by assumption) ?_
      rotate_left
      · intro wq hSw
        (try dsimp only at hSw)
        go_simp
        all_goals (with_reducible rfl)
      try simp only [Act.put, List.setIfInBounds_toArray, List.set_cons_zero, List.set_cons_succ]
      refine wpAnyH_take (i := 23) (v := ?_) (by simp only [List.getElem?_toArray, List.getElem?_cons_succ, List.getElem?_cons_zero]; rfl) (by kernel_rfl) (by kernel_rfl) (by kernel_rfl) (by exact fun _ _ _ h => h) (Or.inl ⟨by rfl, ?_⟩) (by assumption) ?_
      rotate_left
      · intro wq hSw
        (try dsimp only at hSw)
        go_simp
        all_goals (with_reducible rfl)
      try simp only [Act.put, List.setIfInBounds_toArray, List.set_cons_zero, List.set_cons_succ]
      have w42 : IntKind.i64.wrap ((A.length : Int) + 1) = ((A.length + 1 : Nat) : Int) := by rw [IntKind.wrap_i64]; omega
      refine wpAnyH_take (i := 24) (v := ?_) (by simp only [List.getElem?_toArray, List.getElem?_cons_succ, List.getElem?_cons_zero]; rfl) (by kernel_rfl) (by kernel_rfl) (by kernel_rfl) (by exact fun _ _ _ h => h) (Or.inl ⟨by rfl, ?_⟩) (by assumption) ?_
      rotate_left
      · intro wq hSw
        (try dsimp only at hSw)
        go_simp
        all_goals (with_reducible rfl)
      try simp only [Act.put, List.setIfInBounds_toArray, List.set_cons_zero, List.set_cons_succ]
      refine wpAnyH_take (i := 25) (by simp only [List.getElem?_toArray, List.getElem?_cons_succ, List.getElem?_cons_zero]; rfl) (by kernel_rfl) (by kernel_rfl) (by kernel_rfl) (by exact fun _ _ _ h => h) (yields_ix0 (by rfl) _ _ rfl (A.length + 1) rfl (by rfl) (by omega)) (by assumption) ?_
      try simp only [Act.put, List.setIfInBounds_toArray, List.set_cons_zero, List.set_cons_succ]
      refine wpAnyH_take (i := 26) (by simp only [List.getElem?_toArray, List.getElem?_cons_succ, List.getElem?_cons_zero]; rfl) (by kernel_rfl) (by kernel_rfl) (by kernel_rfl) (by exact fun _ _ _ h => h) (yields_ld (ad := ⟨gr, A.length + 1, none⟩) (by rfl) _ rfl rfl (fun w' h => ld5 (by have := ((HRT.out.on h).cells (A.length + 1) (by simp)).1; rw [this]))) (by assumption) ?_
      try simp only [Act.put, List.setIfInBounds_toArray, List.set_cons_zero, List.set_cons_succ]
      refine wpAnyH_take (i := 27) (v := ?_) (by simp only [List.getElem?_toArray, List.getElem?_cons_succ, List.getElem?_cons_zero]; rfl) (by kernel_rfl) (by kernel_rfl) (by kernel_rfl) (by exact fun _ _ _ h => h) (Or.inl ⟨by rfl, ?_⟩) (by assumption) ?_
      rotate_left
      · intro wq hSw
        (try dsimp only at hSw)
        go_simp
        all_goals (with_reducible rfl)
      try simp only [Act.put, List.setIfInBounds_toArray, List.set_cons_zero, List.set_cons_succ]
      refine wpAnyH_take (i := 28) (v := ?_) (by simp only [List.getElem?_toArray, List.getElem?_cons_succ, List.getElem?_cons_zero]; rfl) (by kernel_rfl) (by kernel_rfl) (by kernel_rfl) (by exact fun _ _ _ h => h) (Or.inl ⟨by rfl, ?_⟩) (by assumption) ?_
      rotate_left
      · intro wq hSw
        (try dsimp only at hSw)
        go_simp
        all_goals (with_reducible rfl)
      try simp only [Act.put, List.setIfInBounds_toArray, List.set_cons_zero, List.set_cons_succ]
      refine wpAnyH_take (i := 29) (v := ?_) (by simp only [List.getElem?_toArray, List.getElem?_cons_succ, List.getElem?_cons_zero]; rfl) (by kernel_rfl) (by kernel_rfl) (by kernel_rfl) (by exact fun _ _ _ h => h) (Or.inl ⟨by rfl, ?_⟩) (by assumption) ?_
      rotate_left
      · intro wq hSw
        (try dsimp only at hSw)
        go_simp
        all_goals (with_reducible rfl)
      try simp only [Act.put, List.setIfInBounds_toArray, List.set_cons_zero, List.set_cons_succ]
      refine wpAnyH_take (i := 30) (by simp only [List.getElem?_toArray, List.getElem?_cons_succ, List.getElem?_cons_zero]; rfl) (by kernel_rfl) (by kernel_rfl) (by kernel_rfl) (by exact fun _ _ _ h => h) (yields_ld (ad := ⟨g16, 0, none⟩) (by rfl) _ rfl rfl (fun w' h => load28_run (H16.out.on h) HQW.out.ad)) (by assumption) ?_
      try simp only [Act.put, List.setIfInBounds_toArray, List.set_cons_zero, List.set_cons_succ]
      refine wpAnyH_take (i := 31) (by simp only [List.getElem?_toArray, List.getElem?_cons_succ, List.getElem?_cons_zero]; rfl) (by kernel_rfl) (by kernel_rfl) (by kernel_rfl) (by exact fun _ _ _ h => h) (yields_ld (ad := ⟨g1, 0, none⟩) (by rfl) _ rfl rfl (fun w' h => load28_run (H1.out.on h) HQW.out.ad)) (by assumption) ?_
      try simp only [Act.put, List.setIfInBounds_toArray, List.set_cons_zero, List.set_cons_succ]
      refine wpAnyH_ready (rs := [32]) (by kernel_rfl) (by simp) ?_
      refine AllReadyH.cons (by simp only [List.getElem?_toArray, List.getElem?_cons_succ, List.getElem?_cons_zero]; rfl) (fun K hK => ?_) AllReadyH.nil
      go_simp
      refine (sameP_yes q q _ _ _ _ _ (by exact (HX.out.pkt HQW.out).on hHeld) (by exact (HM.out.pkt HQW.out).on hHeld) rfl).mono ?_
      rintro E wr ⟨rfl, haw⟩
      have hS2 := hHeld.on haw
      clear hHeld
      go_wp2_with fail
      refine hK.out _ _ hS2 (fun hHeld => ?_)
      clear hK K
      try simp only [Act.put, List.setIfInBounds_toArray, List.set_cons_zero, List.set_cons_succ]
      refine wpAnyH_take (i := 33) (v := ?_) (by simp only [List.getElem?_toArray, List.getElem?_cons_succ, List.getElem?_cons_zero]; rfl) (by kernel_rfl) (by kernel_rfl) (by kernel_rfl) (by exact fun _ _ _ h => h) (Or.inl ⟨by rfl, ?_⟩) (by assumption) ?_
      rotate_left
      · intro wq hSw
        (try dsimp only at hSw)
        go_simp
        all_goals (with_reducible rfl)
      try simp only [Act.put, List.setIfInBounds_toArray, List.set_cons_zero, List.set_cons_succ]
      refine wpAnyH_take (i := 34) (v := ?_) (by simp only [List.getElem?_toArray, List.getElem?_cons_succ, List.getElem?_cons_zero]; rfl) (by kernel_rfl) (by kernel_rfl) (by kernel_rfl) (by exact fun _ _ _ h => h) (Or.inl ⟨by rfl, ?_⟩) (by assumption) ?_
      rotate_left
      · intro wq hSw
        (try dsimp only at hSw)
        go_simp
        all_goals (with_reducible rfl)
      try simp only [Act.put, List.setIfInBounds_toArray, List.set_cons_zero, List.set_cons_succ]
      refine wpAnyH_take (i := 35) (v := ?_) (by simp only [List.getElem?_toArray, List.getElem?_cons_succ, List.getElem?_cons_zero]; rfl) (by kernel_rfl) (by kernel_rfl) (by kernel_rfl) (by exact fun _ _ _ h => h) (Or.inl ⟨by rfl, ?_⟩) (by assumption) ?_
      rotate_left
      · intro wq hSw
        (try dsimp only at hSw)
        go_simp
        all_goals (with_reducible rfl)
      try simp only [Act.put, List.setIfInBounds_toArray, List.set_cons_zero, List.set_cons_succ]
      refine wpAnyH_take (i := 36) (by simp only [List.getElem?_toArray, List.getElem?_cons_succ, List.getElem?_cons_zero]; rfl) (by kernel_rfl) (by kernel_rfl) (by kernel_rfl) (by exact fun _ _ _ h => h) (yields_ld (ad := ⟨g18, 0, none⟩) (by rfl) _ rfl rfl (fun w' h => load28_run (H18.out.on h) ex_wf.ad)) (by assumption) ?_
      try simp only [Act.put, List.setIfInBounds_toArray, List.set_cons_zero, List.set_cons_succ]
      refine wpAnyH_ready (rs := [37]) (by kernel_rfl) (by simp) ?_
      refine AllReadyH.cons (by simp only [List.getElem?_toArray, List.getElem?_cons_succ, List.getElem?_cons_zero]; rfl) (fun K hK => ?_) AllReadyH.nil
      go_simp
      refine (piece_c _).mono ?_
      rintro E wr2 ⟨po, pd, rfl, hpm, haw⟩
      have hS3 := hHeld.on haw
      clear hHeld haw
      go_wp2_with fail
      refine hK.out _ _ hS3 (fun hHeld => ?_)
      clear hK K
      try simp only [Act.put, List.setIfInBounds_toArray, List.set_cons_zero, List.set_cons_succ]
      refine wpAnyH_ready (rs := [38]) (by kernel_rfl) (by simp) ?_
      refine AllReadyH.cons (by simp only [List.getElem?_toArray, List.getElem?_cons_succ, List.getElem?_cons_zero]; rfl) (fun K hK => ?_) AllReadyH.nil
      go_simp
      refine (sameP_yes exP exP _ _ _ _ _ (by exact (HZ.out.pkt ex_wf).on hHeld) (by exact hpm.pkt ex_wf) rfl).mono ?_
      rintro E wr3 ⟨rfl, haw⟩
      have hS4 := hHeld.on haw
      clear hHeld haw hpm
      go_wp2_with fail
      refine hK.out _ _ hS4 (fun hHeld => ?_)
      clear hK K
      try simp only [Act.put, List.setIfInBounds_toArray, List.set_cons_zero, List.set_cons_succ]
      refine wpAnyH_take (i := 39) (v := ?_) (by simp only [List.getElem?_toArray, List.getElem?_cons_succ, List.getElem?_cons_zero]; rfl) (by kernel_rfl) (by kernel_rfl) (by kernel_rfl) (by exact fun _ _ _ h => h) (Or.inl ⟨by rfl, ?_⟩) (by assumption) ?_
      rotate_left
      · intro wq hSw
        (try dsimp only at hSw)
        go_simp
        all_goals (with_reducible rfl)
      try simp only [Act.put, List.setIfInBounds_toArray, List.set_cons_zero, List.set_cons_succ]
      refine wpAnyH_take (i := 40) (v := ?_) (by simp only [List.getElem?_toArray, List.getElem?_cons_succ, List.getElem?_cons_zero]; rfl) (by kernel_rfl) (by kernel_rfl) (by kernel_rfl) (by exact fun _ _ _ h => h) (Or.inl ⟨by rfl, ?_⟩) (by assumption) ?_
      rotate_left
      · intro wq hSw
        (try dsimp only at hSw)
        go_simp
        all_goals (with_reducible rfl)
      try simp only [Act.put, List.setIfInBounds_toArray, List.set_cons_zero, List.set_cons_succ]
      refine wpAnyH_done (by kernel_rfl) ?_ _
      exact ⟨⟨po, pd, rfl⟩, hHeld⟩
  intro po pd wr3 hHeld
  have haw := hHeld
  clear hHeld
  have hz20 := Lib.hid haw.size
  replace HA := Lib.hid (HA.out.on haw)
  replace H1 := Lib.hid (H1.out.on haw)
  replace HM := Lib.hid (HM.out.on haw)
  replace HSD := Lib.hid (HSD.out.on haw)
  replace HDT := Lib.hid (HDT.out.on haw)
  replace H6 := Lib.hid (H6.out.on haw)
  replace HSI := Lib.hid (HSI.out.on haw)
  replace HO1 := Lib.hid (HO1.out.on haw)
  replace HO2 := Lib.hid (HO2.out.on haw)
  replace HO3 := Lib.hid (HO3.out.on haw)
  replace HSA := Lib.hid (HSA.out.on haw)
  replace HWS := Lib.hid (HWS.out.on haw)
  replace HRT := Lib.hid (HRT.out.on haw)
  replace HSB := Lib.hid (HSB.out.on haw)
  replace HX := Lib.hid (HX.out.on haw)
  replace H16 := Lib.hid (H16.out.on haw)
  replace HZ := Lib.hid (HZ.out.on haw)
  replace H18 := Lib.hid (H18.out.on haw)
  replace HY := Lib.hid (HY.out.on haw)
  replace HUP := Lib.hid (HUP.out.on haw)
  replace H20 := Lib.hid (H20.out.on haw)
  clear haw
  have HDT2 : Hid (Owns wr3 (.slice (some ⟨gd, 0, none⟩) (q.d.length + 2) cd) (q.d ++ [161, 162])) := by
    have := HDT.out
    rw [List.length_append] at this
    exact this
  have HRT2 : Hid (Owns wr3 (.slice (some ⟨gr, 0, none⟩) (A.length + 2) cr) (headB q ++ (q.d ++ [177, 178]))) := by
    have := HRT.out
    rw [List.length_append] at this
    show Owns _ _ _
    rw [← List.append_assoc, ← HLS.out]
    exact this
  have hgd0 := hgd; have hgr0 := hgr
  have hgdr : gd < gr := by have z0 := hz0.out; have z1 := hz1.out; have z2 := hz2.out; have z3 := hz3.out; have z4 := hz4.out; have z5 := hz5.out; have z6 := hz6.out; have z7 := hz7.out; have z8 := hz8.out; have z9 := hz9.out; have z10 := hz10.out; have z11 := hz11.out; have z12 := hz12.out; have z13 := hz13.out; have z14 := hz14.out; have z15 := hz15.out; have z16 := hz16.out; have z17 := hz17.out; have z18 := hz18.out; have z19 := hz19.out; have z20 := hz20.out; have h1 := hgdl.out; omega
  have hne1 : gd ≠ gr := by omega
  have hne2 : gr ≠ gd := by omega
  have hHn : A.length = (headB q).length + q.d.length := HHL.out
  have HHN := Lib.hid hHn
  clear hHn
  clear HDT HRT HSI HSB
  go_wp2_with fail
  go_loopw [22] (fun i wr => ∃ k : Nat, k ≤ q.d.length ∧ i = .int .i64 (k : Int) ∧ Away [gd, gr] wr3 wr ∧ Owns wr (.slice (some ⟨gd, 0, none⟩) (q.d.length + 2) cd) (inc 1 k q.d ++ [161, 162]) ∧ Owns wr (.slice (some ⟨gr, 0, none⟩) (A.length + 2) cr) (headB q ++ (inc 2 k q.d ++ [177, 178]))) (fun i _ => q.d.length - (intOf i).toNat)
  case atStart => exact ⟨0, by omega, rfl, Away.refl _ _, by rw [inc_zero]; exact HDT2.out, by rw [inc_zero]; exact HRT2.out⟩
  case round =>
    obtain ⟨k, hk, rfl, haw, hod, hor⟩ := hrel
    have HAW := Lib.hid haw; have HOD := Lib.hid hod; have HOR := Lib.hid hor
    clear haw hod hor
    by_cases hlt : k < q.d.length
    · have hb := HQD.out.getD k
      have e1 : (inc 1 k q.d ++ [161, 162])[k]?.getD 0 = q.d[k]?.getD 0 := by rw [List.getElem?_append_left (by rw [inc_len]; exact hlt), inc_get hlt]
      have e2 : (headB q ++ (inc 2 k q.d ++ [177, 178]))[(headB q).length + k]?.getD 0 = q.d[k]?.getD 0 := by
        rw [List.getElem?_append_right (by omega), show (headB q).length + k - (headB q).length = k by omega, List.getElem?_append_left (by rw [inc_len]; exact hlt), inc_get hlt]
      have l1 : (inc 1 k q.d ++ [161, 162]).length = q.d.length + 2 := by rw [List.length_append, inc_len]; rfl
      have l2 : (headB q ++ (inc 2 k q.d ++ [177, 178])).length = A.length + 2 := by rw [List.length_append, List.length_append, inc_len, HHN.out]; simp; omega
      obtain ⟨c0, f0⟩ := HOD.out.cells k (by omega)
      rw [e1] at c0
      have g1' : (inc 1 k q.d ++ [161, 162]).set k ((q.d[k]?.getD 0 + 1) % 256) = inc 1 (k + 1) q.d ++ [161, 162] := by rw [List.set_append_left _ _ (by rw [inc_len]; exact hlt), inc_step hlt]
      have g2' : (headB q ++ (inc 2 k q.d ++ [177, 178])).set ((headB q).length + k) ((q.d[k]?.getD 0 + 2) % 256) = headB q ++ (inc 2 (k + 1) q.d ++ [177, 178]) := by
        rw [List.set_append_right _ _ (by omega), show (headB q).length + k - (headB q).length = k by omega, List.set_append_left _ _ (by rw [inc_len]; exact hlt), inc_step hlt]
      have HD2 : Hid (Owns (wr.setCell ⟨gd, k, none⟩ (.int .u8 ((q.d[k]?.getD 0 + 1) % 256))) (.slice (some ⟨gd, 0, none⟩) (q.d.length + 2) cd) (inc 1 (k + 1) q.d ++ [161, 162])) := by rw [← g1']; exact HOD.out.set l1 k _
      have haw1 := away_put (w := wr) (g := gd) k (.int .u8 ((q.d[k]?.getD 0 + 1) % 256))
      have HR2 := Lib.hid (HOR.out.away haw1 (fun j hj => by simp [Value.ownBlock] at hj; simp; omega))
      have HAW2 := Lib.hid (HAW.out.trans (haw1.mono (T := [gd, gr]) (by simp)))
      obtain ⟨c1, f1⟩ := HR2.out.cells ((headB q).length + k) (by have := HHN.out; omega)
      rw [e2] at c1
      have HR3 : Hid (Owns ((wr.setCell ⟨gd, k, none⟩ (.int .u8 ((q.d[k]?.getD 0 + 1) % 256))).setCell ⟨gr, (headB q).length + k, none⟩ (.int .u8 ((q.d[k]?.getD 0 + 2) % 256))) (.slice (some ⟨gr, 0, none⟩) (A.length + 2) cr) (headB q ++ (inc 2 (k + 1) q.d ++ [177, 178]))) := by rw [← g2']; exact HR2.out.set l2 _ _
      have haw2 := away_put (w := wr.setCell ⟨gd, k, none⟩ (.int .u8 ((q.d[k]?.getD 0 + 1) % 256))) (g := gr) ((headB q).length + k) (.int .u8 ((q.d[k]?.getD 0 + 2) % 256))
      have HD3 := Lib.hid (HD2.out.away haw2 (fun j hj => by simp [Value.ownBlock] at hj; simp; omega))
      have HAW3 := Lib.hid (HAW2.out.trans (haw2.mono (T := [gd, gr]) (by simp)))
      clear haw1 haw2 e1 e2 g1' g2' l1 l2 HOD HOR HAW HR2 HD2 HAW2
      generalize q.d[k]?.getD 0 = x at *
      obtain ⟨x0, x1⟩ := hb
      have t1 : (k : Int) < (q.d.length : Int) := by omega
      have t2 : (k : Int) < ((q.d.length + 2 : Nat) : Int) := by omega
      have t4 : ((k : Int)).toNat = k := by omega
      have u1 : IntKind.u8.wrap (x + 1) = (x + 1) % 256 := by rw [IntKind.wrap_u8']
      have u2 : IntKind.u8.wrap (x + 2) = (x + 2) % 256 := by rw [IntKind.wrap_u8']
      have j0 : (A.length : Int) - (q.d.length : Int) + (k : Int) = (((headB q).length + k : Nat) : Int) := by have := HHN.out; omega
      have j1 : (headB q).length + k < A.length := by have := HHN.out; omega
      go_upto_region 26 with fail
      clear c0 f0
      generalize wr.setCell ⟨gd, k, none⟩ (.int .u8 ((x + 1) % 256)) = wq at *
      go_wp2_with fail
      go_roundw
      case rel => exact ⟨k + 1, by omega, by go_num, HAW3.out, HD3.out, HR3.out⟩
      case measure => simp [intOf]; omega
    · obtain rfl : k = q.d.length := by omega
      have hzL := Lib.hid HAW.out.size
      replace HA := Lib.hid (HA.out.next HAW.out (fun x hx => .inr (by have z0 := hz0.out; have z1 := hz1.out; have z2 := hz2.out; have z3 := hz3.out; have z4 := hz4.out; have z5 := hz5.out; have z6 := hz6.out; have z7 := hz7.out; have z8 := hz8.out; have z9 := hz9.out; have z10 := hz10.out; have z11 := hz11.out; have z12 := hz12.out; have z13 := hz13.out; have z14 := hz14.out; have z15 := hz15.out; have z16 := hz16.out; have z17 := hz17.out; have z18 := hz18.out; have z19 := hz19.out; have z20 := hz20.out; have y1 := HLQ0.out.2.2; have y2 := hgdl.out; have y3 := HLR.out gr rfl; have y4 := HLW.out; have y5 := HNW.out gw rfl; have y6 := HV1.out ga rfl; have y7 := HV2.out go rfl; have y8 := HV3.out gb rfl; simp at hx; omega)))
      replace H1 := Lib.hid (H1.out.away HAW.out (by have z0 := hz0.out; have z1 := hz1.out; have z2 := hz2.out; have z3 := hz3.out; have z4 := hz4.out; have z5 := hz5.out; have z6 := hz6.out; have z7 := hz7.out; have z8 := hz8.out; have z9 := hz9.out; have z10 := hz10.out; have z11 := hz11.out; have z12 := hz12.out; have z13 := hz13.out; have z14 := hz14.out; have z15 := hz15.out; have z16 := hz16.out; have z17 := hz17.out; have z18 := hz18.out; have z19 := hz19.out; have z20 := hz20.out; have y1 := HLQ0.out.2.2; have y2 := hgdl.out; have y3 := HLR.out gr rfl; have y4 := HLW.out; have y5 := HNW.out gw rfl; have y6 := HV1.out ga rfl; have y7 := HV2.out go rfl; have y8 := HV3.out gb rfl; simp; omega))
      replace H6 := Lib.hid (H6.out.away HAW.out (by have z0 := hz0.out; have z1 := hz1.out; have z2 := hz2.out; have z3 := hz3.out; have z4 := hz4.out; have z5 := hz5.out; have z6 := hz6.out; have z7 := hz7.out; have z8 := hz8.out; have z9 := hz9.out; have z10 := hz10.out; have z11 := hz11.out; have z12 := hz12.out; have z13 := hz13.out; have z14 := hz14.out; have z15 := hz15.out; have z16 := hz16.out; have z17 := hz17.out; have z18 := hz18.out; have z19 := hz19.out; have z20 := hz20.out; have y1 := HLQ0.out.2.2; have y2 := hgdl.out; have y3 := HLR.out gr rfl; have y4 := HLW.out; have y5 := HNW.out gw rfl; have y6 := HV1.out ga rfl; have y7 := HV2.out go rfl; have y8 := HV3.out gb rfl; simp; omega))
      replace H16 := Lib.hid (H16.out.away HAW.out (by have z0 := hz0.out; have z1 := hz1.out; have z2 := hz2.out; have z3 := hz3.out; have z4 := hz4.out; have z5 := hz5.out; have z6 := hz6.out; have z7 := hz7.out; have z8 := hz8.out; have z9 := hz9.out; have z10 := hz10.out; have z11 := hz11.out; have z12 := hz12.out; have z13 := hz13.out; have z14 := hz14.out; have z15 := hz15.out; have z16 := hz16.out; have z17 := hz17.out; have z18 := hz18.out; have z19 := hz19.out; have z20 := hz20.out; have y1 := HLQ0.out.2.2; have y2 := hgdl.out; have y3 := HLR.out gr rfl; have y4 := HLW.out; have y5 := HNW.out gw rfl; have y6 := HV1.out ga rfl; have y7 := HV2.out go rfl; have y8 := HV3.out gb rfl; simp; omega))
      replace H18 := Lib.hid (H18.out.away HAW.out (by have z0 := hz0.out; have z1 := hz1.out; have z2 := hz2.out; have z3 := hz3.out; have z4 := hz4.out; have z5 := hz5.out; have z6 := hz6.out; have z7 := hz7.out; have z8 := hz8.out; have z9 := hz9.out; have z10 := hz10.out; have z11 := hz11.out; have z12 := hz12.out; have z13 := hz13.out; have z14 := hz14.out; have z15 := hz15.out; have z16 := hz16.out; have z17 := hz17.out; have z18 := hz18.out; have z19 := hz19.out; have z20 := hz20.out; have y1 := HLQ0.out.2.2; have y2 := hgdl.out; have y3 := HLR.out gr rfl; have y4 := HLW.out; have y5 := HNW.out gw rfl; have y6 := HV1.out ga rfl; have y7 := HV2.out go rfl; have y8 := HV3.out gb rfl; simp; omega))
      replace H20 := Lib.hid (H20.out.away HAW.out (by have z0 := hz0.out; have z1 := hz1.out; have z2 := hz2.out; have z3 := hz3.out; have z4 := hz4.out; have z5 := hz5.out; have z6 := hz6.out; have z7 := hz7.out; have z8 := hz8.out; have z9 := hz9.out; have z10 := hz10.out; have z11 := hz11.out; have z12 := hz12.out; have z13 := hz13.out; have z14 := hz14.out; have z15 := hz15.out; have z16 := hz16.out; have z17 := hz17.out; have z18 := hz18.out; have z19 := hz19.out; have z20 := hz20.out; have y1 := HLQ0.out.2.2; have y2 := hgdl.out; have y3 := HLR.out gr rfl; have y4 := HLW.out; have y5 := HNW.out gw rfl; have y6 := HV1.out ga rfl; have y7 := HV2.out go rfl; have y8 := HV3.out gb rfl; simp; omega))
      replace HO1 := Lib.hid (HO1.out.away HAW.out (fun k hk => by have z0 := hz0.out; have z1 := hz1.out; have z2 := hz2.out; have z3 := hz3.out; have z4 := hz4.out; have z5 := hz5.out; have z6 := hz6.out; have z7 := hz7.out; have z8 := hz8.out; have z9 := hz9.out; have z10 := hz10.out; have z11 := hz11.out; have z12 := hz12.out; have z13 := hz13.out; have z14 := hz14.out; have z15 := hz15.out; have z16 := hz16.out; have z17 := hz17.out; have z18 := hz18.out; have z19 := hz19.out; have z20 := hz20.out; have y1 := HLQ0.out.2.2; have y2 := hgdl.out; have y3 := HLR.out gr rfl; have y4 := HLW.out; have y5 := HNW.out gw rfl; have y6 := HV1.out ga rfl; have y7 := HV2.out go rfl; have y8 := HV3.out gb rfl; simp [Value.ownBlock] at hk; simp; omega))
      replace HO2 := Lib.hid (HO2.out.away HAW.out (fun k hk => by have z0 := hz0.out; have z1 := hz1.out; have z2 := hz2.out; have z3 := hz3.out; have z4 := hz4.out; have z5 := hz5.out; have z6 := hz6.out; have z7 := hz7.out; have z8 := hz8.out; have z9 := hz9.out; have z10 := hz10.out; have z11 := hz11.out; have z12 := hz12.out; have z13 := hz13.out; have z14 := hz14.out; have z15 := hz15.out; have z16 := hz16.out; have z17 := hz17.out; have z18 := hz18.out; have z19 := hz19.out; have z20 := hz20.out; have y1 := HLQ0.out.2.2; have y2 := hgdl.out; have y3 := HLR.out gr rfl; have y4 := HLW.out; have y5 := HNW.out gw rfl; have y6 := HV1.out ga rfl; have y7 := HV2.out go rfl; have y8 := HV3.out gb rfl; simp [Value.ownBlock] at hk; simp; omega))
      replace HO3 := Lib.hid (HO3.out.away HAW.out (fun k hk => by have z0 := hz0.out; have z1 := hz1.out; have z2 := hz2.out; have z3 := hz3.out; have z4 := hz4.out; have z5 := hz5.out; have z6 := hz6.out; have z7 := hz7.out; have z8 := hz8.out; have z9 := hz9.out; have z10 := hz10.out; have z11 := hz11.out; have z12 := hz12.out; have z13 := hz13.out; have z14 := hz14.out; have z15 := hz15.out; have z16 := hz16.out; have z17 := hz17.out; have z18 := hz18.out; have z19 := hz19.out; have z20 := hz20.out; have y1 := HLQ0.out.2.2; have y2 := hgdl.out; have y3 := HLR.out gr rfl; have y4 := HLW.out; have y5 := HNW.out gw rfl; have y6 := HV1.out ga rfl; have y7 := HV2.out go rfl; have y8 := HV3.out gb rfl; simp [Value.ownBlock] at hk; simp; omega))
      replace HWS := Lib.hid (HWS.out.away HAW.out (fun k hk => by have z0 := hz0.out; have z1 := hz1.out; have z2 := hz2.out; have z3 := hz3.out; have z4 := hz4.out; have z5 := hz5.out; have z6 := hz6.out; have z7 := hz7.out; have z8 := hz8.out; have z9 := hz9.out; have z10 := hz10.out; have z11 := hz11.out; have z12 := hz12.out; have z13 := hz13.out; have z14 := hz14.out; have z15 := hz15.out; have z16 := hz16.out; have z17 := hz17.out; have z18 := hz18.out; have z19 := hz19.out; have z20 := hz20.out; have y1 := HLQ0.out.2.2; have y2 := hgdl.out; have y3 := HLR.out gr rfl; have y4 := HLW.out; have y5 := HNW.out gw rfl; have y6 := HV1.out ga rfl; have y7 := HV2.out go rfl; have y8 := HV3.out gb rfl; simp [Value.ownBlock] at hk; simp; omega))
      replace HM := Lib.hid (Mine.mk (HM.out.o.away HAW.out (fun k hk => by have z0 := hz0.out; have z1 := hz1.out; have z2 := hz2.out; have z3 := hz3.out; have z4 := hz4.out; have z5 := hz5.out; have z6 := hz6.out; have z7 := hz7.out; have z8 := hz8.out; have z9 := hz9.out; have z10 := hz10.out; have z11 := hz11.out; have z12 := hz12.out; have z13 := hz13.out; have z14 := hz14.out; have z15 := hz15.out; have z16 := hz16.out; have z17 := hz17.out; have z18 := hz18.out; have z19 := hz19.out; have z20 := hz20.out; have y1 := HLQ0.out.2.2; have y2 := hgdl.out; have y3 := HLR.out gr rfl; have y4 := HLW.out; have y5 := HNW.out gw rfl; have y6 := HV1.out ga rfl; have y7 := HV2.out go rfl; have y8 := HV3.out gb rfl; have h1 := HLQ0.out.1 k hk; simp; omega)) (HM.out.d.away HAW.out (fun k hk => by have z0 := hz0.out; have z1 := hz1.out; have z2 := hz2.out; have z3 := hz3.out; have z4 := hz4.out; have z5 := hz5.out; have z6 := hz6.out; have z7 := hz7.out; have z8 := hz8.out; have z9 := hz9.out; have z10 := hz10.out; have z11 := hz11.out; have z12 := hz12.out; have z13 := hz13.out; have z14 := hz14.out; have z15 := hz15.out; have z16 := hz16.out; have z17 := hz17.out; have z18 := hz18.out; have z19 := hz19.out; have z20 := hz20.out; have y1 := HLQ0.out.2.2; have y2 := hgdl.out; have y3 := HLR.out gr rfl; have y4 := HLW.out; have y5 := HNW.out gw rfl; have y6 := HV1.out ga rfl; have y7 := HV2.out go rfl; have y8 := HV3.out gb rfl; have h1 := HLQ0.out.2.1 k hk; simp; omega)) HM.out.no HM.out.nd HM.out.ap)
      replace HX := Lib.hid (Mine.mk (HX.out.o.away HAW.out (fun k hk => by have z0 := hz0.out; have z1 := hz1.out; have z2 := hz2.out; have z3 := hz3.out; have z4 := hz4.out; have z5 := hz5.out; have z6 := hz6.out; have z7 := hz7.out; have z8 := hz8.out; have z9 := hz9.out; have z10 := hz10.out; have z11 := hz11.out; have z12 := hz12.out; have z13 := hz13.out; have z14 := hz14.out; have z15 := hz15.out; have z16 := hz16.out; have z17 := hz17.out; have z18 := hz18.out; have z19 := hz19.out; have z20 := hz20.out; have y1 := HLQ0.out.2.2; have y2 := hgdl.out; have y3 := HLR.out gr rfl; have y4 := HLW.out; have y5 := HNW.out gw rfl; have y6 := HV1.out ga rfl; have y7 := HV2.out go rfl; have y8 := HV3.out gb rfl; have h1 := HX.out.no k hk; simp; omega)) (HX.out.d.away HAW.out (fun k hk => by have z0 := hz0.out; have z1 := hz1.out; have z2 := hz2.out; have z3 := hz3.out; have z4 := hz4.out; have z5 := hz5.out; have z6 := hz6.out; have z7 := hz7.out; have z8 := hz8.out; have z9 := hz9.out; have z10 := hz10.out; have z11 := hz11.out; have z12 := hz12.out; have z13 := hz13.out; have z14 := hz14.out; have z15 := hz15.out; have z16 := hz16.out; have z17 := hz17.out; have z18 := hz18.out; have z19 := hz19.out; have z20 := hz20.out; have y1 := HLQ0.out.2.2; have y2 := hgdl.out; have y3 := HLR.out gr rfl; have y4 := HLW.out; have y5 := HNW.out gw rfl; have y6 := HV1.out ga rfl; have y7 := HV2.out go rfl; have y8 := HV3.out gb rfl; have h1 := HX.out.nd k hk; simp; omega)) HX.out.no HX.out.nd HX.out.ap)
      replace HZ := Lib.hid (Mine.mk (HZ.out.o.away HAW.out (fun k hk => by have z0 := hz0.out; have z1 := hz1.out; have z2 := hz2.out; have z3 := hz3.out; have z4 := hz4.out; have z5 := hz5.out; have z6 := hz6.out; have z7 := hz7.out; have z8 := hz8.out; have z9 := hz9.out; have z10 := hz10.out; have z11 := hz11.out; have z12 := hz12.out; have z13 := hz13.out; have z14 := hz14.out; have z15 := hz15.out; have z16 := hz16.out; have z17 := hz17.out; have z18 := hz18.out; have z19 := hz19.out; have z20 := hz20.out; have y1 := HLQ0.out.2.2; have y2 := hgdl.out; have y3 := HLR.out gr rfl; have y4 := HLW.out; have y5 := HNW.out gw rfl; have y6 := HV1.out ga rfl; have y7 := HV2.out go rfl; have y8 := HV3.out gb rfl; have h1 := HZ.out.no k hk; simp; omega)) (HZ.out.d.away HAW.out (fun k hk => by have z0 := hz0.out; have z1 := hz1.out; have z2 := hz2.out; have z3 := hz3.out; have z4 := hz4.out; have z5 := hz5.out; have z6 := hz6.out; have z7 := hz7.out; have z8 := hz8.out; have z9 := hz9.out; have z10 := hz10.out; have z11 := hz11.out; have z12 := hz12.out; have z13 := hz13.out; have z14 := hz14.out; have z15 := hz15.out; have z16 := hz16.out; have z17 := hz17.out; have z18 := hz18.out; have z19 := hz19.out; have z20 := hz20.out; have y1 := HLQ0.out.2.2; have y2 := hgdl.out; have y3 := HLR.out gr rfl; have y4 := HLW.out; have y5 := HNW.out gw rfl; have y6 := HV1.out ga rfl; have y7 := HV2.out go rfl; have y8 := HV3.out gb rfl; have h1 := HZ.out.nd k hk; simp; omega)) HZ.out.no HZ.out.nd HZ.out.ap)
      replace HY := Lib.hid (Mine.mk (HY.out.o.away HAW.out (fun k hk => by have z0 := hz0.out; have z1 := hz1.out; have z2 := hz2.out; have z3 := hz3.out; have z4 := hz4.out; have z5 := hz5.out; have z6 := hz6.out; have z7 := hz7.out; have z8 := hz8.out; have z9 := hz9.out; have z10 := hz10.out; have z11 := hz11.out; have z12 := hz12.out; have z13 := hz13.out; have z14 := hz14.out; have z15 := hz15.out; have z16 := hz16.out; have z17 := hz17.out; have z18 := hz18.out; have z19 := hz19.out; have z20 := hz20.out; have y1 := HLQ0.out.2.2; have y2 := hgdl.out; have y3 := HLR.out gr rfl; have y4 := HLW.out; have y5 := HNW.out gw rfl; have y6 := HV1.out ga rfl; have y7 := HV2.out go rfl; have y8 := HV3.out gb rfl; have h1 := HY.out.no k hk; simp; omega)) (HY.out.d.away HAW.out (fun k hk => by have z0 := hz0.out; have z1 := hz1.out; have z2 := hz2.out; have z3 := hz3.out; have z4 := hz4.out; have z5 := hz5.out; have z6 := hz6.out; have z7 := hz7.out; have z8 := hz8.out; have z9 := hz9.out; have z10 := hz10.out; have z11 := hz11.out; have z12 := hz12.out; have z13 := hz13.out; have z14 := hz14.out; have z15 := hz15.out; have z16 := hz16.out; have z17 := hz17.out; have z18 := hz18.out; have z19 := hz19.out; have z20 := hz20.out; have y1 := HLQ0.out.2.2; have y2 := hgdl.out; have y3 := HLR.out gr rfl; have y4 := HLW.out; have y5 := HNW.out gw rfl; have y6 := HV1.out ga rfl; have y7 := HV2.out go rfl; have y8 := HV3.out gb rfl; have h1 := HY.out.nd k hk; simp; omega)) HY.out.no HY.out.nd HY.out.ap)
      replace HUP := Lib.hid (HUP.out.on HAW.out)
      clear HSD HSA HDT2 HRT2
      obtain ⟨D1, hD1⟩ : ∃ D, D = inc 1 q.d.length q.d := ⟨_, rfl⟩
      obtain ⟨D2, hD2⟩ : ∃ D, D = inc 2 q.d.length q.d := ⟨_, rfl⟩
      have HL1 : Hid (D1.length = q.d.length) := by show _ = _; rw [hD1, inc_len]
      have HL2 : Hid (D2.length = q.d.length) := by show _ = _; rw [hD2, inc_len]
      have HB1 : Hid (Bytes D1) := by rw [hD1]; exact inc_bytes HQD.out
      have HB2 : Hid (Bytes D2) := by rw [hD2]; exact inc_bytes HQD.out
      have HE1 : Hid (∀ k, k < q.d.length → D1[k]?.getD 0 = (q.d[k]?.getD 0 + 1) % 256) := fun k hk => by rw [hD1]; exact inc_at hk
      have HE2 : Hid (∀ k, k < q.d.length → D2[k]?.getD 0 = (q.d[k]?.getD 0 + 2) % 256) := fun k hk => by rw [hD2]; exact inc_at hk
      rw [← hD1] at HOD
      rw [← hD2] at HOR
      clear hD1 hD2 HAW
      have HW1 : Hid (Wf { q with d := D1 }) := { HQW.out with d := HB1.out, dn := by show D1.length ≤ _; have := HL1.out; omega }
      have HW2 : Hid (Wf { q with d := D2 }) := { HQW.out with d := HB2.out, dn := by show D2.length ≤ _; have := HL2.out; omega }
      have HBC : Hid (build6 { q with d := D1 } = (headB q ++ D1, 0)) := by
        show _ = _
        rw [build_ok (right_data q D1 HL1.out HQR.out), lay_data q D1 HL1.out]
      have HPC : Hid (parse6 (headB q ++ D2) = ({ q with d := D2 }, 0)) := by
        show _ = _
        rw [← lay_data q D2 HL2.out]; exact parse_lay6 HW2.out (right_data q D2 HL2.out HQR.out)
      have HHB : Hid (Bytes (headB q)) := headB_bytes HQW.out ((right_iff q).1 HQR.out)
      obtain ⟨C, hC⟩ : ∃ C, C = headB q ++ D1 := ⟨_, rfl⟩
      have HCC : Hid (C = headB q ++ D1) := hC
      have HCL : Hid (C.length = A.length) := by show _ = _; rw [hC, List.length_append, HL1.out, HHN.out]
      have HCBy : Hid (Bytes C) := by rw [hC]; exact HHB.out.app HB1.out
      rw [← hC] at HBC
      obtain ⟨R, hR⟩ : ∃ R, R = headB q ++ D2 := ⟨_, rfl⟩
      have HRL : Hid (R.length = A.length) := by show _ = _; rw [hR, List.length_append, HL2.out, HHN.out]
      have HRBy : Hid (Bytes R) := by rw [hR]; exact HHB.out.app HB2.out
      rw [← hR] at HPC
      rw [← List.append_assoc, ← hR] at HOR
      obtain ⟨q2, hq2⟩ : ∃ q2 : Pk, q2 = { q with d := D2 } := ⟨_, rfl⟩
      rw [← hq2] at HPC HW2
      have HQ2D : Hid (q2.d = D2) := by show q2.d = D2; rw [hq2]
      have HSI : Hid (Sl wr (.slice (some ⟨gd, 0, none⟩) q.d.length cd) D1) := by
        have h := part_sl HOD.out HB1.out (b2 (by omega) (by omega) (by omega) (by omega)) (by have := HL1.out; simp; omega) (by have := HL1.out; omega)
        rw [HL1.out] at h; exact h
      have HSB : Hid (Sl wr (.slice (some ⟨gr, 0, none⟩) A.length cr) R) := by
        have h := part_sl HOR.out HRBy.out (b2 (by omega) (by omega) (by omega) (by omega)) (by have := HRL.out; simp; omega) (by have := HRL.out; omega)
        rw [HRL.out] at h; exact h
      have KB : Hid (∀ w, Pkt w { q with d := D1 } oq (.slice (some ⟨gd, 0, none⟩) q.d.length cd) → Calls Try.prog 11 #[.agg (csP q oq (.slice (some ⟨gd, 0, none⟩) q.d.length cd))] w fun E w' => BuildOut w { q with d := D1 } E w') := fun w h => build_c { q with d := D1 } oq _ w h
      clear hC hR hq2
      go_wp2_with (first | (refine wpList_load28 rfl _ rfl g6 rfl q _ _ (by exact H6.out) HQW.out.ad ?_))
      have hup := HUP
      refine (KB.out _ (by exact ⟨HW1.out, HM.out.o.sl HQW.out.o HQW.out.ol, HSI.out⟩)).mono ?_
      rintro E w20 ⟨bc, rfl, hown, hnew, haw⟩
      rw [HBC.out] at hown ⊢
      have hs_bc := haw.size
      have hz22 := Lib.hid haw.size
      replace HA := Lib.hid (HA.out.on haw)
      replace H1 := Lib.hid (H1.out.on haw)
      replace HM := Lib.hid (HM.out.on haw)
      replace H6 := Lib.hid (H6.out.on haw)
      replace HO1 := Lib.hid (HO1.out.on haw)
      replace HO2 := Lib.hid (HO2.out.on haw)
      replace HO3 := Lib.hid (HO3.out.on haw)
      replace HWS := Lib.hid (HWS.out.on haw)
      replace HX := Lib.hid (HX.out.on haw)
      replace H16 := Lib.hid (H16.out.on haw)
      replace HZ := Lib.hid (HZ.out.on haw)
      replace H18 := Lib.hid (H18.out.on haw)
      replace HY := Lib.hid (HY.out.on haw)
      replace HUP := Lib.hid (HUP.out.on haw)
      replace H20 := Lib.hid (H20.out.on haw)
      replace HSI := Lib.hid (HSI.out.on haw)
      replace HSB := Lib.hid (HSB.out.on haw)
      clear haw
      have HO4 := Lib.hid hown
      have hn_bc := Lib.hid hnew
      clear hown hnew
      clear HUP
      have hnw := hn_bc; have how := HO4
      have HV7 : Hid (∀ k, Value.ownBlock (bc) = some k → wr.heap.size ≤ k ∧ k < w20.heap.size) := fun k hk => ⟨hnw.out k hk, how.out.lt k hk⟩
      have HC7 : Hid (w18.heap.size ≤ wr.heap.size) := hup.out
      have HUP : Hid (Up w20.heap.size w20) := Nat.le_refl _
      clear hnw how
      clear hup
      obtain ⟨gc, cc, hv, hc_gc⟩ := HO4.out.block (fun e => by have h1 := HCL.out; rw [show C = [] from e] at h1; simp at h1; omega)
      rw [show ((C, (0 : Int)).1) = C from rfl] at hv hc_gc HO4
      subst hv
      go_wp2_with fail
      have hup := HUP
      refine (parse_c (some ⟨gr, 0, none⟩) R A.length cr _ HRL.out (by omega) (by simp) (by exact HSB.out.of.2.2.2)).mono ?_
      rintro E w21 ⟨wo, wd, rfl, hou, hdu, hno, hnd, hap, haw⟩
      rw [HPC.out] at hou hdu ⊢
      have hz23 := Lib.hid haw.size
      replace HA := Lib.hid (HA.out.on haw)
      replace H1 := Lib.hid (H1.out.on haw)
      replace HM := Lib.hid (HM.out.on haw)
      replace H6 := Lib.hid (H6.out.on haw)
      replace HO1 := Lib.hid (HO1.out.on haw)
      replace HO2 := Lib.hid (HO2.out.on haw)
      replace HO3 := Lib.hid (HO3.out.on haw)
      replace HWS := Lib.hid (HWS.out.on haw)
      replace HX := Lib.hid (HX.out.on haw)
      replace H16 := Lib.hid (H16.out.on haw)
      replace HZ := Lib.hid (HZ.out.on haw)
      replace H18 := Lib.hid (H18.out.on haw)
      replace HY := Lib.hid (HY.out.on haw)
      replace H20 := Lib.hid (H20.out.on haw)
      replace HSI := Lib.hid (HSI.out.on haw)
      replace HSB := Lib.hid (HSB.out.on haw)
      replace HO4 := Lib.hid (HO4.out.on haw)
      replace HUP := Lib.hid (HUP.out.on haw)
      clear haw
      have HWP : Hid (Mine w21 w20.heap.size _ wo wd) := ⟨hou, hdu, hno, hnd, hap⟩
      clear hou hdu hno hnd hap
      clear HUP
      have hnw := Lib.hid HWP.out.nd; have how := Lib.hid HWP.out.d
      obtain ⟨wda, wdc, hv, hc_wd⟩ := HWP.out.d.slc
      subst hv
      have HV8 : Hid (∀ k, Value.ownBlock (.slice wda q2.d.length wdc) = some k → w20.heap.size ≤ k ∧ k < w21.heap.size) := fun k hk => ⟨hnw.out k hk, how.out.lt k hk⟩
      have HC8 : Hid (w20.heap.size ≤ w20.heap.size) := hup.out
      have HUP : Hid (Up w21.heap.size w21) := Nat.le_refl _
      clear hnw how hup
      have ko_wo := HWP.out.ov
      go_wp2_with (first | (refine wpList_new28 rfl rfl rfl _ _ rfl q2 wo (.slice wda q2.d.length wdc) (fun _ => rfl) (fun _ => rfl) HW2.out.ad ko_wo rfl ?_; refine Hid.out ?_))
      refine Lib.hid ?_
      intro g25 w22 hg_g25 hb haw
      have hz24 := Lib.hid haw.size
      replace HA := Lib.hid (HA.out.on haw)
      replace H1 := Lib.hid (H1.out.on haw)
      replace HM := Lib.hid (HM.out.on haw)
      replace H6 := Lib.hid (H6.out.on haw)
      replace HO1 := Lib.hid (HO1.out.on haw)
      replace HO2 := Lib.hid (HO2.out.on haw)
      replace HO3 := Lib.hid (HO3.out.on haw)
      replace HWS := Lib.hid (HWS.out.on haw)
      replace HX := Lib.hid (HX.out.on haw)
      replace H16 := Lib.hid (H16.out.on haw)
      replace HZ := Lib.hid (HZ.out.on haw)
      replace H18 := Lib.hid (H18.out.on haw)
      replace HY := Lib.hid (HY.out.on haw)
      replace H20 := Lib.hid (H20.out.on haw)
      replace HSI := Lib.hid (HSI.out.on haw)
      replace HSB := Lib.hid (HSB.out.on haw)
      replace HO4 := Lib.hid (HO4.out.on haw)
      replace HWP := Lib.hid (HWP.out.on haw)
      replace HUP := Lib.hid (HUP.out.on haw)
      clear haw
      have H25 := Lib.hid hb
      have hl_g25 := hb.lt
      clear hb
      clear HSI HSB
      have c25 := (H25.out.cells HW2.out.ad).d
      have n1 : ((C.length : Int) != (A.length : Int)) = false := by have := HCL.out; simp; omega
      have n2 : ((q2.d.length : Int) != (q.d.length : Int)) = false := by have h1 := HQ2D.out; have h2 := HL2.out; rw [← h1] at h2; simp; omega
      go_wp2_with (first | (refine wpList_load28 rfl _ rfl g16 rfl q _ _ (by exact H16.out) HQW.out.ad ?_) | (refine wpList_load28 rfl _ rfl g1 rfl q _ _ (by exact H1.out) HQW.out.ad ?_) | (refine wpList_load28 rfl _ rfl g20 rfl q _ _ (by exact H20.out) HQW.out.ad ?_))
      refine (sameP_yes q q _ _ _ _ _ (by exact HX.out.pkt HQW.out) (by exact HM.out.pkt HQW.out) rfl).mono ?_
      rintro E w23 ⟨rfl, haw⟩
      have hz25 := Lib.hid haw.size
      replace HA := Lib.hid (HA.out.on haw)
      replace H1 := Lib.hid (H1.out.on haw)
      replace HM := Lib.hid (HM.out.on haw)
      replace H6 := Lib.hid (H6.out.on haw)
      replace HO1 := Lib.hid (HO1.out.on haw)
      replace HO2 := Lib.hid (HO2.out.on haw)
      replace HO3 := Lib.hid (HO3.out.on haw)
      replace HWS := Lib.hid (HWS.out.on haw)
      replace HX := Lib.hid (HX.out.on haw)
      replace H16 := Lib.hid (H16.out.on haw)
      replace HZ := Lib.hid (HZ.out.on haw)
      replace H18 := Lib.hid (H18.out.on haw)
      replace HY := Lib.hid (HY.out.on haw)
      replace H20 := Lib.hid (H20.out.on haw)
      replace HO4 := Lib.hid (HO4.out.on haw)
      replace HWP := Lib.hid (HWP.out.on haw)
      replace HUP := Lib.hid (HUP.out.on haw)
      replace H25 := Lib.hid (H25.out.on haw)
      clear haw
      clear c25
      go_wp2_with (first | (refine wpList_load28 rfl _ rfl g16 rfl q _ _ (by exact H16.out) HQW.out.ad ?_) | (refine wpList_load28 rfl _ rfl g1 rfl q _ _ (by exact H1.out) HQW.out.ad ?_) | (refine wpList_load28 rfl _ rfl g20 rfl q _ _ (by exact H20.out) HQW.out.ad ?_))
      refine (sameP_yes q q _ _ _ _ _ (by exact HY.out.pkt HQW.out) (by exact HM.out.pkt HQW.out) rfl).mono ?_
      rintro E w24 ⟨rfl, haw⟩
      have hz26 := Lib.hid haw.size
      replace HA := Lib.hid (HA.out.on haw)
      replace H1 := Lib.hid (H1.out.on haw)
      replace HM := Lib.hid (HM.out.on haw)
      replace H6 := Lib.hid (H6.out.on haw)
      replace HO1 := Lib.hid (HO1.out.on haw)
      replace HO2 := Lib.hid (HO2.out.on haw)
      replace HO3 := Lib.hid (HO3.out.on haw)
      replace HWS := Lib.hid (HWS.out.on haw)
      replace HX := Lib.hid (HX.out.on haw)
      replace H16 := Lib.hid (H16.out.on haw)
      replace HZ := Lib.hid (HZ.out.on haw)
      replace H18 := Lib.hid (H18.out.on haw)
      replace HY := Lib.hid (HY.out.on haw)
      replace H20 := Lib.hid (H20.out.on haw)
      replace HO4 := Lib.hid (HO4.out.on haw)
      replace HWP := Lib.hid (HWP.out.on haw)
      replace HUP := Lib.hid (HUP.out.on haw)
      replace H25 := Lib.hid (H25.out.on haw)
      clear haw
      go_wp2_with fail
      refine (same_yes _ _ A A _ _ ca cw _ rfl rfl (by simp) (by simp) (by exact HO1.out.row' (by omega) HCB.out) (by exact HWS.out.row' (by omega) HCB.out) rfl).mono ?_
      rintro E w24 ⟨rfl, rfl⟩
      go_wp2_with fail
      refine (same_yes _ _ A A _ _ cb cw _ rfl rfl (by simp) (by simp) (by exact HO3.out.row' (by omega) HCB.out) (by exact HWS.out.row' (by omega) HCB.out) rfl).mono ?_
      rintro E w24 ⟨rfl, rfl⟩
      go_wp2_with fail
      clear n1 n2
      go_loopw [27] (fun i wr => ∃ k : Nat, k ≤ q.d.length ∧ i = .int .i64 (k : Int) ∧ ∃ m, wr = World.drewN w24 m) (fun i _ => q.d.length - (intOf i).toNat)
      case atStart => exact ⟨0, by omega, rfl, 0, rfl⟩
      case round =>
        obtain ⟨k, hk, rfl, m, hW⟩ := hrel
        subst hW
        by_cases hlt : k < q.d.length
        · have hb := HQD.out.getD k
          have y1 := HE1.out k hlt
          have y2 := HE2.out k hlt
          have hL1 := HL1.out; have hL2 := HL2.out; have hq2 := HQ2D.out; have hCC := HCC.out; have hCL := HCL.out; have hHN := HHN.out
          obtain ⟨gq, cq, hgq, hcq⟩ := HM.out.d.block (fun e => by have h := congrArg List.length e; simp only [List.length_nil] at h; omega)
          simp only [Value.slice.injEq] at hgq
          obtain ⟨rfl, -, rfl⟩ := hgq
          obtain ⟨gx, cx, hgx, hcx⟩ := HWP.out.d.block (fun e => by have h := congrArg List.length e; rw [hq2] at h; simp only [List.length_nil] at h; omega)
          simp only [Value.slice.injEq] at hgx
          obtain ⟨rfl, -, rfl⟩ := hgx
          obtain ⟨c0, -⟩ := HO4.out.cells ((headB q).length + k) (by omega)
          rw [show C[(headB q).length + k]?.getD 0 = D1[k]?.getD 0 from by rw [hCC, List.getElem?_append_right (by omega), show (headB q).length + k - (headB q).length = k by omega], y1] at c0
          obtain ⟨c1, -⟩ := HM.out.d.cells k hlt
          obtain ⟨c2, -⟩ := HWP.out.d.cells k (by rw [hq2]; omega)
          rw [hq2, y2] at c2
          have c3 := (H1.out.cells HQW.out.ad).d
          have c4 := (H25.out.cells HW2.out.ad).d
          generalize q.d[k]?.getD 0 = x at *
          obtain ⟨x0, x1⟩ := hb
          have t1 : (k : Int) < (q.d.length : Int) := by omega
          have t2 : (k : Int) < (q2.d.length : Int) := by rw [hq2]; omega
          have t4 : ((k : Int)).toNat = k := by omega
          have u1 : IntKind.u8.wrap (x + 1) = (x + 1) % 256 := by rw [IntKind.wrap_u8']
          have u2 : IntKind.u8.wrap (x + 2) = (x + 2) % 256 := by rw [IntKind.wrap_u8']
          have j0 : IntKind.i64.wrap ((C.length : Int) - (q.d.length : Int)) = ((headB q).length : Int) := by rw [IntKind.wrap_i64]; omega
          have j1 : IntKind.i64.wrap (((headB q).length : Int) + (k : Int)) = (((headB q).length + k : Nat) : Int) := by rw [IntKind.wrap_i64]; omega
          have j2 : (headB q).length + k < C.length := by omega
          have j3 : (((headB q).length + k : Nat) : Int) < (C.length : Int) := by omega
          have j4 : ((((headB q).length + k : Nat) : Int)).toNat = (headB q).length + k := by omega
          clear y1 y2 hL1 hL2 hq2 hCC hCL hHN
          go_upto_region 34 with fail
          go_quiet (fail)
          go_wp2_with fail
          go_roundw
          case rel => exact ⟨k + 1, by omega, by go_num, _, rfl⟩
          case measure => simp [intOf]; omega
        · obtain rfl : k = q.d.length := by omega
          generalize hWD : World.drewN w24 m = w25
          have haw : Away [] w24 w25 := by rw [← hWD]; exact (Away.refl [] w24).drewN m
          clear hWD
          have hz27 := Lib.hid haw.size
          replace HA := Lib.hid (HA.out.on haw)
          replace H1 := Lib.hid (H1.out.on haw)
          replace HM := Lib.hid (HM.out.on haw)
          replace H6 := Lib.hid (H6.out.on haw)
          replace HO1 := Lib.hid (HO1.out.on haw)
          replace HO2 := Lib.hid (HO2.out.on haw)
          replace HO3 := Lib.hid (HO3.out.on haw)
          replace HWS := Lib.hid (HWS.out.on haw)
          replace HX := Lib.hid (HX.out.on haw)
          replace H16 := Lib.hid (H16.out.on haw)
          replace HZ := Lib.hid (HZ.out.on haw)
          replace H18 := Lib.hid (H18.out.on haw)
          replace HY := Lib.hid (HY.out.on haw)
          replace H20 := Lib.hid (H20.out.on haw)
          replace HO4 := Lib.hid (HO4.out.on haw)
          replace HWP := Lib.hid (HWP.out.on haw)
          replace HUP := Lib.hid (HUP.out.on haw)
          replace H25 := Lib.hid (H25.out.on haw)
          clear haw
          have d16 := (H16.out.cells HQW.out.ad).d; have d18 := (H18.out.cells ex_wf.ad).d; have d20 := (H20.out.cells HQW.out.ad).d; have d25 := (H25.out.cells HW2.out.ad).d
          go_upto_region 37 with fail
          obtain ⟨P0, hP0⟩ : ∃ P : List (Value × List Int), P = [(.slice (some ⟨ga, 0, none⟩) A.length ca, A), (.slice (some ⟨go, 0, none⟩) exB.length co, exB), (.slice (some ⟨gb, 0, none⟩) A.length cb, A), (.slice (some ⟨gc, 0, none⟩) C.length cc, C), (.slice xda q.d.length xdc, q.d), (.slice zda exP.d.length zdc, exP.d), (.slice yda q.d.length ydc, q.d), (.slice wda q2.d.length wdc, q2.d)] := ⟨_, rfl⟩
          have HLEV : Hid (Lev [(.slice (some ⟨ga, 0, none⟩) A.length ca, A), (.slice (some ⟨go, 0, none⟩) exB.length co, exB), (.slice (some ⟨gb, 0, none⟩) A.length cb, A), (.slice xda q.d.length xdc, q.d), (.slice zda exP.d.length zdc, exP.d), (.slice yda q.d.length ydc, q.d), (.slice (some ⟨gc, 0, none⟩) C.length cc, C), (.slice wda q2.d.length wdc, q2.d)] 0) := ⟨_, _, Nat.zero_le _, HV1.out, by have z0 := hz0.out; have z1 := hz1.out; have z2 := hz2.out; have z3 := hz3.out; have z4 := hz4.out; have z5 := hz5.out; have z6 := hz6.out; have z7 := hz7.out; have z8 := hz8.out; have z9 := hz9.out; have z10 := hz10.out; have z11 := hz11.out; have z12 := hz12.out; have z13 := hz13.out; have z14 := hz14.out; have z15 := hz15.out; have z16 := hz16.out; have z17 := hz17.out; have z18 := hz18.out; have z19 := hz19.out; have z20 := hz20.out; have z21 := hzL.out; have z22 := hz22.out; have z23 := hz23.out; have z24 := hz24.out; have z25 := hz25.out; have z26 := hz26.out; have z27 := hz27.out; omega, ⟨_, _, HC2.out, HV2.out, by have z0 := hz0.out; have z1 := hz1.out; have z2 := hz2.out; have z3 := hz3.out; have z4 := hz4.out; have z5 := hz5.out; have z6 := hz6.out; have z7 := hz7.out; have z8 := hz8.out; have z9 := hz9.out; have z10 := hz10.out; have z11 := hz11.out; have z12 := hz12.out; have z13 := hz13.out; have z14 := hz14.out; have z15 := hz15.out; have z16 := hz16.out; have z17 := hz17.out; have z18 := hz18.out; have z19 := hz19.out; have z20 := hz20.out; have z21 := hzL.out; have z22 := hz22.out; have z23 := hz23.out; have z24 := hz24.out; have z25 := hz25.out; have z26 := hz26.out; have z27 := hz27.out; omega, ⟨_, _, HC3.out, HV3.out, by have z0 := hz0.out; have z1 := hz1.out; have z2 := hz2.out; have z3 := hz3.out; have z4 := hz4.out; have z5 := hz5.out; have z6 := hz6.out; have z7 := hz7.out; have z8 := hz8.out; have z9 := hz9.out; have z10 := hz10.out; have z11 := hz11.out; have z12 := hz12.out; have z13 := hz13.out; have z14 := hz14.out; have z15 := hz15.out; have z16 := hz16.out; have z17 := hz17.out; have z18 := hz18.out; have z19 := hz19.out; have z20 := hz20.out; have z21 := hzL.out; have z22 := hz22.out; have z23 := hz23.out; have z24 := hz24.out; have z25 := hz25.out; have z26 := hz26.out; have z27 := hz27.out; omega, ⟨_, _, HC4.out, HV4.out, by have z0 := hz0.out; have z1 := hz1.out; have z2 := hz2.out; have z3 := hz3.out; have z4 := hz4.out; have z5 := hz5.out; have z6 := hz6.out; have z7 := hz7.out; have z8 := hz8.out; have z9 := hz9.out; have z10 := hz10.out; have z11 := hz11.out; have z12 := hz12.out; have z13 := hz13.out; have z14 := hz14.out; have z15 := hz15.out; have z16 := hz16.out; have z17 := hz17.out; have z18 := hz18.out; have z19 := hz19.out; have z20 := hz20.out; have z21 := hzL.out; have z22 := hz22.out; have z23 := hz23.out; have z24 := hz24.out; have z25 := hz25.out; have z26 := hz26.out; have z27 := hz27.out; omega, ⟨_, _, HC5.out, HV5.out, by have z0 := hz0.out; have z1 := hz1.out; have z2 := hz2.out; have z3 := hz3.out; have z4 := hz4.out; have z5 := hz5.out; have z6 := hz6.out; have z7 := hz7.out; have z8 := hz8.out; have z9 := hz9.out; have z10 := hz10.out; have z11 := hz11.out; have z12 := hz12.out; have z13 := hz13.out; have z14 := hz14.out; have z15 := hz15.out; have z16 := hz16.out; have z17 := hz17.out; have z18 := hz18.out; have z19 := hz19.out; have z20 := hz20.out; have z21 := hzL.out; have z22 := hz22.out; have z23 := hz23.out; have z24 := hz24.out; have z25 := hz25.out; have z26 := hz26.out; have z27 := hz27.out; omega, ⟨_, _, HC6.out, HV6.out, by have z0 := hz0.out; have z1 := hz1.out; have z2 := hz2.out; have z3 := hz3.out; have z4 := hz4.out; have z5 := hz5.out; have z6 := hz6.out; have z7 := hz7.out; have z8 := hz8.out; have z9 := hz9.out; have z10 := hz10.out; have z11 := hz11.out; have z12 := hz12.out; have z13 := hz13.out; have z14 := hz14.out; have z15 := hz15.out; have z16 := hz16.out; have z17 := hz17.out; have z18 := hz18.out; have z19 := hz19.out; have z20 := hz20.out; have z21 := hzL.out; have z22 := hz22.out; have z23 := hz23.out; have z24 := hz24.out; have z25 := hz25.out; have z26 := hz26.out; have z27 := hz27.out; omega, ⟨_, _, HC7.out, HV7.out, by have z0 := hz0.out; have z1 := hz1.out; have z2 := hz2.out; have z3 := hz3.out; have z4 := hz4.out; have z5 := hz5.out; have z6 := hz6.out; have z7 := hz7.out; have z8 := hz8.out; have z9 := hz9.out; have z10 := hz10.out; have z11 := hz11.out; have z12 := hz12.out; have z13 := hz13.out; have z14 := hz14.out; have z15 := hz15.out; have z16 := hz16.out; have z17 := hz17.out; have z18 := hz18.out; have z19 := hz19.out; have z20 := hz20.out; have z21 := hzL.out; have z22 := hz22.out; have z23 := hz23.out; have z24 := hz24.out; have z25 := hz25.out; have z26 := hz26.out; have z27 := hz27.out; omega, ⟨_, _, HC8.out, HV8.out, by have z0 := hz0.out; have z1 := hz1.out; have z2 := hz2.out; have z3 := hz3.out; have z4 := hz4.out; have z5 := hz5.out; have z6 := hz6.out; have z7 := hz7.out; have z8 := hz8.out; have z9 := hz9.out; have z10 := hz10.out; have z11 := hz11.out; have z12 := hz12.out; have z13 := hz13.out; have z14 := hz14.out; have z15 := hz15.out; have z16 := hz16.out; have z17 := hz17.out; have z18 := hz18.out; have z19 := hz19.out; have z20 := hz20.out; have z21 := hzL.out; have z22 := hz22.out; have z23 := hz23.out; have z24 := hz24.out; have z25 := hz25.out; have z26 := hz26.out; have z27 := hz27.out; omega, trivial⟩⟩⟩⟩⟩⟩⟩⟩
          have hA36 := (Away.refl [] w25).alloc (.cells #[.slice (some ⟨ga, 0, none⟩) A.length ca, .slice (some ⟨go, 0, none⟩) exB.length co, .slice (some ⟨gb, 0, none⟩) A.length cb, .slice (some ⟨gc, 0, none⟩) C.length cc, .slice xda q.d.length xdc, .slice zda exP.d.length zdc, .slice yda q.d.length ydc, .slice wda q2.d.length wdc] 26)
          have HALL : Hid (OwnsAll (w25.alloc (.cells #[.slice (some ⟨ga, 0, none⟩) A.length ca, .slice (some ⟨go, 0, none⟩) exB.length co, .slice (some ⟨gb, 0, none⟩) A.length cb, .slice (some ⟨gc, 0, none⟩) C.length cc, .slice xda q.d.length xdc, .slice zda exP.d.length zdc, .slice yda q.d.length ydc, .slice wda q2.d.length wdc] 26)) w25.heap.size P0) := by rw [hP0]; exact ⟨⟨(HO1.out).on hA36, fun e => by have := (HO1.out).lt _ e; omega⟩, ⟨⟨(HO2.out).on hA36, fun e => by have := (HO2.out).lt _ e; omega⟩, ⟨⟨(HO3.out).on hA36, fun e => by have := (HO3.out).lt _ e; omega⟩, ⟨⟨(HO4.out).on hA36, fun e => by have := (HO4.out).lt _ e; omega⟩, ⟨⟨(HX.out.d).on hA36, fun e => by have := (HX.out.d).lt _ e; omega⟩, ⟨⟨(HZ.out.d).on hA36, fun e => by have := (HZ.out.d).lt _ e; omega⟩, ⟨⟨(HY.out.d).on hA36, fun e => by have := (HY.out.d).lt _ e; omega⟩, ⟨⟨(HWP.out.d).on hA36, fun e => by have := (HWP.out.d).lt _ e; omega⟩, trivial⟩⟩⟩⟩⟩⟩⟩⟩
          have HST : Hid (St W (w25.alloc (.cells #[.slice (some ⟨ga, 0, none⟩) A.length ca, .slice (some ⟨go, 0, none⟩) exB.length co, .slice (some ⟨gb, 0, none⟩) A.length cb, .slice (some ⟨gc, 0, none⟩) C.length cc, .slice xda q.d.length xdc, .slice zda exP.d.length zdc, .slice yda q.d.length ydc, .slice wda q2.d.length wdc] 26)) w25.heap.size P0 (.slice none 0 0) []) := by
            refine ⟨HA.out.on hA36, ⟨by rw [hP0]; exact block_new _ _, fun j p hp => HALL.out.get j p hp, ?_⟩, ?_, HA.out.size, OwnsI.nil _, by simp [Value.ownBlock]⟩
            · rw [hP0]
              refine perm_apart HLEV.out (fun j => ([0, 1, 2, 6, 3, 4, 5, 7] : List Nat)[j]?.getD j) (fun j p hp => ?_) (fun i j hi hj => ?_)
              · match j, hp with
                | 0, hp => exact hp
                | 1, hp => exact hp
                | 2, hp => exact hp
                | 3, hp => exact hp
                | 4, hp => exact hp
                | 5, hp => exact hp
                | 6, hp => exact hp
                | 7, hp => exact hp
                | n + 8, hp => simp at hp
              · exact perm8 i j hi hj
            · rw [hP0]
              intro j p k hp hk
              have hm : ∀ x ∈ ([(.slice (some ⟨ga, 0, none⟩) A.length ca, A), (.slice (some ⟨go, 0, none⟩) exB.length co, exB), (.slice (some ⟨gb, 0, none⟩) A.length cb, A), (.slice xda q.d.length xdc, q.d), (.slice zda exP.d.length zdc, exP.d), (.slice yda q.d.length ydc, q.d), (.slice (some ⟨gc, 0, none⟩) C.length cc, C), (.slice wda q2.d.length wdc, q2.d)] : List (Value × List Int)), ∀ k, x.1.ownBlock = some k → W.heap.size ≤ k := by
                intro x hx k hk
                have z0 := hz0.out; have z1 := hz1.out; have z2 := hz2.out; have z3 := hz3.out; have z4 := hz4.out; have z5 := hz5.out; have z6 := hz6.out; have z7 := hz7.out; have z8 := hz8.out; have z9 := hz9.out; have z10 := hz10.out; have z11 := hz11.out; have z12 := hz12.out; have z13 := hz13.out; have z14 := hz14.out; have z15 := hz15.out; have z16 := hz16.out; have z17 := hz17.out; have z18 := hz18.out; have z19 := hz19.out; have z20 := hz20.out; have z21 := hzL.out; have z22 := hz22.out; have z23 := hz23.out; have z24 := hz24.out; have z25 := hz25.out; have z26 := hz26.out; have z27 := hz27.out
                simp only [List.mem_cons, List.not_mem_nil, or_false] at hx
                rcases hx with rfl | rfl | rfl | rfl | rfl | rfl | rfl | rfl
                · have := HV1.out k hk; omega
                · have := HV2.out k hk; omega
                · have := HV3.out k hk; omega
                · have := HV4.out k hk; omega
                · have := HV5.out k hk; omega
                · have := HV6.out k hk; omega
                · have := HV7.out k hk; omega
                · have := HV8.out k hk; omega
              refine hm p ?_ k hk
              have := List.mem_of_getElem? hp
              simp only [List.mem_cons, List.not_mem_nil, or_false] at this ⊢
              rcases this with h | h | h | h | h | h | h | h <;> simp [h]
          have HPL : Hid (P0.length = 8) := by rw [hP0]; rfl
          have HSM : Hid (∀ (j : Nat) (p : Value × List Int), P0[j]? = some p → p.2.length ≤ 70000) := fun j p hp => by
            have hm : p ∈ P0 := List.mem_of_getElem? hp
            rw [hP0] at hm
            have h1 := HCL.out; have h2 := HL2.out; have h3 := HQ2D.out
            rw [← h3] at h2
            have h4 : exB.length = 64 := rfl
            have h5 : exP.d.length = 16 := rfl
            simp only [List.mem_cons, List.not_mem_nil, or_false] at hm
            rcases hm with rfl | rfl | rfl | rfl | rfl | rfl | rfl | rfl <;> simp only <;> omega
          generalize w25.alloc (.cells #[.slice (some ⟨ga, 0, none⟩) A.length ca, .slice (some ⟨go, 0, none⟩) exB.length co, .slice (some ⟨gb, 0, none⟩) A.length cb, .slice (some ⟨gc, 0, none⟩) C.length cc, .slice xda q.d.length xdc, .slice zda exP.d.length zdc, .slice yda q.d.length ydc, .slice wda q2.d.length wdc] 26) = wt at *
          generalize w25.heap.size = gk at *
          clear HALL HLEV hA36 hP0 d16 d18 d20 d25
          clear HA H1 HM H6 HO1 HO2 HO3 HWS HX H16 HZ H18 HY H20 HO4 HWP HUP H25
          go_wp2_with fail
          go_loopw [29, 30] (fun lv i wr => ∃ (k : Nat) (P : List (Value × List Int)), k ≤ 8 ∧ i = .int .i64 (k : Int) ∧ St W wr gk P lv ((P0.map (fun p => (p.2.length : Int))).take k) ∧ Marked P0 k 0 P) (fun _ i _ => 8 - (intOf i).toNat)
          case atStart => exact ⟨0, P0, by omega, rfl, HST.out, Marked.start P0⟩
          case round =>
            obtain ⟨i, P, hi, rfl, hst, hmk⟩ := hrel
            have HS := Lib.hid hst; have HK := Lib.hid hmk
            clear hst hmk
            have hpl := HPL.out
            by_cases hlt : i < 8
            · have hPl : P.length = 8 := by rw [HK.out.len]; exact hpl
              obtain ⟨⟨v, ls⟩, hp⟩ : ∃ p, P[i]? = some p := ⟨_, List.getElem?_eq_getElem (by omega)⟩
              have HPI := Lib.hid hp
              obtain ⟨a, c, hv, hne⟩ := HS.out.lots.slc hp
              subst hv
              have HNE := Lib.hid hne
              have c0 := HS.out.lots.cell hp
              obtain ⟨l0, hl0, hl1, -, -⟩ := HK.out.at' i _ hp
              have hsm := HSM.out i _ hl0
              have HLL : Hid ((P0.map (fun p => (p.2.length : Int))).take (i + 1) = (P0.map (fun p => (p.2.length : Int))).take i ++ [(ls.length : Int)]) := by
                show _ = _
                rw [List.take_add_one, List.getElem?_map, hl0]
                simp only [Option.map_some, Option.toList_some]
                rw [show (ls.length : Int) = (l0.length : Int) from by simp only at hl1; rw [hl1]]
              simp only at hl1 hsm
              have hln : ls.length ≤ 70000 := by omega
              clear hne hp hl0 hl1 hsm hPl
              have t1 : (i : Int) < 8 := by omega
              have t4 : ((i : Int)).toNat = i := by omega
              have c0a : (wr.alloc (.cells #[.int .i64 (ls.length : Int)] 3)).cell? ⟨wr.heap.size, 0, none⟩ = some (.int .i64 (ls.length : Int)) := by rw [World.cell?_alloc_at (hn := rfl)]; rfl
              have HO29 := Lib.hid (HS.out.own.on ((Away.refl [] wr).alloc (.cells #[.int .i64 (ls.length : Int)] 3)))
              have htl : ((P0.map (fun p => (p.2.length : Int))).take i).length ≤ 1000 := by simp; omega
              go_wp2_with (at_builtin; refine wpList_app3 rfl _ _ rfl _ _ (ls.length : Int) rfl (by exact HO29.out) ⟨wr.heap.size, 0, none⟩ 1 rfl (by exact c0a) htl ?_; refine Hid.out ?_)
              refine Lib.hid ?_
              intro lv' w2 r1 r2 r3
              have hst2 := HS.out.long r1 r2 r3
              rw [← HLL.out] at hst2
              have HS2 := Lib.hid hst2
              clear r1 r2 r3 hst2 HS HO29 c0 c0a htl
              go_wp2_with fail
              go_loopw [31] (fun j wq => ∃ (k : Nat) (P1 : List (Value × List Int)) (l1 : List Int), k ≤ ls.length ∧ j = .int .i64 (k : Int) ∧ St W wq gk P1 lv' ((P0.map (fun p => (p.2.length : Int))).take (i + 1)) ∧ Marked P0 i k P1 ∧ P1[i]? = some (.slice a ls.length c, l1) ∧ l1.length = ls.length) (fun j _ => ls.length - (intOf j).toNat)
              case atStart => exact ⟨0, P, ls, by omega, rfl, HS2.out, HK.out, HPI.out, rfl⟩
              case round =>
                obtain ⟨k, P1, l1, hk, rfl, hst, hmk, hp1, hl1⟩ := hrel
                have c1 := hst.lots.cell hp1
                by_cases hkl : k < ls.length
                · obtain ⟨b, rfl⟩ := HNE.out (fun e => by rw [e] at hkl; simp at hkl)
                  obtain ⟨d0, f0⟩ := (hst.lots.own i _ hp1).1.cells k (by rw [hl1]; exact hkl)
                  have HST3 := Lib.hid (hst.mark hp1 hl1 k (1 + (i : Int)))
                  have HMK3 := Lib.hid (hmk.step hp1 (by rw [hl1]; exact hkl))
                  have HP3 : Hid ((P1.set i (.slice (some ⟨b, 0, none⟩) ls.length c, l1.set k (1 + (i : Int))))[i]? = some (.slice (some ⟨b, 0, none⟩) ls.length c, l1.set k (1 + (i : Int)))) := by
                    show _ = _
                    rw [List.getElem?_set_self (by rw [hmk.len, hpl]; omega)]
                  have hl3 : (l1.set k (1 + (i : Int))).length = ls.length := by simpa using hl1
                  have HL3 := Lib.hid hl3
                  clear hst hmk hp1 hl1 hl3
                  have t2 : (k : Int) < (ls.length : Int) := by omega
                  have t5 : ((k : Int)).toNat = k := by omega
                  go_wp2_with fail
                  go_roundw
                  case rel => exact ⟨k + 1, _, _, by omega, by go_num, HST3.out, HMK3.out, HP3.out, HL3.out⟩
                  case measure => simp [intOf]; omega
                · have HMK3 := Lib.hid (hmk.next hp1 (by omega))
                  have HST3 := Lib.hid hst
                  clear hst hmk hp1
                  have t2 : ¬ ((k : Int) < (ls.length : Int)) := by omega
                  go_wp2_with fail
                  go_roundw
                  case rel => exact ⟨i + 1, _, by omega, by go_num, HST3.out, HMK3.out⟩
                  case measure => simp [intOf]; omega
            · obtain rfl : i = 8 := by omega
              have hLG : Longer (P0.map (·.2.length)) 0 0 P := Longer.start (by rw [hpl]; exact HK.out)
              have hll : (P0.map (fun p => (p.2.length : Int))).take 8 = P0.map (fun p => (p.2.length : Int)) := List.take_of_length_le (by simp; omega)
              rw [hll] at HS
              obtain ⟨N, hN⟩ : ∃ N, N = P0.map (·.2.length) := ⟨_, rfl⟩
              have HNN : Hid (P0.map (fun p => (p.2.length : Int)) = N.map (fun n : Nat => (n : Int))) := by show _ = _; rw [hN, List.map_map]; rfl
              rw [← hN] at hLG
              rw [HNN.out] at HS
              have HNL : Hid (N.length = 8) := by show _ = _; rw [hN, List.length_map]; exact hpl
              have HNS : Hid (∀ (j n : Nat), N[j]? = some n → n ≤ 70000) := fun j n hn => by
                rw [hN, List.getElem?_map] at hn
                cases hq : P0[j]? with
                | none => rw [hq] at hn; simp at hn
                | some p => rw [hq] at hn; simp at hn; rw [← hn]; exact HSM.out j p hq
              have HLG := Lib.hid hLG
              clear hLG hll hN HK HNN
              go_wp2_with fail
              go_loopw [32] (fun j wr => ∃ (i : Nat) (P : List (Value × List Int)), i ≤ 8 ∧ j = .int .i64 (i : Int) ∧ St W wr gk P u29 (N.map (fun n : Nat => (n : Int))) ∧ Longer N i 0 P) (fun j _ => 8 - (intOf j).toNat)
              case atStart => exact ⟨0, P, by omega, rfl, HS.out, HLG.out⟩
              case round =>
                clear HS HLG
                obtain ⟨i, P, hi, rfl, hst, hlg⟩ := hrel
                have HS := Lib.hid hst; have HG := Lib.hid hlg
                clear hst hlg
                have hnl := HNL.out
                by_cases hlt : i < 8
                · have t1 : (i : Int) < 8 := by omega
                  have t4 : ((i : Int)).toNat = i := by omega
                  go_wp2_with fail
                  go_loopw [33] (fun j wq => ∃ (k : Nat) (P1 : List (Value × List Int)), k ≤ 80 ∧ j = .int .i64 (k : Int) ∧ St W wq gk P1 u29 (N.map (fun n : Nat => (n : Int))) ∧ Longer N i k P1) (fun j _ => 80 - (intOf j).toNat)
                  case atStart => exact ⟨0, P, by omega, rfl, HS.out, HG.out⟩
                  case round =>
                    obtain ⟨k, P1, hk, rfl, hst, hlg⟩ := hrel
                    by_cases hkl : k < 80
                    · have hPl : P1.length = 8 := by rw [hlg.len]; exact hnl
                      obtain ⟨⟨v, ls⟩, hp⟩ : ∃ p, P1[i]? = some p := ⟨_, List.getElem?_eq_getElem (by omega)⟩
                      obtain ⟨a, c, hv, -⟩ := hst.lots.slc hp
                      subst hv
                      obtain ⟨n, hn1, hn2, -⟩ := hlg.at' i _ hp
                      have hn3 := HNS.out i n hn1
                      rw [if_neg (by omega), if_pos rfl] at hn2
                      simp only at hn2
                      have hlen : ls.length ≤ 70080 := by omega
                      clear hn2
                      have c0 := hst.lots.cell hp
                      simp only at c0
                      have HS1 := Lib.hid hst; have HG1' := Lib.hid hlg; have HPI := Lib.hid hp
                      have HOA := Lib.hid ((hst.lots.own i _ hp).1.on ((Away.refl [] wr).alloc (.cells #[.int .u8 (101 + (i : Int))] 5)))
                      have c0a : (wr.alloc (.cells #[.int .u8 (101 + (i : Int))] 5)).cell? ⟨gk, i, none⟩ = some (.slice a ls.length c) := (hst.lots.on ((Away.refl [] wr).alloc _)).cell hp
                      clear hst hlg hp hPl
                      have t2 : (k : Int) < 80 := by omega
                      go_wp2_with (at_builtin; refine wpList_app rfl _ _ rfl _ ls [101 + (i : Int)] rfl (by exact HOA.out) ⟨wr.heap.size, 0, none⟩ 1 1 rfl rfl (lit_cells _ [101 + (i : Int)] _ rfl) (by omega) ?_; refine Hid.out ?_)
                      refine Lib.hid ?_
                      intro v' w2 r1 r2 r3
                      have hb2 : w2.heap[gk]? = some (.cells (P1.map (·.1)).toArray 26 (0, 0)) := by
                        rw [r2.block gk (by have := lt_of_block HS1.out.lots.blk; simp; omega) (fun e => (HS1.out.lots.own i _ HPI.out).2 e.symm)]
                        exact (HS1.out.lots.on ((Away.refl [] wr).alloc _)).blk
                      have c2 : w2.cell? ⟨gk, i, none⟩ = some (.slice a ls.length c) := by rw [cell_of_block hb2]; simp [HPI.out]
                      have f2 := free_of_block hb2 i
                      have HS3 := Lib.hid (HS1.out.grow HPI.out r1 r2 r3)
                      have HG3 := Lib.hid (HG1'.out.step (v' := v') HPI.out)
                      obtain ⟨a2, n2, k2, rfl⟩ := r1.shp
                      clear r1 r2 r3 hb2 HOA c0 c0a HS1 HG1' HPI
                      go_wp2_with fail
                      go_roundw
                      case rel => exact ⟨_, _, _, _, _, _, _, _, _, _, _, _, _, _, _, _, _, ⟨k + 1, _, by omega, by go_num, HS3.out, HG3.out⟩, rfl⟩
                      case measure => simp [intOf]; omega
                    · obtain rfl : k = 80 := by omega
                      have HG3 := Lib.hid hlg.next
                      have HS3 := Lib.hid hst
                      clear hst hlg
                      go_wp2_with fail
                      go_roundw
                      case rel => exact ⟨i + 1, _, by omega, by go_num, HS3.out, HG3.out⟩
                      case measure => simp [intOf]; omega
                · obtain rfl : i = 8 := by omega
                  have e8 : (N.map (fun n : Nat => (n : Int))).length = 8 := by rw [List.length_map]; exact hnl
                  obtain ⟨gl, cl, hu⟩ := HS.out.own.block (fun e => by rw [e] at e8; simp at e8)
                  rw [e8] at hu
                  subst hu
                  clear e8
                  go_wp2_with fail
                  go_loopw [34] (fun j wz => ∃ i : Nat, i ≤ 8 ∧ j = .int .i64 (i : Int) ∧ St W wz gk P (.slice (some ⟨gl, 0, none⟩) 8 cl) (N.map (fun n : Nat => (n : Int)))) (fun j _ => 8 - (intOf j).toNat)
                  case atStart => exact ⟨0, by omega, rfl, HS.out⟩
                  case round =>
                    clear HS
                    obtain ⟨i, hi, rfl, hst⟩ := hrel
                    have HS := Lib.hid hst
                    clear hst
                    by_cases hlt : i < 8
                    · have hPl : P.length = 8 := by rw [HG.out.len]; exact hnl
                      obtain ⟨⟨v, ls⟩, hp⟩ : ∃ p, P[i]? = some p := ⟨_, List.getElem?_eq_getElem (by omega)⟩
                      obtain ⟨a, c, hv, hne⟩ := HS.out.lots.slc hp
                      subst hv
                      obtain ⟨n, hn1, hn2, -⟩ := HG.out.at' i _ hp
                      have hn3 := HNS.out i n hn1
                      have hlsb : ls.length ≤ 70100 := by
                        have h := hn2
                        simp only at h
                        (try split at h) <;> (try split at h) <;> omega
                      clear hn2
                      have HPI := Lib.hid hp; have HNE := Lib.hid hne; have HN1 := Lib.hid hn1
                      clear hp hne hn1 hPl
                      have t1 : (i : Int) < 8 := by omega
                      have t4 : ((i : Int)).toNat = i := by omega
                      go_wp2_with fail
                      go_loopw [35] (fun j wq => ∃ k : Nat, k ≤ ls.length ∧ j = .int .i64 (k : Int) ∧ St W wq gk P (.slice (some ⟨gl, 0, none⟩) 8 cl) (N.map (fun n : Nat => (n : Int)))) (fun j _ => ls.length - (intOf j).toNat)
                      case atStart => exact ⟨0, by omega, rfl, HS.out⟩
                      case round =>
                        obtain ⟨k, hk, rfl, hst⟩ := hrel
                        have c0 := hst.lots.cell HPI.out
                        simp only at c0
                        have HST3 := Lib.hid hst
                        by_cases hkl : k < ls.length
                        · obtain ⟨b, rfl⟩ := HNE.out (fun e => by rw [e] at hkl; simp at hkl)
                          obtain ⟨d0, -⟩ := (hst.lots.own i _ HPI.out).1.cells k hkl
                          have e0 := hst.own.cell i (by rw [List.length_map, hnl]; exact hlt)
                          rw [show (N.map (fun n : Nat => (n : Int)))[i]?.getD 0 = (n : Int) from by rw [List.getElem?_map, HN1.out]; rfl] at e0
                          obtain ⟨q1, q2'⟩ := HG.out.found HPI.out HN1.out hkl
                          clear hst
                          have t2 : (k : Int) < (ls.length : Int) := by omega
                          have t5 : ((k : Int)).toNat = k := by omega
                          by_cases hkn : k < n
                          · rw [q1 hkn] at d0
                            simp only [Option.getD_some] at d0
                            have t6 : (k : Int) < (n : Int) := by omega
                            have t7 : ¬ ((n : Int) ≤ (k : Int)) := by omega
                            clear q1 q2'
                            go_wp2_with fail
                            go_roundw
                            case rel => exact ⟨k + 1, by omega, by go_num, HST3.out⟩
                            case measure => simp [intOf]; omega
                          · rw [q2' (by omega)] at d0
                            simp only [Option.getD_some] at d0
                            have t6 : ¬ ((k : Int) < (n : Int)) := by omega
                            have t7 : (n : Int) ≤ (k : Int) := by omega
                            clear q1 q2'
                            go_wp2_with fail
                            go_roundw
                            case rel => exact ⟨k + 1, by omega, by go_num, HST3.out⟩
                            case measure => simp [intOf]; omega
                        · clear hst
                          have t2 : ¬ ((k : Int) < (ls.length : Int)) := by omega
                          go_wp2_with fail
                          go_roundw
                          case rel => exact ⟨i + 1, by omega, by go_num, HST3.out⟩
                          case measure => simp [intOf]; omega
                    · obtain rfl : i = 8 := by omega
                      have HAF := Lib.hid HS.out.aw
                      clear HS
                      go_wp2_with fail
                      go_ret
                      exact ⟨rfl, HAF.out.to_below⟩
end ip6Memory
namespace ip6Memory
theorem lifted (os : Os) (started : os.Started) (H : Type) (enc : TypeId × Value → H) :
    ReturnsInHanded {} Try.checked os 7 .any (Rows.ip6MemorySpec.pre6 enc Try.prog Try.f7 Rows.ip6MemoryRow.domain false) (Rows.ip6MemorySpec.post enc Try.prog Try.f7 false true false false) := by
  refine returnsInHanded_of_change_sized (C := Try.checked) ownKn started (by kernel_rfl) Try.func7
    (ChangeSpec.witness6 (enc := enc) (C := Try.checked) false ⟨#[], #[.agg (csP zeroPk (.slice none 0 0) (.slice none 0 0))], []⟩ 8 (by kernel_rfl) (by kernel_rfl) (by kernel_rfl) (by kernel_rfl)) ?_
  intro W base args ds gs before hval0 hW _ hsz0 _
  have hsz : (DataW.weightsEach Try.prog (Try.f7.params.toList ++ Rows.ip6MemorySpec.plain.varTypes Try.prog) (ds ++ gs)).all (· ≤ reachBytes) = true := hsz0
  clear hsz0
  have hval : ∀ (j : Nat) t v, Try.f7.params[j]? = some t → args[j]? = some v → Value.okWide Try.prog W .any base t v := hval0
  have hW' := hW
  obtain ⟨p, q, hA0, hV, rfl, hfz, hnd⟩ := hW
  have hA : DataW.TrodAll enc Try.prog W 0 (fun _ => true) true Try.f7.params.toList args.toList ds p := hA0
  rw [Try.params7] at hA hval hsz
  obtain ⟨v0, vs0, d0, ds0, p0, q0, hargs, rfl, rfl, h0, r0⟩ := trodAll_cons hA
  obtain ⟨rfl, rfl, rfl⟩ := trodAll_nil r0
  obtain rfl : args = #[v0] := by cases args; simp_all
  have hV2 : DataW.TrodVars enc Try.prog W (fun _ => true) Rows.ip6MemorySpec.vars gs q := hV
  obtain ⟨rfl, rfl⟩ := trodVars_none hV2
  have k0 := h0
  have lt0 : ∀ x ∈ p0, x.block < W.heap.size := by obtain ⟨m, hm⟩ := k0; exact DataW.trod_lt m _ _ _ hm
  have z0 : ∀ m ∈ d0.weights Try.prog 28, m ≤ reachBytes := fun m hm => by
    have := List.all_eq_true.1 hsz m (DataW.weights_mem_each (j := 0) (t := 28) rfl rfl m hm)
    simpa using this
  obtain ⟨x0, ov0, dv0, rfl, w0, ol0, dl0⟩ := open_pkt (hval 0 28 v0 rfl rfl) h0 z0
  clear hA0 hval0
  refine (walk x0 ov0 dv0 W w0 ol0 dl0).mono fun e W' ⟨he, bel⟩ => ?_
  subst he
  exact ⟨_, rfl, _, _, _, [], _, [], hW', trodAll_mk1 (shut_bool Try.underlying4 _), (trodAll_cons_mk (Below.trod laidOut (by kernel_rfl) (of_decide_eq_true (by kernel_rfl)) k0 bel lt0) trodAll_mk0), rfl, bel.frame _, fun h => by cases h⟩
theorem over : Rows.ip6MemoryRow.holds Try.pinned (OpenSpec.ofChange Rows.ip6MemorySpec) :=
  OpenClaim.holds_of_wide 7 Try.f7 rfl rfl rfl rfl rfl rfl rfl ⟨rfl, rfl, rfl, rfl, rfl⟩ rfl rfl rfl rfl rfl (by kernel_rfl) Try.func7 (by kernel_rfl)
    (of_decide_eq_true (by kernel_rfl)) (by unfold Func.isWrapper; first | (rw [if_pos (by decide +kernel)]; kernel_rfl) | (rw [if_neg (by decide +kernel)]; exact ⟨rfl, rfl⟩))
    (fun os started H enc _ => lifted os started H enc)
end ip6Memory
theorem ip6Memory_holds : Rows.Ip6MemorySaid := ip6Memory.over
#print axioms ip6Memory_holds
end Go.Proofs.Ytbmppdihceaacaa
