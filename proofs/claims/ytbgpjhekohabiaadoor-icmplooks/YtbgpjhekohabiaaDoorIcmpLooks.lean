/-
  IcmpLooks: every Look is the document's; the body stays, its spare room too.
-/
import Derived.Test.YtbgpjhekohabiaaDoorKitM
import Derived.Test.YtbgpjhekohabiaaDoorCards
import Derived.Test.YtbgpjhekohabiaaDoorTie
import Derived.Deep.CondSized
import Derived.Deep.DeepHandedRow
namespace Go.Proofs.YtbgpjhekohabiaaDoor
open Go.ChangeShapes Go.WideShapes Go.ChangeAt Go.RowKit Go.Deep Num
set_option linter.unusedVariables false
set_option linter.unusedSimpArgs false
set_option maxHeartbeats 8000000
set_option maxRecDepth 100000

theorem step_appW {ops : Array Oper} {o : Oper} {a : Act} {w : World} {K : Act → World → Prop} {Q : Exit → Act → World → Prop} {E : Prop} (hw : Region.wanted o (yielded ops a.tmps) = true) (s x : Operand)
    (hop : o.op = .call { callee := .builtin .append, args := #[s, x], argTypes := #[23, 23] }) (v : Value) (l m : List Int) (hs : a.eval s = v) (hown : Owns w v l)
    (ad : Addr) (n c : Nat) (hx : a.eval x = .slice (some ad) n c) (hn : m.length = n) (hm : ∀ j u, (m.map (Value.int .u8))[j]? = some u → w.cell? (ad.add j) = some u) (hlen : l.length + n ≤ 140737488355328)
    (hK : ∀ v' w', Owns w' v' (l ++ m) → w.grownBy w' v.ownBlock → Moved w v v' → K (a.put o.dst v') w') :
    if Region.wanted o (yielded ops a.tmps) = true then Oper.wp Tryd.prog o a w K Q else E := by
  rw [if_pos hw]
  obtain ⟨v', w', hrun, r1, r2, r3⟩ := run_appB o.type w v l m hown ad n c hn hm hlen
  unfold Oper.wp
  simp [execOp, hop, resolve, invoke, builtin, hs, hx, hrun, Result.andThen]
  exact hK v' w' r1 r2 r3
/-- An append that may stand behind a guard. -/
theorem wpList_appG {w : World} {ops : Array Oper} {rest : List Oper} {o : Oper} {a : Act} {Q : Exit → Act → World → Prop} (hw : Region.wanted o (yielded ops a.tmps) = true) (s x : Operand)
    (ho : o.op = .call { callee := .builtin .append, args := #[s, x], argTypes := #[23, 23] }) (v : Value) (l m : List Int) (hs : a.eval s = v) (hown : Owns w v l)
    (ad : Addr) (n c : Nat) (hx : a.eval x = .slice (some ad) n c) (hn : m.length = n) (hm : ∀ j u, (m.map (Value.int .u8))[j]? = some u → w.cell? (ad.add j) = some u) (hlen : l.length + n ≤ 140737488355328)
    (h : ∀ v' w', Owns w' v' (l ++ m) → w.grownBy w' v.ownBlock → Moved w v v' → wpList Tryd.prog ops Q rest (a.put o.dst v') w') : wpList Tryd.prog ops Q (o :: rest) a w := by
  obtain ⟨v', w', hrun, r1, r2, r3⟩ := run_appB o.type w v l m hown ad n c hn hm hlen
  refine BigFrame.wpList_want hw fun K hK => ?_
  unfold Oper.wp
  simp [execOp, ho, resolve, invoke, builtin, hs, hx, hrun, Result.andThen]
  exact hK _ _ (h v' w' r1 r2 r3)
/-- The two marks. -/
def mk2 : List Int := [165, 166]
theorem mk2_bytes : Bytes mk2 := (Bytes.nil.cons (by omega) (by omega)).cons (by omega) (by omega)
theorem Owns.front {w : World} {g n c : Nat} {l : List Int} (h : Owns w (.slice (some ⟨g, 0, none⟩) n c) (l ++ mk2)) (hn : n = l.length + 2) (hb : Bytes l) (hl : l.length + 2 ≤ 140737488355328) (hc : n ≤ c) : Sl w (.slice (some ⟨g, 0, none⟩) l.length c) l := by
  have hr := h.row' (by simp [mk2]; omega) (hb.app mk2_bytes)
  have := hr.head l.length
  rw [List.take_left] at this
  exact ⟨_, _, rfl, by omega, by simp, this⟩
theorem full_sl {w : World} {g c : Nat} {l : List Int} (h : Owns w (.slice (some ⟨g, 0, none⟩) (l.length + 2) c) (l ++ mk2)) (hb : Bytes l) (hl : l.length + 2 ≤ 140737488355328) (hc : l.length + 2 ≤ c) : Sl w (.slice (some ⟨g, 0, none⟩) (l.length + 2) c) (l ++ mk2) := by
  have hn : (l ++ mk2).length = l.length + 2 := by simp [mk2]
  exact ⟨_, _, by rw [hn], by omega, by simp, h.row' (by omega) (hb.app mk2_bytes)⟩
theorem wf_d {p : Pk} (h : Wf p) {l : List Int} (hl : Bytes l) (hn : l.length ≤ 140737488355328) : Wf { p with d := l } :=
  ⟨h.v, h.tos, h.flow, h.sv, h.sl, h.sb, h.dv, h.dl, h.db, h.proto, h.ttl, h.id0, h.id1, h.off, h.o, h.ol, hl, hn⟩
theorem look_wf {m : Mg} (hb : Bytes m.d) (hn : m.d.length ≤ 140737488355328) : Wf (lookP m).1 := by
  have tk : ∀ i k, Bytes ((m.d.drop i).take k) ∧ ((m.d.drop i).take k).length ≤ 140737488355328 := fun i k => ⟨(hb.drop i).take k, by simp; omega⟩
  unfold lookP
  split
  · unfold look4P
    split
    · exact zero_wf
    rename_i h20
    split
    · exact zero_wf
    split
    · exact zero_wf
    split
    · exact zero_wf
    unfold rest4P
    split
    · exact zero_wf
    split
    · exact zero_wf
    exact wf_d (read_wf hb hn _ (by omega)) (tk _ _).1 (tk _ _).2
  split
  · unfold S6.look6P
    split
    · exact zero_wf
    rename_i h40
    have hw := S6.read_wf hb hn (by omega)
    split
    · exact zero_wf
    split
    · rename_i h44
      split
      · exact zero_wf
      split
      · exact zero_wf
      have h1 := wf_d hw (tk 48 (min (m.d.length - 48) (S6.wd m.d 4 - 8).toNat)).1 (tk 48 (min (m.d.length - 48) (S6.wd m.d 4 - 8).toNat)).2
      unfold S6.readP at h1
      rw [if_pos h44] at h1
      exact h1
    · rename_i h44
      have h1 := wf_d hw (tk 40 (min (m.d.length - 40) (S6.wd m.d 4).toNat)).1 (tk 40 (min (m.d.length - 40) (S6.wd m.d 4).toNat)).2
      unfold S6.readP at h1
      rw [if_neg h44] at h1
      exact h1
  · exact zero_wf
namespace icmpLooks
theorem walk (m : Mg) (mv : Value) (W : World) (hG : Glob W) (hm : Dam W m mv) (hml : m.d.length ≤ 140737488351232) :
    Calls Tryd.prog 3 #[.agg (csM m mv)] W fun e W' => e = .returned (.bool true) ∧ Below W.heap.size W W' := by
  have HM := Lib.hid hm
  have HG := Lib.hid hG
  have HA : Hid (Away [] W W) := Away.refl _ _
  have HMD := Lib.hid hm.wf.d
  obtain ⟨p, n, e, hlk⟩ : ∃ p n e, lookP m = (p, n, e) := ⟨_, _, _, rfl⟩
  have HLK := Lib.hid hlk
  have HWF : Hid (Wf p) := by have h1 := look_wf hm.wf.d (by omega); rw [hlk] at h1; exact h1
  obtain ⟨ma, mc, hmv, hm1, hm2, hm3⟩ := hm.d
  subst hmv
  have HR := Lib.hid hm3
  clear hm hm3 hlk hG
  go_enter Tryd.func3, Tryd.ntmps3
  go_wp2_with (refine wpList_boxM rfl _ rfl m (.slice ma m.d.length mc) rfl ?_; refine Hid.out ?_)
  refine Lib.hid ?_
  intro g1 w1 hg_g1 hb haw
  replace HA := Lib.hid (HA.out.on haw)
  clear haw
  have H1 := Lib.hid hb
  have hl_g1 := hb.lt
  clear hb
  go_wp2_with fail
  refine (alive_c _).mono ?_
  rintro E w2 ⟨rfl, haw⟩
  replace HA := Lib.hid (HA.out.on haw)
  replace H1 := Lib.hid (H1.out.on haw)
  clear haw
  have c4 := H1.out.c4
  go_wp2_with fail
  refine (own_any ma m.d _ mc _ rfl (by exact HR.out.on HA.out)).mono ?_
  rintro E wo ⟨vo, rfl, hown, hnew, haw, -, -⟩
  have HOO := Lib.hid hown
  clear hown
  go_wp2_with (at_builtin; refine wpList_appG rfl _ _ rfl _ m.d [165, 166] rfl (by exact HOO.out.away ((Away.refl [] _).alloc _) (by simp)) ⟨wo.heap.size, 0, none⟩ 2 2 rfl rfl (lit_cells _ [165, 166] _ rfl) (by omega) ?_; refine Hid.out ?_)
  refine Lib.hid ?_
  intro vf w3 hownf hgr hmov
  have hsw0 := haw.size
  have haw2 : Away [] w2 w3 := (haw.alloc _).grown hgr (fun k hk => .inr (hnew k hk))
  have hnf : New w2.heap.size vf := hnew.moved hmov (by simp; omega)
  clear hgr hmov hnew haw HOO
  have haw := haw2
  clear haw2
  replace HA := Lib.hid (HA.out.on haw)
  replace H1 := Lib.hid (H1.out.on haw)
  clear haw
  obtain ⟨gf, cf, rfl, hc_gf⟩ := hownf.block (by simp)
  have hg_gf := hnf gf rfl
  have hln : (m.d ++ [165, 166]).length = m.d.length + 2 := by simp
  rw [hln] at hc_gf
  have HF : Hid (Owns w3 (.slice (some ⟨gf, 0, none⟩) (m.d.length + 2) cf) (m.d ++ mk2)) := by rw [hln] at hownf; exact hownf
  have hl_gf := HF.out.lt gf rfl
  clear hownf hnf
  clear c4
  have hl1b := H1.out.lt
  go_wp2_with (first | (refine wpList_loadM rfl _ rfl g1 rfl m (.slice ma m.d.length mc) (by exact H1.out) ?_) | (refine wpList_newM rfl rfl rfl _ _ rfl m (.slice ma m.d.length mc) (fun _ => rfl) (fun _ => rfl) rfl ?_; refine Hid.out ?_))
  refine Lib.hid ?_
  intro g4 w4 hg_g4 hb haw
  replace HA := Lib.hid (HA.out.on haw)
  replace H1 := Lib.hid (H1.out.on haw)
  replace HF := Lib.hid (HF.out.on haw)
  clear haw
  have H4 := Lib.hid hb
  have hl_g4 := hb.lt
  clear hb
  have c4 := H1.out.c4; have d4 := H4.out.c4; have f4 := H4.out.free 4
  have s1 := slice_h (some ⟨gf, 0, none⟩) (m.d.length + 2) cf m.d.length (m.d.length : Int) rfl (by omega)
  have haw := away_put (w := w4) (g := g4) 4 (.slice (some ⟨gf, 0, none⟩) m.d.length cf)
  have h8 := H4.out.put 4 (.slice (some ⟨gf, 0, none⟩) m.d.length cf) (g' := m) (dv' := .slice (some ⟨gf, 0, none⟩) m.d.length cf) rfl
  replace HA := Lib.hid (HA.out.next haw (fun x hx => .inr (by simp at hx; omega)))
  replace H1 := Lib.hid (H1.out.away haw (by simp; omega))
  replace HF := Lib.hid (HF.out.away haw (fun k hk => by simp [Value.ownBlock] at hk; simp; omega))
  replace H4 := Lib.hid h8
  clear h8 haw
  try rw [hln]
  go_upto_region 6 with fail
  clear c4 d4 f4 s1
  generalize w4.setCell ⟨g4, 4, none⟩ (.slice (some ⟨gf, 0, none⟩) m.d.length cf) = w5 at *
  go_wp2_with (refine wpList_loadM rfl _ rfl g4 rfl m (.slice (some ⟨gf, 0, none⟩) m.d.length cf) (by exact H4.out) ?_)
  refine (look_c m _ _ ⟨HM.out.wf, by exact HF.out.front rfl HMD.out (by omega) hc_gf⟩ (HG.out.on HA.out)).mono ?_
  rw [HLK.out]
  rintro E w6 ⟨ov1, dv1, rfl, ho, hd, hno, hnd, hap, haw⟩
  replace HA := Lib.hid (HA.out.on haw)
  replace H1 := Lib.hid (H1.out.on haw)
  replace HF := Lib.hid (HF.out.on haw)
  replace H4 := Lib.hid (H4.out.on haw)
  clear haw
  dsimp only at ho hd ⊢
  have HO1 := Lib.hid ho
  have HD1 := Lib.hid hd
  have k11 : ov1.oneCell' = true := by rcases ho.shape' with ⟨_, _, _, rfl⟩; rfl
  have k21 : dv1.oneCell' = true := by rcases hd.shape' with ⟨_, _, _, rfl⟩; rfl
  clear ho hd hno hnd hap
  go_wp2_with (refine wpList_new28 rfl rfl rfl _ _ rfl p ov1 dv1 (fun _ => rfl) (fun _ => rfl) HWF.out.ad k11 k21 ?_; refine Hid.out ?_)
  refine Lib.hid ?_
  intro g5 w7 hg_g5 hb haw
  replace HA := Lib.hid (HA.out.on haw)
  replace H1 := Lib.hid (H1.out.on haw)
  replace HF := Lib.hid (HF.out.on haw)
  replace H4 := Lib.hid (H4.out.on haw)
  replace HO1 := Lib.hid (HO1.out.on haw)
  replace HD1 := Lib.hid (HD1.out.on haw)
  clear haw
  have HB1 := Lib.hid hb
  have hl_g5 := hb.lt
  clear hb
  go_wp2_with (refine wpList_loadM rfl _ rfl g1 rfl m (.slice ma m.d.length mc) (by exact H1.out) ?_)
  refine (rlook_c m _ _ ⟨HM.out.wf, by exact ⟨ma, mc, rfl, hm1, hm2, HR.out.on HA.out⟩⟩ (HG.out.on HA.out)).mono ?_
  rw [HLK.out]
  rintro E w8 ⟨ov2, dv2, rfl, ho, hd, hno, hnd, hap, haw⟩
  replace HA := Lib.hid (HA.out.on haw)
  replace H1 := Lib.hid (H1.out.on haw)
  replace HF := Lib.hid (HF.out.on haw)
  replace H4 := Lib.hid (H4.out.on haw)
  replace HO1 := Lib.hid (HO1.out.on haw)
  replace HD1 := Lib.hid (HD1.out.on haw)
  replace HB1 := Lib.hid (HB1.out.on haw)
  clear haw
  dsimp only at ho hd ⊢
  have HO2 := Lib.hid ho
  have HD2 := Lib.hid hd
  have k12 : ov2.oneCell' = true := by rcases ho.shape' with ⟨_, _, _, rfl⟩; rfl
  have k22 : dv2.oneCell' = true := by rcases hd.shape' with ⟨_, _, _, rfl⟩; rfl
  clear ho hd hno hnd hap
  go_wp2_with (refine wpList_new28 rfl rfl rfl _ _ rfl p ov2 dv2 (fun _ => rfl) (fun _ => rfl) HWF.out.ad k12 k22 ?_; refine Hid.out ?_)
  refine Lib.hid ?_
  intro g8 w9 hg_g8 hb haw
  replace HA := Lib.hid (HA.out.on haw)
  replace H1 := Lib.hid (H1.out.on haw)
  replace HF := Lib.hid (HF.out.on haw)
  replace H4 := Lib.hid (H4.out.on haw)
  replace HO1 := Lib.hid (HO1.out.on haw)
  replace HD1 := Lib.hid (HD1.out.on haw)
  replace HB1 := Lib.hid (HB1.out.on haw)
  replace HO2 := Lib.hid (HO2.out.on haw)
  replace HD2 := Lib.hid (HD2.out.on haw)
  clear haw
  have HB2 := Lib.hid hb
  have hl_g8 := hb.lt
  clear hb
  go_wp2_with (first | (refine wpList_load28 rfl _ rfl g5 rfl p ov1 dv1 (by exact HB1.out) HWF.out.ad ?_) | (refine wpList_load28 rfl _ rfl g8 rfl p ov2 dv2 (by exact HB2.out) HWF.out.ad ?_))
  refine (sameP_yes p p _ _ _ _ _ (by exact pkt_of HWF.out HO1.out HD1.out) (by exact pkt_of HWF.out HO2.out HD2.out) rfl).mono ?_
  rintro E w10 ⟨rfl, haw⟩
  replace HA := Lib.hid (HA.out.on haw)
  replace H1 := Lib.hid (H1.out.on haw)
  replace HF := Lib.hid (HF.out.on haw)
  replace H4 := Lib.hid (H4.out.on haw)
  replace HO1 := Lib.hid (HO1.out.on haw)
  replace HD1 := Lib.hid (HD1.out.on haw)
  replace HB1 := Lib.hid (HB1.out.on haw)
  replace HO2 := Lib.hid (HO2.out.on haw)
  replace HD2 := Lib.hid (HD2.out.on haw)
  replace HB2 := Lib.hid (HB2.out.on haw)
  clear haw
  have c4 := H1.out.c4
  clear HO1 HD1 HO2 HD2 HB1 HB2 H4
  have hc1 := hc_gf
  have hgg1 := hl_gf
  go_wp2_with fail
  refine (own_any ma m.d _ mc _ rfl (by exact HR.out.on HA.out)).mono ?_
  rintro E wo ⟨vo, rfl, hown, hnew, haw, -, -⟩
  have HOO := Lib.hid hown
  clear hown
  go_wp2_with (at_builtin; refine wpList_appG rfl _ _ rfl _ m.d [165, 166] rfl (by exact HOO.out.away ((Away.refl [] _).alloc _) (by simp)) ⟨wo.heap.size, 0, none⟩ 2 2 rfl rfl (lit_cells _ [165, 166] _ rfl) (by omega) ?_; refine Hid.out ?_)
  refine Lib.hid ?_
  intro vf w11 hownf hgr hmov
  have hsw0 := haw.size
  have haw2 : Away [] w10 w11 := (haw.alloc _).grown hgr (fun k hk => .inr (hnew k hk))
  have hnf : New w10.heap.size vf := hnew.moved hmov (by simp; omega)
  clear hgr hmov hnew haw HOO
  have haw := haw2
  clear haw2
  replace HA := Lib.hid (HA.out.on haw)
  replace H1 := Lib.hid (H1.out.on haw)
  replace HF := Lib.hid (HF.out.on haw)
  clear haw
  obtain ⟨gh, ch, rfl, hc_gh⟩ := hownf.block (by simp)
  have hg_gh := hnf gh rfl
  have hln : (m.d ++ [165, 166]).length = m.d.length + 2 := by simp
  rw [hln] at hc_gh
  have HH : Hid (Owns w11 (.slice (some ⟨gh, 0, none⟩) (m.d.length + 2) ch) (m.d ++ mk2)) := by rw [hln] at hownf; exact hownf
  have hl_gh := HH.out.lt gh rfl
  clear hownf hnf
  try rw [hln]
  go_wp2_with fail
  refine (same_sl _ _ (m.d ++ mk2) _ (by exact full_sl HF.out HMD.out (by omega) hc1) (by exact full_sl HH.out HMD.out (by omega) hc_gh)).mono ?_
  rintro E w12 ⟨rfl, hwe⟩
  subst hwe
  go_wp2_with fail
  go_ret
  exact ⟨rfl, HA.out.to_below⟩
end icmpLooks
namespace icmpLooks
theorem contract (H : Type) (enc : TypeId × Value → H) (W : World) (base : Nat) (args : Array Value) (ds gs : List (DataW H)) (before : List MemPlace)
    (hval0 : ∀ (j : Nat) t v, Tryd.f3.params[j]? = some t → args[j]? = some v → Value.okWide Tryd.prog W .any base t v)
    (hW : DataW.Whole enc Tryd.prog Tryd.f3.params.toList Rows.icmpLooksSpec.vars false W args.toList ds gs before)
    (hsz0 : (DataW.weightsEach Tryd.prog (Tryd.f3.params.toList ++ Rows.icmpLooksSpec.plain.varTypes Tryd.prog) (ds ++ gs)).all (· ≤ reachBytes) = true)
    (hL : laidMetH Tryd.prog Rows.icmpLooksRow.laid W) :
    Calls Tryd.prog 3 args W fun e W' => ∃ v, e = .returned v ∧ Rows.icmpLooksSpec.post enc Tryd.prog Tryd.f3 false true false false W args v W' := by
  have hval := hval0
  have hsz := hsz0
  have hW' := hW
  obtain ⟨p, q, hA0, hV, rfl, hfz, hnd⟩ := hW
  have hA : DataW.TrodAll enc Tryd.prog W 0 (fun _ => true) true Tryd.f3.params.toList args.toList ds p := hA0
  rw [Tryd.params3] at hA hval hsz
  obtain ⟨v0, vs0, d0, ds0, p0, q0, hargs, rfl, rfl, h0, r0⟩ := trodAll_cons hA
  obtain ⟨rfl, rfl, rfl⟩ := trodAll_nil r0
  obtain rfl : args = #[v0] := by cases args; simp_all
  obtain ⟨rfl, rfl⟩ := trodVars_none hV
  have k0 := h0
  have lt0 : ∀ x ∈ p0, x.block < W.heap.size := by obtain ⟨m, hm⟩ := k0; exact DataW.trod_lt m _ _ _ hm
  have z0 : ∀ m ∈ d0.weights Tryd.prog 25, m ≤ reachBytes := fun m hm => by
    have := List.all_eq_true.1 hsz m (DataW.weights_mem_each (j := 0) (t := 25) rfl rfl m hm)
    simpa using this
  obtain ⟨x0, dv0, rfl, w0, dl0⟩ := open_mg (hval 0 25 v0 rfl rfl) h0 z0
  clear hA0 hval0
  refine (walk x0 dv0 W (glob_of hL) w0 dl0).mono fun e W' ⟨he, bel⟩ => ?_
  subst he
  exact ⟨_, rfl, _, _, _, [], _, [], hW', trodAll_mk1 (shut_bool Tryd.underlying4 _), (trodAll_cons_mk (Below.trod laidOut (by kernel_rfl) (of_decide_eq_true (by kernel_rfl)) k0 bel lt0) trodAll_mk0), rfl, bel.frame _, fun h => by cases h⟩
theorem laid_met (os : Os) : laidMet Tryd.prog Rows.icmpLooksRow.laid ((laidWorld Tryd.prog os).forCall (fun _ _ => 0) ⟨#[], #[.agg (csM zeroMg (.slice none 0 0))], []⟩).memory :=
  laidMet_of_run' 8 (by kernel_rfl) (by kernel_rfl)
theorem reads (os : Os) {H : Type} (enc : TypeId × Value → H) : ∃ places, DataW.whole enc Tryd.prog ((laidWorld Tryd.prog os).forCall (fun _ _ => 0) ⟨#[], #[.agg (csM zeroMg (.slice none 0 0))], []⟩).memory Tryd.f3.params.toList Rows.icmpLooksSpec.vars false #[.agg (csM zeroMg (.slice none 0 0))].toList 8 = some ([.agg [.lit (.int .i64 0), .lit (.int .i64 0), .lit (.int .i64 0), .lit (.int .u32 0), .nil]], [], places) :=
  ⟨[], by kernel_rfl⟩
theorem lifted (os : Os) (started : os.Started) (H : Type) (enc : TypeId × Value → H) (F : Stop.Interp) :
    ReturnsInHanded {} Tryd.checked os 3 .any ((OpenSpec.ofChange Rows.icmpLooksSpec).preRow enc Tryd.prog Tryd.f3 Rows.icmpLooksRow.domain false Rows.icmpLooksRow.laid) (((OpenSpec.ofChange Rows.icmpLooksSpec).at F).post enc Tryd.prog Tryd.f3 false true false false) := by
  obtain ⟨places, hx⟩ := reads os enc
  refine returnsInHanded_of_row (C := Tryd.checked) (s := OpenSpec.ofChange Rows.icmpLooksSpec) ownKn started (by kernel_rfl) Tryd.func3
    (witness_row_at (enc := enc) (C := Tryd.checked) false (laidWorld Tryd.prog os) #[.agg (csM zeroMg (.slice none 0 0))] rfl (by kernel_rfl) (by kernel_rfl) (by kernel_rfl)
      (OpenSpec.preRow_of_cond 8 hx (by kernel_rfl) (fun k hk => by cases hk) (by kernel_rfl) (laid_met os))) ?_
  intro W base args ds gs before hval hW _ hcond hsz hL hS _
  exact contract H enc W base args ds gs before hval hW hsz hL
theorem said : Rows.IcmpLooksSaid :=
  OpenClaim.holds_of_cond 3 Tryd.f3 rfl rfl rfl rfl rfl rfl rfl ⟨rfl, rfl, rfl, rfl, rfl⟩ rfl rfl rfl rfl rfl (by kernel_rfl) Tryd.func3 (by kernel_rfl)
    (of_decide_eq_true (by kernel_rfl)) (by unfold Func.isWrapper; first | (rw [if_pos (by decide +kernel)]; kernel_rfl) | (rw [if_neg (by decide +kernel)]; exact ⟨rfl, rfl⟩))
    (fun os started H enc _ F => by rw [OpenClaim.pre_eq_preRow]; exact lifted os started H enc F)
theorem plain (f : FuncId) (fn : Func) (hf : Tryd.pinned.checked.prog.funcNamed "mosaic/mosaiclaw08.IcmpLooks" = some f) (hfn : Tryd.pinned.checked.prog.funcs[f]? = some fn) :
    false = Tryd.pinned.checked.prog.looks [] ∧ ∀ (j : Nat) t, fn.params[j]? = some t → Tryd.pinned.checked.prog.wantsStandIn t = false := by
  obtain rfl : f = 3 := Option.some.inj ((show Tryd.prog.funcNamed "mosaic/mosaiclaw08.IcmpLooks" = some 3 by kernel_rfl).symm.trans hf) |>.symm
  obtain rfl : fn = Tryd.f3 := (Option.some.inj (Tryd.func3.symm.trans hfn)).symm
  refine ⟨by kernel_rfl, fun j t ht => ?_⟩
  rw [Tryd.params3] at ht
  have hm := Array.mem_of_getElem? ht
  simp only [List.mem_toArray, List.mem_cons, List.not_mem_nil, or_false] at hm
  have h25 : Tryd.prog.wantsStandIn 25 = false := by kernel_rfl
  have h23 : Tryd.prog.wantsStandIn 23 = false := by kernel_rfl
  have h3 : Tryd.prog.wantsStandIn 3 = false := by kernel_rfl
  subst hm
  all_goals first | exact h25 | exact h23 | exact h3
theorem card : Rows.IcmpLooksCardSaid :=
  Claim7.holds_tied_plain_at .later [] _ _ _ _ said (fun _ h => by cases h) (by kernel_rfl) (fun _ h => by cases h) icmpLooks_row_tie rfl ⟨rfl, rfl⟩ (by kernel_rfl) rfl plain (by kernel_rfl)
end icmpLooks
theorem icmpLooks_holds : Rows.IcmpLooksCardSaid := icmpLooks.card
#print axioms icmpLooks_holds
end Go.Proofs.YtbgpjhekohabiaaDoor
