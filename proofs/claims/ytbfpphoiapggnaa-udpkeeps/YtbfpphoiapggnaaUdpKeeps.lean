/-
  UdpKeeps.
-/
import Derived.Test.YtbfpphoiapggnaaSy
import Derived.Test.YtbfpphoiapggnaaKit
import Derived.Deep.CondSized
namespace Go.Proofs.Ytbfpphoiapggnaa
open Go.ChangeShapes Go.WideShapes Go.ChangeAt Go.RowKit Go.Deep Num
set_option linter.unusedVariables false
set_option linter.unusedSimpArgs false
set_option maxHeartbeats 8000000
set_option maxRecDepth 100000

theorem yields_ix {ops : Array Oper} {S : World → Prop} {op : Oper} {a : Act} {gb off n cap : Nat} (hw : Region.wanted op (yielded ops a.tmps) = true) (x ix : Operand) (ho : op.op = .indexAddr 25 x ix) (i : Nat) (hx : a.eval x = .slice (some ⟨gb, off, none⟩) n cap) (hix : a.eval ix = .int .i64 (i : Int)) (hi : i < n) :
    YieldsIf Try.prog ops S op (.pointer (some ⟨gb, off + i, none⟩)) a := by
  refine .inl ⟨hw, fun w _ => ?_⟩
  have he : Try.prog.elem 25 = 5 := by kernel_rfl
  have hsz : (sizeOf 5).run Try.prog w = .ok 1 w := by kernel_rfl
  unfold execOp
  simp only [ho, hx, hix, Sem.run_bind]
  rw [run_indexAt_slice w 25 ⟨gb, off, none⟩ n cap .i64 (i : Int) under22, he, if_pos ⟨by omega, by omega⟩, hsz]
  simp only [Result.andThen, add_plain, Int.toNat_natCast, Nat.mul_one, Sem.run_pure]
theorem yields_ix0 {ops : Array Oper} {S : World → Prop} {op : Oper} {a : Act} {gb n cap : Nat} (hw : Region.wanted op (yielded ops a.tmps) = true) (x ix : Operand) (ho : op.op = .indexAddr 25 x ix) (i : Nat) (hx : a.eval x = .slice (some ⟨gb, 0, none⟩) n cap) (hix : a.eval ix = .int .i64 (i : Int)) (hi : i < n) :
    YieldsIf Try.prog ops S op (.pointer (some ⟨gb, i, none⟩)) a := by
  have := yields_ix (S := S) hw x ix ho i hx hix hi
  rwa [Nat.zero_add] at this
theorem step_store5 {ops : Array Oper} {o : Oper} {a : Act} {w : World} {K : Act → World → Prop} {Q : Exit → Act → World → Prop} {E : Prop} (hg : o.guard = none) (s r : Nat)
    (ho : o.op = .store 5 (.tmp s) (.tmp r)) (g i : Nat) (hx : a.tmps[s]?.getD undef = .pointer (some ⟨g, i, none⟩)) (n : Int) (hy : a.tmps[r]?.getD undef = .int .u8 n) (u : Value) (hc : w.cell? ⟨g, i, none⟩ = some u) (hf : w.frozen? ⟨g, i, none⟩ = false)
    (hK : K (a.put o.dst undef) (w.setCell ⟨g, i, none⟩ (.int .u8 n))) :
    if Region.wanted o (yielded ops a.tmps) = true then Oper.wp Try.prog o a w K Q else E := by
  have hw : Region.wanted o (yielded ops a.tmps) = true := by simp [Region.wanted, hg]
  rw [if_pos hw]
  obtain ⟨d, op, ty, ps, af, gd⟩ := o
  simp only at ho
  subst ho
  go_simp
  exact hK
theorem parse_d {s t : Ax} {b : List Int} (hb : Bytes b) : Bytes (parseP s t b).1.d ∧ (parseP s t b).1.d.length ≤ 65535 := by
  by_cases h : (parseP s t b).2 = 0
  · have h1 := taken_iff.1 h
    have h2 := taken_fit hb h1
    have h3 := h2.n
    have h4 := room_bd s.v
    rw [parse_taken h1]
    exact ⟨h2.d, by show (dgP b).d.length ≤ 65535; omega⟩
  · rw [parse_no h]
    exact ⟨Bytes.nil, by decide⟩
def aS : Ax := ⟨0, [10, 1, 0, 0, 0, 0, 0, 0, 0, 0, 0, 0, 0, 0, 0, 0]⟩
def aT : Ax := ⟨0, [10, 2, 0, 0, 0, 0, 0, 0, 0, 0, 0, 0, 0, 0, 0, 0]⟩
theorem aS_wf : WfA aS := ⟨⟨by decide, by decide⟩, rfl, bytes_of (by decide)⟩
theorem aT_wf : WfA aT := ⟨⟨by decide, by decide⟩, rfl, bytes_of (by decide)⟩
namespace udpKeeps
open Mk (Kept)
theorem walk (g0 : Dg) (dv : Value) (e0 : Dg) (ev : Value) (six : Bool) (W : World) (hg : Dat W g0 dv) (hgl : g0.d.length ≤ 140737488351232) (he : Dat W e0 ev) (hel : e0.d.length ≤ 140737488351232) :
    Calls Try.prog 6 #[.agg (csD g0 dv), .agg (csD e0 ev), .bool six] W fun e W' => e = .returned (.bool true) ∧ Below W.heap.size W W' := by
  have HG := Lib.hid hg; have HE := Lib.hid he
  have HA : Hid (Away [] W W) := Away.refl _ _
  obtain ⟨s, hs⟩ : ∃ s, s = adrP aS six := ⟨_, rfl⟩
  obtain ⟨t, ht⟩ : ∃ t, t = adrP aT six := ⟨_, rfl⟩
  obtain ⟨q, hq⟩ : ∃ g, g = fitD g0 six := ⟨_, rfl⟩
  obtain ⟨p, hp⟩ : ∃ g, g = fitD e0 six := ⟨_, rfl⟩
  have HS : Hid (WfA s) := by rw [hs]; exact adrP_wf aS_wf six
  have HT : Hid (WfA t) := by rw [ht]; exact adrP_wf aT_wf six
  have HPR : Hid (pairP s t = true) := by rw [hs, ht]; exact adrP_pair aS_wf aT_wf six
  have HFQ : Hid (Fit s.v q) := by rw [hs, hq]; exact fitD_fit hg.wf.d six _ (adrP_v aS six)
  have HFP : Hid (Fit s.v p) := by rw [hs, hp]; exact fitD_fit he.wf.d six _ (adrP_v aS six)
  have KS : Hid (∀ w, Calls Try.prog 17 #[.agg (csA aS.v aS.l), .bool six] w fun e w' => e = .returned (.agg (csA s.v s.l)) ∧ Away [] w w') := fun w => by rw [hs]; exact address_c aS six w aS_wf
  have KT : Hid (∀ w, Calls Try.prog 17 #[.agg (csA aT.v aT.l), .bool six] w fun e w' => e = .returned (.agg (csA t.v t.l)) ∧ Away [] w w') := fun w => by rw [ht]; exact address_c aT six w aT_wf
  have KG : Hid (∀ w, Dat w g0 dv → Calls Try.prog 18 #[.agg (csD g0 dv), .bool six] w fun E w' => DgOut w q E w') := fun w h => by rw [hq]; exact dgram_c g0 dv six w h
  have KE : Hid (∀ w, Dat w e0 ev → Calls Try.prog 18 #[.agg (csD e0 ev), .bool six] w fun E w' => DgOut w p E w') := fun w h => by rw [hp]; exact dgram_c e0 ev six w h
  have HWQ := Lib.hid (fit_wfd HFQ.out)
  have HWP := Lib.hid (fit_wfd HFP.out)
  have hrm := room_bd s.v
  have hql : q.d.length ≤ 65527 := by have := HFQ.out.n; omega
  have hpl : p.d.length ≤ 65527 := by have := HFP.out.n; omega
  clear hs ht hq hp hg he hrm hgl hel
  go_enter Try.func6, Try.ntmps6
  go_wp2_with (refine wpList_boxD rfl _ rfl g0 dv rfl ?_; refine Hid.out ?_)
  refine Lib.hid ?_
  intro g3 w1 hg_g3 hb haw
  replace HA := Lib.hid (HA.out.on haw)
  clear haw
  have H3 := Lib.hid hb
  have hl_g3 := hb.lt
  clear hb
  go_wp2_with (refine wpList_boxD rfl _ rfl e0 ev rfl ?_; refine Hid.out ?_)
  refine Lib.hid ?_
  intro g4 w2 hg_g4 hb haw
  replace HA := Lib.hid (HA.out.on haw)
  replace H3 := Lib.hid (H3.out.on haw)
  clear haw
  have H4 := Lib.hid hb
  have hl_g4 := hb.lt
  clear hb
  have hsz := HA.out.size
  go_wp2_with fail
  refine (KS.out _).mono ?_
  rintro E w3 ⟨rfl, haw⟩
  replace HA := Lib.hid (HA.out.on haw)
  replace H3 := Lib.hid (H3.out.on haw)
  replace H4 := Lib.hid (H4.out.on haw)
  clear haw
  go_wp2_with (refine wpList_newX rfl rfl rfl _ _ rfl s (fun _ => rfl) (fun _ => rfl) HS.out.n ?_; refine Hid.out ?_)
  refine Lib.hid ?_
  intro g7 w4 hg_g7 hb haw
  replace HA := Lib.hid (HA.out.on haw)
  replace H3 := Lib.hid (H3.out.on haw)
  replace H4 := Lib.hid (H4.out.on haw)
  clear haw
  have H7 := Lib.hid hb
  have hl_g7 := hb.lt
  clear hb
  go_wp2_with fail
  refine (KT.out _).mono ?_
  rintro E w5 ⟨rfl, haw⟩
  replace HA := Lib.hid (HA.out.on haw)
  replace H3 := Lib.hid (H3.out.on haw)
  replace H4 := Lib.hid (H4.out.on haw)
  replace H7 := Lib.hid (H7.out.on haw)
  clear haw
  go_wp2_with (refine wpList_newX rfl rfl rfl _ _ rfl t (fun _ => rfl) (fun _ => rfl) HT.out.n ?_; refine Hid.out ?_)
  refine Lib.hid ?_
  intro g8 w6 hg_g8 hb haw
  replace HA := Lib.hid (HA.out.on haw)
  replace H3 := Lib.hid (H3.out.on haw)
  replace H4 := Lib.hid (H4.out.on haw)
  replace H7 := Lib.hid (H7.out.on haw)
  clear haw
  have H8 := Lib.hid hb
  have hl_g8 := hb.lt
  clear hb
  go_wp2_with (first | (refine wpList_loadD rfl _ rfl g3 rfl g0 _ (by exact H3.out) ?_))
  refine (KG.out _ (by exact HG.out.on HA.out)).mono ?_
  rintro E w7 ⟨gv, rfl, hsl, haw⟩
  have HD := Lib.hid (hsl.on haw)
  replace HA := Lib.hid (HA.out.on haw)
  replace H3 := Lib.hid (H3.out.on haw)
  replace H4 := Lib.hid (H4.out.on haw)
  replace H7 := Lib.hid (H7.out.on haw)
  replace H8 := Lib.hid (H8.out.on haw)
  clear haw
  clear hsl
  clear H3
  obtain ⟨ga, gc, hgv, hg2, hg3, -⟩ := HD.out
  subst hgv
  have hbs9 := HA.out.size
  have hb7a := H7.out.lt
  have hb8a := H8.out.lt
  go_wp2_with (refine wpList_newD rfl rfl rfl _ _ rfl q (.slice ga q.d.length gc) (fun _ => rfl) (fun _ => rfl) rfl ?_; refine Hid.out ?_)
  refine Lib.hid ?_
  intro g9 w8 hg_g9 hb haw
  replace HA := Lib.hid (HA.out.on haw)
  replace H4 := Lib.hid (H4.out.on haw)
  replace H7 := Lib.hid (H7.out.on haw)
  replace H8 := Lib.hid (H8.out.on haw)
  replace HD := Lib.hid (HD.out.on haw)
  clear haw
  have H9 := Lib.hid hb
  have hl_g9 := hb.lt
  clear hb
  go_wp2_with (first | (refine wpList_loadD rfl _ rfl g4 rfl e0 _ (by exact H4.out) ?_))
  refine (KE.out _ (by exact HE.out.on HA.out)).mono ?_
  rintro E w9 ⟨pv, rfl, hsl, haw⟩
  have HP := Lib.hid (hsl.on haw)
  replace HA := Lib.hid (HA.out.on haw)
  replace H4 := Lib.hid (H4.out.on haw)
  replace H7 := Lib.hid (H7.out.on haw)
  replace H8 := Lib.hid (H8.out.on haw)
  replace HD := Lib.hid (HD.out.on haw)
  replace H9 := Lib.hid (H9.out.on haw)
  clear haw
  clear hsl
  clear H4
  obtain ⟨pa, pc, hpv, hp2, hp3, -⟩ := HP.out
  subst hpv
  have hb9a := H9.out.lt
  go_wp2_with (refine wpList_newD rfl rfl rfl _ _ rfl p (.slice pa p.d.length pc) (fun _ => rfl) (fun _ => rfl) rfl ?_; refine Hid.out ?_)
  refine Lib.hid ?_
  intro g10 w10 hg_g10 hb haw
  replace HA := Lib.hid (HA.out.on haw)
  replace H7 := Lib.hid (H7.out.on haw)
  replace H8 := Lib.hid (H8.out.on haw)
  replace HD := Lib.hid (HD.out.on haw)
  replace H9 := Lib.hid (H9.out.on haw)
  replace HP := Lib.hid (HP.out.on haw)
  clear haw
  have H10 := Lib.hid hb
  have hl_g10 := hb.lt
  clear hb
  have c3 := H9.out.c3
  have hb9 := H9.out.lt
  go_wp2_with (at_builtin; refine Mk.wpList_clone rfl _ _ rfl (.slice ga q.d.length gc) q.d rfl rfl (by exact HD.out) ?_; refine Hid.out ?_)
  refine Lib.hid ?_
  intro rv w11 hown hnew haw
  have HRC := Lib.hid hown
  have HRN := Lib.hid hnew
  have HRA := Lib.hid haw
  clear hown hnew haw
  have haw := (Away.refl [] w11).alloc (.cells (([171, 172] : List Int).map (Value.int .u8)).toArray 5)
  have HRa := Lib.hid (HRC.out.on haw)
  have hlc := lit_cells w11 [171, 172] w11.heap.size rfl
  simp only [List.map_cons, List.map_nil] at hlc HRa haw
  have HLC := Lib.hid hlc
  have HAL := Lib.hid haw
  clear hlc haw
  go_wp2_with (at_builtin; refine wpList_app rfl _ _ rfl _ q.d [171, 172] rfl (by exact HRa.out) _ 2 2 rfl rfl (by exact HLC.out) (by omega) ?_; refine Hid.out ?_)
  refine Lib.hid ?_
  intro mv w12 hown hgr hmv
  have haw1 : Away rv.ownBlock.toList w11 w12 := (HAL.out.mono (by simp)).grown hgr (fun k hk => .inl (by simp [hk]))
  have haw : Away [] w10 w12 := HRA.out.next haw1 (fun x hx => .inr (HRN.out x (by simpa using hx)))
  have hn_mv : Hid (New w10.heap.size mv) := HRN.out.moved hmv (by have h1 := HRA.out.size; have h2 := HAL.out.size; omega)
  have hs_mv := haw.size
  replace HA := Lib.hid (HA.out.on haw)
  replace H7 := Lib.hid (H7.out.on haw)
  replace H8 := Lib.hid (H8.out.on haw)
  replace HD := Lib.hid (HD.out.on haw)
  replace H9 := Lib.hid (H9.out.on haw)
  replace HP := Lib.hid (HP.out.on haw)
  replace H10 := Lib.hid (H10.out.on haw)
  clear haw
  have HM := Lib.hid hown
  clear hown hgr hmv haw1 HRC HRN HRA HRa HLC HAL
  clear c3
  obtain ⟨gr, cr, hmv, hcr⟩ := HM.out.block (by simp)
  have hln : (q.d ++ [171, 172]).length = q.d.length + 2 := by simp
  rw [hln] at hmv hcr
  subst hmv
  clear hln
  have hgr := hn_mv.out gr rfl
  clear HD
  have c3 := H9.out.c3
  have f3 := H9.out.free 3
  have sl := slice_h (some ⟨gr, 0, none⟩) (q.d.length + 2) cr q.d.length (q.d.length : Int) rfl (by omega)
  go_upto_region 7 with fail
  have haw := away_put (w := w12) (g := g9) 3 (.slice (some ⟨gr, 0, none⟩) q.d.length cr)
  have hbx := Mk.sl_box HP.out H9.out
  replace H9 := Lib.hid (H9.out.put 3 (.slice (some ⟨gr, 0, none⟩) q.d.length cr) (g' := q) (dv' := .slice (some ⟨gr, 0, none⟩) q.d.length cr) rfl)
  replace HA := Lib.hid (HA.out.next haw (fun x hx => .inr (by simp at hx; omega)))
  replace H7 := Lib.hid (H7.out.away haw (by simp; omega))
  replace H8 := Lib.hid (H8.out.away haw (by simp; omega))
  replace H10 := Lib.hid (H10.out.away haw (by simp; omega))
  replace HP := Lib.hid (HP.out.away haw hbx)
  replace HM := Lib.hid (HM.out.away haw (fun k hk => by simp [Value.ownBlock] at hk; simp; omega))
  clear haw hbx c3 f3 sl
  generalize World.setCell w12 ⟨g9, 3, none⟩ (.slice (some ⟨gr, 0, none⟩) q.d.length cr) = w13 at *
  have HDG : Hid (Owns w13 (.slice (some ⟨gr, 0, none⟩) q.d.length cr) q.d) := by
    have h1 := Mk.Owns.head HM.out (k := q.d.length) (by omega)
    rwa [List.take_left] at h1
  have HD : Hid (Sl w13 (.slice (some ⟨gr, 0, none⟩) q.d.length cr) q.d) := HDG.out.sl HFQ.out.d (by omega)
  have c3 := H9.out.c3
  go_wp2_with (at_builtin; refine Mk.wpList_clone rfl _ _ rfl (.slice (some ⟨gr, 0, none⟩) q.d.length cr) q.d rfl rfl (by exact HD.out) ?_; refine Hid.out ?_)
  refine Lib.hid ?_
  intro av w14 hown hnew haw
  replace HA := Lib.hid (HA.out.on haw)
  replace H7 := Lib.hid (H7.out.on haw)
  replace H8 := Lib.hid (H8.out.on haw)
  replace H9 := Lib.hid (H9.out.on haw)
  replace HP := Lib.hid (HP.out.on haw)
  replace H10 := Lib.hid (H10.out.on haw)
  replace HM := Lib.hid (HM.out.on haw)
  replace HDG := Lib.hid (HDG.out.on haw)
  replace HD := Lib.hid (HD.out.on haw)
  clear haw
  clear c3
  have HV := Lib.hid hown
  clear hown hnew
  obtain ⟨va, vc, hav, hvn, hvc⟩ := HV.out.slc
  subst hav
  go_wp2_with fail
  have hq7 := H7.out.lt
  have hq8 := H8.out.lt
  have hq9 := H9.out.lt
  have hqr := HM.out.lt gr rfl
  have hqW := HA.out.size
  go_loopw [13, 14, 15] (fun kv wv x wr => ∃ (i : Nat) (T : List Kept) (O : List (Value × List Int)), x = .int .i64 (i : Int) ∧ i ≤ 2 ∧ T.length = 4 * i ∧ Away [] w14 wr ∧ Mk.Sys w14.heap.size wr kv wv (T.map Kept.v) (T.map Kept.u) O ∧ (T.map (fun t => (t.v, t.p))).Sublist O ∧ (∀ t ∈ T, (t.u, t.p) ∈ O) ∧ (∀ t ∈ T, Bytes t.p ∧ t.p.length ≤ 140737488355000)) (fun _ _ x _ => 2 - (intOf x).toNat)
  case atStart => exact ⟨0, [], [], rfl, by omega, rfl, Away.refl _ _, Mk.Sys.start _, by simp, by simp, by simp⟩
  case round =>
    obtain ⟨i, T, O, rfl, hi, hTl, haw, hsys, hsub, hu, hby⟩ := hrel
    have HSY := Lib.hid hsys
    have HSB := Lib.hid hsub
    have HU := Lib.hid hu
    have HBY := Lib.hid hby
    have HAR := Lib.hid haw
    replace HA := Lib.hid (HA.out.on haw)
    replace H7 := Lib.hid (H7.out.on haw)
    replace H8 := Lib.hid (H8.out.on haw)
    replace H9 := Lib.hid (H9.out.on haw)
    replace HP := Lib.hid (HP.out.on haw)
    replace H10 := Lib.hid (H10.out.on haw)
    replace HM := Lib.hid (HM.out.on haw)
    replace HDG := Lib.hid (HDG.out.on haw)
    replace HD := Lib.hid (HD.out.on haw)
    replace HV := Lib.hid (HV.out.on haw)
    clear haw hsys hsub hu hby
    by_cases hlt : i < 2
    · have i1 : decide ((i : Int) < 2) = true := decide_eq_true (by omega)
      have hku : ∀ z, u13.ownBlock = some z → z < wr.heap.size := fun z hz => HSY.out.kl.lt z hz
      have hkw : ∀ z, u14.ownBlock = some z → z < wr.heap.size := fun z hz => HSY.out.wl.lt z hz
      go_wp2_with (first | (refine wpList_loadX rfl _ rfl g7 rfl s (by exact H7.out) HS.out ?_) | (refine wpList_loadX rfl _ rfl g8 rfl t (by exact H8.out) HT.out ?_) | (refine wpList_loadD rfl _ rfl g9 rfl q _ (by exact H9.out) ?_))
      refine (build_c s t q _ _ HS.out HT.out ⟨HWQ.out, by exact HD.out⟩).mono ?_
      rw [build_ok HPR.out HFQ.out]
      rintro E w15 ⟨bv, rfl, hown, hnew, haw⟩
      have hs_bv := haw.size
      replace HSY := Lib.hid (HSY.out.obj haw hown hnew)
      replace HA := Lib.hid (HA.out.on haw)
      replace H7 := Lib.hid (H7.out.on haw)
      replace H8 := Lib.hid (H8.out.on haw)
      replace H9 := Lib.hid (H9.out.on haw)
      replace HP := Lib.hid (HP.out.on haw)
      replace H10 := Lib.hid (H10.out.on haw)
      replace HM := Lib.hid (HM.out.on haw)
      replace HDG := Lib.hid (HDG.out.on haw)
      replace HD := Lib.hid (HD.out.on haw)
      replace HV := Lib.hid (HV.out.on haw)
      replace HAR := Lib.hid (HAR.out.on haw)
      clear haw
      have HBV := Lib.hid hown
      clear hown hnew
      obtain ⟨ba, bc, hbe, hbn, hbc⟩ := HBV.out.slc
      simp only at hbe hbc HBV
      subst hbe
      go_wp2_with (first | (refine wpList_loadX rfl _ rfl g7 rfl s (by exact H7.out) HS.out ?_) | (refine wpList_loadX rfl _ rfl g8 rfl t (by exact H8.out) HT.out ?_) | (refine wpList_loadD rfl _ rfl g10 rfl p _ (by exact H10.out) ?_))
      refine (build_c s t p _ _ HS.out HT.out ⟨HWP.out, by exact HP.out⟩).mono ?_
      rw [build_ok HPR.out HFP.out]
      rintro E w16 ⟨cv, rfl, hown, hnew, haw⟩
      have hs_cv := haw.size
      replace HSY := Lib.hid (HSY.out.obj haw hown hnew)
      replace HA := Lib.hid (HA.out.on haw)
      replace H7 := Lib.hid (H7.out.on haw)
      replace H8 := Lib.hid (H8.out.on haw)
      replace H9 := Lib.hid (H9.out.on haw)
      replace HP := Lib.hid (HP.out.on haw)
      replace H10 := Lib.hid (H10.out.on haw)
      replace HM := Lib.hid (HM.out.on haw)
      replace HDG := Lib.hid (HDG.out.on haw)
      replace HD := Lib.hid (HD.out.on haw)
      replace HV := Lib.hid (HV.out.on haw)
      replace HAR := Lib.hid (HAR.out.on haw)
      replace HBV := Lib.hid (HBV.out.on haw)
      clear haw
      have HCV := Lib.hid hown
      clear hown hnew
      obtain ⟨ca, cc, hce, hcn, hcc⟩ := HCV.out.slc
      simp only at hce hcc HCV
      subst hce
      have hbL : (outP s t q).length ≤ 65535 := by rw [out_len]; omega
      have hcL : (outP s t p).length ≤ 65535 := by rw [out_len]; omega
      generalize hbE : outP s t q = b at *
      generalize hcE : outP s t p = c at *
      have HBE := Lib.hid hbE
      have HCE := Lib.hid hcE
      clear hbE hcE
      have HBB : Hid (Bytes b) := by rw [← HBE.out]; exact out_bytes HS.out HT.out HFQ.out
      have HCB : Hid (Bytes c) := by rw [← HCE.out]; exact out_bytes HS.out HT.out HFP.out
      have HBS : Hid (Sl w16 (.slice ba b.length bc) b) := HBV.out.sl HBB.out (by omega)
      go_wp2_with (at_builtin; refine Mk.wpList_clone rfl _ _ rfl (.slice ba b.length bc) b rfl rfl (by exact HBS.out) ?_; refine Hid.out ?_)
      refine Lib.hid ?_
      intro rv w17 hown hnew haw
      have HRC := Lib.hid hown
      have HRN := Lib.hid hnew
      have HRA := Lib.hid haw
      clear hown hnew haw
      have haw := (Away.refl [] w17).alloc (.cells (([181, 182] : List Int).map (Value.int .u8)).toArray 5)
      have HRa := Lib.hid (HRC.out.on haw)
      have hlc := lit_cells w17 [181, 182] w17.heap.size rfl
      simp only [List.map_cons, List.map_nil] at hlc HRa haw
      have HLC := Lib.hid hlc
      have HAL := Lib.hid haw
      clear hlc haw
      go_wp2_with (at_builtin; refine wpList_app rfl _ _ rfl _ b [181, 182] rfl (by exact HRa.out) _ 2 2 rfl rfl (by exact HLC.out) (by omega) ?_; refine Hid.out ?_)
      refine Lib.hid ?_
      intro lv w18 hown hgr hmv
      have haw1 : Away rv.ownBlock.toList w17 w18 := (HAL.out.mono (by simp)).grown hgr (fun k hk => .inl (by simp [hk]))
      have haw : Away [] w16 w18 := HRA.out.next haw1 (fun x hx => .inr (HRN.out x (by simpa using hx)))
      have hn_lv : Hid (New w16.heap.size lv) := HRN.out.moved hmv (by have h1 := HRA.out.size; have h2 := HAL.out.size; omega)
      have hs_lv := haw.size
      replace HA := Lib.hid (HA.out.on haw)
      replace H7 := Lib.hid (H7.out.on haw)
      replace H8 := Lib.hid (H8.out.on haw)
      replace H9 := Lib.hid (H9.out.on haw)
      replace HP := Lib.hid (HP.out.on haw)
      replace H10 := Lib.hid (H10.out.on haw)
      replace HM := Lib.hid (HM.out.on haw)
      replace HDG := Lib.hid (HDG.out.on haw)
      replace HD := Lib.hid (HD.out.on haw)
      replace HV := Lib.hid (HV.out.on haw)
      replace HAR := Lib.hid (HAR.out.on haw)
      replace HBV := Lib.hid (HBV.out.on haw)
      replace HCV := Lib.hid (HCV.out.on haw)
      replace HBS := Lib.hid (HBS.out.on haw)
      replace HSY := Lib.hid (HSY.out.on haw)
      clear haw
      have HLV := Lib.hid hown
      clear hown hgr hmv haw1 HRC HRN HRA HRa HLC HAL
      obtain ⟨gl, cl, hlv, hcl⟩ := HLV.out.block (by simp)
      have hln : (b ++ [181, 182]).length = b.length + 2 := by simp
      rw [hln] at hlv hcl
      subst hlv
      clear hln
      have sl := slice_h (some ⟨gl, 0, none⟩) (b.length + 2) cl b.length (b.length : Int) rfl (by omega)
      have HPQ : Hid (parseP s t b = (q, 0)) := by show _ = _; rw [← HBE.out]; exact parse_out HS.out HT.out HPR.out HFQ.out
      have HPP : Hid (parseP s t c = (p, 0)) := by show _ = _; rw [← HCE.out]; exact parse_out HS.out HT.out HPR.out HFP.out
      go_wp2_with fail
      have HLH : Hid (Owns w18 (.slice (some ⟨gl, 0, none⟩) b.length cl) b) := by
        have h1 := Mk.Owns.head HLV.out (k := b.length) (by omega)
        rwa [List.take_left] at h1
      go_cut [21, 22] (fun v21 v22 wc => ∃ k21 xa xc, v21 = .pointer (some ⟨k21, 0, none⟩) ∧ v22 = .int .i64 0 ∧ BoxD wc k21 q (.slice xa q.d.length xc) ∧ Owns wc (.slice xa q.d.length xc) q.d ∧ New w18.heap.size (.slice xa q.d.length xc) ∧ w18.heap.size ≤ k21 ∧ Away [] w18 wc)
      case first =>
        refine wp_region_held_drew (S := (fun w' => BoxX w' g7 s ∧ BoxX w' g8 t)) (by kernel_rfl) ⟨by exact H7.out, by exact H8.out⟩ (fun hHeld => ?_)
        have HAX : Hid (Away [] w18 w18.drew) := (Away.refl [] w18).drew
        have hb7x := H7.out.lt; have hb8x := H8.out.lt
        clear H7 H8 H9 H10
        replace HLH := Lib.hid (HLH.out.on HAX.out)
        refine wpAnyH_take (i := 0) (by simp only [List.getElem?_toArray, List.getElem?_cons_zero]; rfl) (by kernel_rfl) (by kernel_rfl) (by kernel_rfl) (by exact fun _ _ _ h => h) (yields_ld (ad := ⟨g7, 0, none⟩) (by rfl) _ rfl rfl (fun w' h => load24_run h.1 HS.out)) (by assumption) ?_
        try simp only [Act.put, List.setIfInBounds_toArray, List.set_cons_zero, List.set_cons_succ]
        refine wpAnyH_take (i := 1) (by simp only [List.getElem?_toArray, List.getElem?_cons_succ, List.getElem?_cons_zero]; rfl) (by kernel_rfl) (by kernel_rfl) (by kernel_rfl) (by exact fun _ _ _ h => h) (yields_ld (ad := ⟨g8, 0, none⟩) (by rfl) _ rfl rfl (fun w' h => load24_run h.2 HT.out)) (by assumption) ?_
        try simp only [Act.put, List.setIfInBounds_toArray, List.set_cons_zero, List.set_cons_succ]
        refine wpAnyH_take (i := 2) (v := ?_) (by simp only [List.getElem?_toArray, List.getElem?_cons_succ, List.getElem?_cons_zero]; rfl) (by kernel_rfl) (by kernel_rfl) (by kernel_rfl) (by exact fun _ _ _ h => h) (Or.inl ⟨by rfl, ?_⟩) (by assumption) ?_
        rotate_left
        · intro wq hSw
          (try dsimp only at hSw)
          go_simp
          all_goals (with_reducible rfl)
        try simp only [Act.put, List.setIfInBounds_toArray, List.set_cons_zero, List.set_cons_succ]
        refine wpAnyH_take (i := 3) (v := ?_) (by simp only [List.getElem?_toArray, List.getElem?_cons_succ, List.getElem?_cons_zero]; rfl) (by kernel_rfl) (by kernel_rfl) (by kernel_rfl) (by exact fun _ _ _ h => h) (Or.inl ⟨by rfl, ?_⟩) (by assumption) ?_
        rotate_left
        · intro wq hSw
          (try dsimp only at hSw)
          go_simp
          all_goals (with_reducible rfl)
        try simp only [Act.put, List.setIfInBounds_toArray, List.set_cons_zero, List.set_cons_succ]
        refine wpAnyH_take (i := 4) (v := ?_) (by simp only [List.getElem?_toArray, List.getElem?_cons_succ, List.getElem?_cons_zero]; rfl) (by kernel_rfl) (by kernel_rfl) (by kernel_rfl) (by exact fun _ _ _ h => h) (Or.inl ⟨by rfl, ?_⟩) (by assumption) ?_
        rotate_left
        · intro wq hSw
          (try dsimp only at hSw)
          go_simp
          all_goals (with_reducible rfl)
        try simp only [Act.put, List.setIfInBounds_toArray, List.set_cons_zero, List.set_cons_succ]
        refine wpAnyH_take (i := 5) (v := ?_) (by simp only [List.getElem?_toArray, List.getElem?_cons_succ, List.getElem?_cons_zero]; rfl) (by kernel_rfl) (by kernel_rfl) (by kernel_rfl) (by exact fun _ _ _ h => h) (Or.inl ⟨by rfl, ?_⟩) (by assumption) ?_
        rotate_left
        · intro wq hSw
          (try dsimp only at hSw)
          go_simp
          all_goals (with_reducible rfl)
        try simp only [Act.put, List.setIfInBounds_toArray, List.set_cons_zero, List.set_cons_succ]
        refine wpAnyH_ready (rs := [6, 10]) (by kernel_rfl) (by simp) ?_
        refine AllReadyH.cons (by simp only [List.getElem?_toArray, List.getElem?_cons_succ, List.getElem?_cons_zero]; rfl) (fun K hK => ?_) (AllReadyH.cons (by simp only [List.getElem?_toArray, List.getElem?_cons_succ, List.getElem?_cons_zero]; rfl) (fun K hK => ?_) AllReadyH.nil)
        · go_simp
          refine (parse_c s t (some ⟨gl, 0, none⟩) b cl _ HS.out HT.out (by exact HLH.out.row' (by omega) HBB.out) (by omega) (by simp)).mono ?_
          rw [HPQ.out]
          rintro E y1 ⟨xv, rfl, hown, hnew, haw⟩
          have HXN := Lib.hid (hnew.mono HAX.out.size)
          have HXO := Lib.hid hown
          have hS : BoxX y1 g7 s ∧ BoxX y1 g8 t := ⟨hHeld.1.on haw, hHeld.2.on haw⟩
          replace HLH := Lib.hid (HLH.out.on haw)
          replace HAX := Lib.hid (HAX.out.on haw)
          clear haw hown hnew hHeld
          obtain ⟨xa, xc, hxe, -, -⟩ := HXO.out.slc
          simp only at hxe HXO
          subst hxe
          go_wp2_with fail
          refine hK.out _ _ hS (fun hHeld => ?_)
          clear hK K
          try simp only [Act.put, List.setIfInBounds_toArray, List.set_cons_zero, List.set_cons_succ]
          clear hS
          refine wpAnyH_take (i := 7) (v := ?_) (by simp only [List.getElem?_toArray, List.getElem?_cons_succ, List.getElem?_cons_zero]; rfl) (by kernel_rfl) (by kernel_rfl) (by kernel_rfl) (by exact fun _ _ _ h => h) (Or.inl ⟨by rfl, ?_⟩) (by assumption) ?_
          rotate_left
          · intro wq hSw
            (try dsimp only at hSw)
            go_simp
            all_goals (with_reducible rfl)
          try simp only [Act.put, List.setIfInBounds_toArray, List.set_cons_zero, List.set_cons_succ]
          refine wpAnyH_take (i := 8) (v := ?_) (by simp only [List.getElem?_toArray, List.getElem?_cons_succ, List.getElem?_cons_zero]; rfl) (by kernel_rfl) (by kernel_rfl) (by kernel_rfl) (by exact fun _ _ _ h => h) (Or.inl ⟨by rfl, ?_⟩) (by assumption) ?_
          rotate_left
          · intro wq hSw
            (try dsimp only at hSw)
            go_simp
            all_goals (with_reducible rfl)
          try simp only [Act.put, List.setIfInBounds_toArray, List.set_cons_zero, List.set_cons_succ]
          refine wpAnyH_take (i := 9) (v := ?_) (by simp only [List.getElem?_toArray, List.getElem?_cons_succ, List.getElem?_cons_zero]; rfl) (by kernel_rfl) (by kernel_rfl) (by kernel_rfl) (by exact fun _ _ _ h => h) (Or.inl ⟨by rfl, ?_⟩) (by assumption) ?_
          rotate_left
          · intro wq hSw
            (try dsimp only at hSw)
            go_simp
            all_goals (with_reducible rfl)
          try simp only [Act.put, List.setIfInBounds_toArray, List.set_cons_zero, List.set_cons_succ]
          refine wpAnyH_ready (rs := [10]) (by kernel_rfl) (by simp) ?_
          refine AllReadyH.cons (by simp only [List.getElem?_toArray, List.getElem?_cons_succ, List.getElem?_cons_zero]; rfl) (fun K hK => ?_) AllReadyH.nil
          refine Mk.step_allocD rfl rfl (fun k21 y2 hk hb haw => ?_)
          have HXB := Lib.hid hb
          have HXS := Lib.hid (show ∀ z, (Value.slice xa q.d.length xc).ownBlock = some z → z ≠ k21 from fun z hz e => by have h1 := HXO.out.lt z hz; omega)
          have hk21 : w18.heap.size ≤ k21 := Nat.le_trans HAX.out.size hk
          have hS : BoxX y2 g7 s ∧ BoxX y2 g8 t := ⟨hHeld.1.on haw, hHeld.2.on haw⟩
          replace HLH := Lib.hid (HLH.out.on haw)
          replace HAX := Lib.hid (HAX.out.on haw)
          replace HXO := Lib.hid (HXO.out.on haw)
          clear haw hb hk hHeld
          refine hK.out _ _ hS (fun hHeld => ?_)
          clear hK K
          try simp only [Act.put, List.setIfInBounds_toArray, List.set_cons_zero, List.set_cons_succ]
          clear hS
          refine wpAnyH_ready (rs := [11]) (by kernel_rfl) (by simp) ?_
          refine AllReadyH.cons (by simp only [List.getElem?_toArray, List.getElem?_cons_succ, List.getElem?_cons_zero]; rfl) (fun K hK => ?_) AllReadyH.nil
          have hxb := HXB.out.lt
          have hol : ∀ z, (Value.slice xa q.d.length xc).ownBlock = some z → z ≠ k21 := HXS.out
          refine Mk.step_storeD rfl _ _ rfl k21 rfl q (.slice xa q.d.length xc) rfl zeroDg _ (by exact HXB.out) rfl (fun y3 hb haw => ?_)
          have hS : BoxX y3 g7 s ∧ BoxX y3 g8 t := ⟨hHeld.1.away haw (by simp; omega), hHeld.2.away haw (by simp; omega)⟩
          replace HXO := Lib.hid (HXO.out.away haw (fun z hz hc => hol z hz (by simpa using hc)))
          replace HAX := Lib.hid (HAX.out.next haw (fun x hx => .inr (by simp at hx; omega)))
          replace HXB := Lib.hid hb
          clear haw hb hHeld hol hxb
          refine hK.out _ _ hS (fun hHeld => ?_)
          clear hK K
          try simp only [Act.put, List.setIfInBounds_toArray, List.set_cons_zero, List.set_cons_succ]
          clear hS
          refine wpAnyH_take (i := 12) (v := ?_) (by simp only [List.getElem?_toArray, List.getElem?_cons_succ, List.getElem?_cons_zero]; rfl) (by kernel_rfl) (by kernel_rfl) (by kernel_rfl) (by exact fun _ _ _ h => h) (Or.inl ⟨by rfl, ?_⟩) (by assumption) ?_
          rotate_left
          · intro wq hSw
            (try dsimp only at hSw)
            go_simp
            all_goals (with_reducible rfl)
          try simp only [Act.put, List.setIfInBounds_toArray, List.set_cons_zero, List.set_cons_succ]
          refine wpAnyH_done (by kernel_rfl) ?_ _
          go_wp2_with fail
          go_meet
          case rel => exact ⟨k21, xa, xc, rfl, rfl, HXB.out, HXO.out, HXN.out, hk21, HAX.out⟩
        · refine Mk.step_allocD rfl rfl (fun k21 y1 hk hb haw => ?_)
          have HXB := Lib.hid hb
          have hk21 : w18.heap.size ≤ k21 := Nat.le_trans HAX.out.size hk
          have hS : BoxX y1 g7 s ∧ BoxX y1 g8 t := ⟨hHeld.1.on haw, hHeld.2.on haw⟩
          replace HLH := Lib.hid (HLH.out.on haw)
          replace HAX := Lib.hid (HAX.out.on haw)
          clear haw hb hk hHeld
          refine hK.out _ _ hS (fun hHeld => ?_)
          clear hK K
          try simp only [Act.put, List.setIfInBounds_toArray, List.set_cons_zero, List.set_cons_succ]
          clear hS
          refine wpAnyH_ready (rs := [6]) (by kernel_rfl) (by simp) ?_
          refine AllReadyH.cons (by simp only [List.getElem?_toArray, List.getElem?_cons_succ, List.getElem?_cons_zero]; rfl) (fun K hK => ?_) AllReadyH.nil
          go_simp
          refine (parse_c s t (some ⟨gl, 0, none⟩) b cl _ HS.out HT.out (by exact HLH.out.row' (by omega) HBB.out) (by omega) (by simp)).mono ?_
          rw [HPQ.out]
          rintro E y2 ⟨xv, rfl, hown, hnew, haw⟩
          have HXN := Lib.hid (hnew.mono HAX.out.size)
          have HXO := Lib.hid hown
          have hxb0 := HXB.out.lt
          have HXS0 := Lib.hid (show ∀ z, xv.ownBlock = some z → z ≠ k21 from fun z hz e => by have h1 := hnew z hz; omega)
          have hS : BoxX y2 g7 s ∧ BoxX y2 g8 t := ⟨hHeld.1.on haw, hHeld.2.on haw⟩
          replace HLH := Lib.hid (HLH.out.on haw)
          replace HAX := Lib.hid (HAX.out.on haw)
          replace HXB := Lib.hid (HXB.out.on haw)
          clear haw hown hnew hHeld
          obtain ⟨xa, xc, hxe, -, -⟩ := HXO.out.slc
          simp only at hxe HXO
          subst hxe
          have HXS := HXS0
          clear HXS0 hxb0
          go_wp2_with fail
          refine hK.out _ _ hS (fun hHeld => ?_)
          clear hK K
          try simp only [Act.put, List.setIfInBounds_toArray, List.set_cons_zero, List.set_cons_succ]
          clear hS
          refine wpAnyH_take (i := 7) (v := ?_) (by simp only [List.getElem?_toArray, List.getElem?_cons_succ, List.getElem?_cons_zero]; rfl) (by kernel_rfl) (by kernel_rfl) (by kernel_rfl) (by exact fun _ _ _ h => h) (Or.inl ⟨by rfl, ?_⟩) (by assumption) ?_
          rotate_left
          · intro wq hSw
            (try dsimp only at hSw)
            go_simp
            all_goals (with_reducible rfl)
          try simp only [Act.put, List.setIfInBounds_toArray, List.set_cons_zero, List.set_cons_succ]
          refine wpAnyH_take (i := 8) (v := ?_) (by simp only [List.getElem?_toArray, List.getElem?_cons_succ, List.getElem?_cons_zero]; rfl) (by kernel_rfl) (by kernel_rfl) (by kernel_rfl) (by exact fun _ _ _ h => h) (Or.inl ⟨by rfl, ?_⟩) (by assumption) ?_
          rotate_left
          · intro wq hSw
            (try dsimp only at hSw)
            go_simp
            all_goals (with_reducible rfl)
          try simp only [Act.put, List.setIfInBounds_toArray, List.set_cons_zero, List.set_cons_succ]
          refine wpAnyH_take (i := 9) (v := ?_) (by simp only [List.getElem?_toArray, List.getElem?_cons_succ, List.getElem?_cons_zero]; rfl) (by kernel_rfl) (by kernel_rfl) (by kernel_rfl) (by exact fun _ _ _ h => h) (Or.inl ⟨by rfl, ?_⟩) (by assumption) ?_
          rotate_left
          · intro wq hSw
            (try dsimp only at hSw)
            go_simp
            all_goals (with_reducible rfl)
          try simp only [Act.put, List.setIfInBounds_toArray, List.set_cons_zero, List.set_cons_succ]
          refine wpAnyH_ready (rs := [11]) (by kernel_rfl) (by simp) ?_
          refine AllReadyH.cons (by simp only [List.getElem?_toArray, List.getElem?_cons_succ, List.getElem?_cons_zero]; rfl) (fun K hK => ?_) AllReadyH.nil
          have hxb := HXB.out.lt
          have hol : ∀ z, (Value.slice xa q.d.length xc).ownBlock = some z → z ≠ k21 := HXS.out
          refine Mk.step_storeD rfl _ _ rfl k21 rfl q (.slice xa q.d.length xc) rfl zeroDg _ (by exact HXB.out) rfl (fun y3 hb haw => ?_)
          have hS : BoxX y3 g7 s ∧ BoxX y3 g8 t := ⟨hHeld.1.away haw (by simp; omega), hHeld.2.away haw (by simp; omega)⟩
          replace HXO := Lib.hid (HXO.out.away haw (fun z hz hc => hol z hz (by simpa using hc)))
          replace HAX := Lib.hid (HAX.out.next haw (fun x hx => .inr (by simp at hx; omega)))
          replace HXB := Lib.hid hb
          clear haw hb hHeld hol hxb
          refine hK.out _ _ hS (fun hHeld => ?_)
          clear hK K
          try simp only [Act.put, List.setIfInBounds_toArray, List.set_cons_zero, List.set_cons_succ]
          clear hS
          refine wpAnyH_take (i := 12) (v := ?_) (by simp only [List.getElem?_toArray, List.getElem?_cons_succ, List.getElem?_cons_zero]; rfl) (by kernel_rfl) (by kernel_rfl) (by kernel_rfl) (by exact fun _ _ _ h => h) (Or.inl ⟨by rfl, ?_⟩) (by assumption) ?_
          rotate_left
          · intro wq hSw
            (try dsimp only at hSw)
            go_simp
            all_goals (with_reducible rfl)
          try simp only [Act.put, List.setIfInBounds_toArray, List.set_cons_zero, List.set_cons_succ]
          refine wpAnyH_done (by kernel_rfl) ?_ _
          go_wp2_with fail
          go_meet
          case rel => exact ⟨k21, xa, xc, rfl, rfl, HXB.out, HXO.out, HXN.out, hk21, HAX.out⟩
      case rest =>
      obtain ⟨k21, xa, xc, rfl, rfl, hxb, hxo, hxn, hk21, haw⟩ := hcut
      have H21 := Lib.hid hxb
      have HXO := Lib.hid hxo
      have HXN := Lib.hid hxn
      have hs_x := haw.size
      replace HSY := Lib.hid (HSY.out.obj haw hxo hxn)
      replace HA := Lib.hid (HA.out.on haw)
      replace H7 := Lib.hid (H7.out.on haw)
      replace H8 := Lib.hid (H8.out.on haw)
      replace H9 := Lib.hid (H9.out.on haw)
      replace HP := Lib.hid (HP.out.on haw)
      replace H10 := Lib.hid (H10.out.on haw)
      replace HM := Lib.hid (HM.out.on haw)
      replace HDG := Lib.hid (HDG.out.on haw)
      replace HD := Lib.hid (HD.out.on haw)
      replace HV := Lib.hid (HV.out.on haw)
      replace HAR := Lib.hid (HAR.out.on haw)
      replace HBV := Lib.hid (HBV.out.on haw)
      replace HCV := Lib.hid (HCV.out.on haw)
      replace HBS := Lib.hid (HBS.out.on haw)
      replace HLV := Lib.hid (HLV.out.on haw)
      replace HLH := Lib.hid (HLH.out.on haw)
      clear haw
      clear hxb hxo hxn
      go_wp2_with (first | (refine wpList_loadX rfl _ rfl g7 rfl s (by exact H7.out) HS.out ?_) | (refine wpList_loadX rfl _ rfl g8 rfl t (by exact H8.out) HT.out ?_))
      refine (parse_c s t ca c cc _ HS.out HT.out (by exact HCV.out.row' (by omega) HCB.out) hcc hcn).mono ?_
      rw [HPP.out]
      rintro E w19 ⟨yv, rfl, hown, hnew, haw⟩
      have hs_yv := haw.size
      replace HSY := Lib.hid (HSY.out.obj haw hown hnew)
      replace HA := Lib.hid (HA.out.on haw)
      replace H7 := Lib.hid (H7.out.on haw)
      replace H8 := Lib.hid (H8.out.on haw)
      replace H9 := Lib.hid (H9.out.on haw)
      replace HP := Lib.hid (HP.out.on haw)
      replace H10 := Lib.hid (H10.out.on haw)
      replace HM := Lib.hid (HM.out.on haw)
      replace HDG := Lib.hid (HDG.out.on haw)
      replace HD := Lib.hid (HD.out.on haw)
      replace HV := Lib.hid (HV.out.on haw)
      replace HAR := Lib.hid (HAR.out.on haw)
      replace HBV := Lib.hid (HBV.out.on haw)
      replace HCV := Lib.hid (HCV.out.on haw)
      replace HBS := Lib.hid (HBS.out.on haw)
      replace HLV := Lib.hid (HLV.out.on haw)
      replace HLH := Lib.hid (HLH.out.on haw)
      replace H21 := Lib.hid (H21.out.on haw)
      replace HXO := Lib.hid (HXO.out.on haw)
      clear haw
      have HYO := Lib.hid hown
      clear hown hnew
      obtain ⟨ya, yc, hye, -, -⟩ := HYO.out.slc
      simp only at hye HYO HSY
      subst hye
      go_wp2_with (refine wpList_newD rfl rfl rfl _ _ rfl p (.slice ya p.d.length yc) (fun _ => rfl) (fun _ => rfl) rfl ?_; refine Hid.out ?_)
      refine Lib.hid ?_
      intro g23 w20 hg_g23 hb haw
      replace HA := Lib.hid (HA.out.on haw)
      replace H7 := Lib.hid (H7.out.on haw)
      replace H8 := Lib.hid (H8.out.on haw)
      replace H9 := Lib.hid (H9.out.on haw)
      replace HP := Lib.hid (HP.out.on haw)
      replace H10 := Lib.hid (H10.out.on haw)
      replace HM := Lib.hid (HM.out.on haw)
      replace HDG := Lib.hid (HDG.out.on haw)
      replace HD := Lib.hid (HD.out.on haw)
      replace HV := Lib.hid (HV.out.on haw)
      replace HAR := Lib.hid (HAR.out.on haw)
      replace HBV := Lib.hid (HBV.out.on haw)
      replace HCV := Lib.hid (HCV.out.on haw)
      replace HBS := Lib.hid (HBS.out.on haw)
      replace HLV := Lib.hid (HLV.out.on haw)
      replace HLH := Lib.hid (HLH.out.on haw)
      replace H21 := Lib.hid (H21.out.on haw)
      replace HXO := Lib.hid (HXO.out.on haw)
      replace HYO := Lib.hid (HYO.out.on haw)
      replace HSY := Lib.hid (HSY.out.on haw)
      clear haw
      have H23 := Lib.hid hb
      have hl_g23 := hb.lt
      clear hb
      have KSM := Lib.hid (same_yes (some ⟨gl, 0, none⟩) ba b b.length b.length cl bc w20 rfl rfl (by exact HLH.out.row' (by omega) HBB.out) (by exact HBV.out.row' (by omega) HBB.out))
      go_wp2_with fail
      refine (KSM.out).mono ?_
      rintro E w21 ⟨rfl, haw⟩
      replace HA := Lib.hid (HA.out.on haw)
      replace H7 := Lib.hid (H7.out.on haw)
      replace H8 := Lib.hid (H8.out.on haw)
      replace H9 := Lib.hid (H9.out.on haw)
      replace HP := Lib.hid (HP.out.on haw)
      replace H10 := Lib.hid (H10.out.on haw)
      replace HM := Lib.hid (HM.out.on haw)
      replace HDG := Lib.hid (HDG.out.on haw)
      replace HD := Lib.hid (HD.out.on haw)
      replace HV := Lib.hid (HV.out.on haw)
      replace HAR := Lib.hid (HAR.out.on haw)
      replace HBV := Lib.hid (HBV.out.on haw)
      replace HCV := Lib.hid (HCV.out.on haw)
      replace HBS := Lib.hid (HBS.out.on haw)
      replace HLV := Lib.hid (HLV.out.on haw)
      replace HLH := Lib.hid (HLH.out.on haw)
      replace H21 := Lib.hid (H21.out.on haw)
      replace HXO := Lib.hid (HXO.out.on haw)
      replace HYO := Lib.hid (HYO.out.on haw)
      replace HSY := Lib.hid (HSY.out.on haw)
      replace H23 := Lib.hid (H23.out.on haw)
      clear haw
      have d1 : w21.cell? ⟨gl, b.length, none⟩ = some (.int .u8 181) := by have h1 := (HLV.out.cells b.length (by simp)).1; simpa using h1
      have d2 : w21.cell? ⟨gl, b.length + 1, none⟩ = some (.int .u8 182) := by have h1 := (HLV.out.cells (b.length + 1) (by simp)).1; simpa using h1
      have x1 : 0 ≤ (b.length : Int) := by omega
      have x2 : (b.length : Int) < (b.length : Int) + 2 := by omega
      have x3 : ((b.length : Int)).toNat = b.length := by omega
      have x4 : 0 ≤ (b.length : Int) + 1 := by omega
      have x5 : (b.length : Int) + 1 < (b.length : Int) + 2 := by omega
      have x6 : ((b.length : Int) + 1).toNat = b.length + 1 := by omega
      have c21 := H21.out.c3
      have c23 := H23.out.c3
      have hac := (Away.refl [] w21).alloc (.cells #[.slice ba b.length bc, .slice ca c.length cc, .slice xa q.d.length xc, .slice ya p.d.length yc] 25)
      have HSYa := Lib.hid (HSY.out.on hac)
      have HAC := Lib.hid hac
      clear hac
      have H4C := Lib.hid (Mk.four_cells w21 (.slice ba b.length bc) (.slice ca c.length cc) (.slice xa q.d.length xc) (.slice ya p.d.length yc) w21.heap.size rfl)
      have hTM : (T.map Kept.v).length ≤ 8 := by rw [List.length_map]; omega
      have hTU : (T.map Kept.u).length ≤ 8 := by rw [List.length_map]; omega
      go_wp2_with (at_builtin; refine Mk.wpList_appV rfl _ _ rfl _ (T.map Kept.v) [.slice ba b.length bc, .slice ca c.length cc, .slice xa q.d.length xc, .slice ya p.d.length yc] rfl (by exact HSYa.out.kl) _ 4 4 rfl rfl (by exact H4C.out) (by simp [Value.oneCell']) (by omega) ?_; refine Hid.out ?_)
      refine Lib.hid ?_
      intro kv2 w22 hlv ha2 hm2
      replace HSY := Lib.hid (HSYa.out.appK hlv ha2 hm2)
      have haw : Away u13.ownBlock.toList w21 w22 := (HAC.out.mono (by simp)).trans ha2
      replace H21 := Lib.hid (H21.out.away haw (fun hc => by have h1 := hku _ (by simpa using hc); omega))
      replace H23 := Lib.hid (H23.out.away haw (fun hc => by have h1 := hku _ (by simpa using hc); omega))
      replace HAR := Lib.hid (HAR.out.next haw (fun x hx => .inr (HSYa.out.nk x (by simpa using hx))))
      have HS1 : Hid (Sl w22 (.slice ba b.length bc) b) := (HSY.out.own (.slice ba b.length bc, b) (by simp)).sl HBB.out (by simp only; omega)
      have HS2 : Hid (Sl w22 (.slice ca c.length cc) c) := (HSY.out.own (.slice ca c.length cc, c) (by simp)).sl HCB.out (by simp only; omega)
      have HS3 : Hid (Sl w22 (.slice xa q.d.length xc) q.d) := (HSY.out.own (.slice xa q.d.length xc, q.d) (by simp)).sl HFQ.out.d (by simp only; omega)
      have HS4 : Hid (Sl w22 (.slice ya p.d.length yc) p.d) := (HSY.out.own (.slice ya p.d.length yc, p.d) (by simp)).sl HFP.out.d (by simp only; omega)
      clear haw ha2 hlv hm2 HSYa HAC H4C c21 c23 d1 d2 x1 x2 x3 x4 x5 x6 HLV HLH HBV HCV HXO HYO HBS KSM H7 H8 H9 H10 HA HD HDG HP HM HV
      go_wp2_with fail
      refine wp_region_held_drew (S := (fun w' => BoxD w' k21 q (.slice xa q.d.length xc) ∧ BoxD w' g23 p (.slice ya p.d.length yc))) (by kernel_rfl) ⟨by exact H21.out, by exact H23.out⟩ (fun hHeld => ?_)
      have haw : Away [] w22 w22.drew := (Away.refl [] w22).drew
      replace HSY := Lib.hid (HSY.out.on haw)
      replace HAR := Lib.hid (HAR.out.on haw)
      replace HS1 := Lib.hid (HS1.out.on haw)
      replace HS2 := Lib.hid (HS2.out.on haw)
      replace HS3 := Lib.hid (HS3.out.on haw)
      replace HS4 := Lib.hid (HS4.out.on haw)
      clear haw H21 H23
      refine wpAnyH_take (i := 0) (v := ?_) (by simp only [List.getElem?_toArray, List.getElem?_cons_zero]; rfl) (by kernel_rfl) (by kernel_rfl) (by kernel_rfl) (by exact fun _ _ _ h => h) (Or.inl ⟨by rfl, ?_⟩) (by assumption) ?_
      rotate_left
      · intro wq hSw
        (try dsimp only at hSw)
        go_simp
        all_goals (with_reducible rfl)
      try simp only [Act.put, List.setIfInBounds_toArray, List.set_cons_zero, List.set_cons_succ]
      refine wpAnyH_take (i := 1) (v := ?_) (by simp only [List.getElem?_toArray, List.getElem?_cons_succ, List.getElem?_cons_zero]; rfl) (by kernel_rfl) (by kernel_rfl) (by kernel_rfl) (by exact fun _ _ _ h => h) (Or.inl ⟨by rfl, ?_⟩) (by assumption) ?_
      rotate_left
      · intro wq hSw
        (try dsimp only at hSw)
        go_simp
        all_goals (with_reducible rfl)
      try simp only [Act.put, List.setIfInBounds_toArray, List.set_cons_zero, List.set_cons_succ]
      refine wpAnyH_take (i := 3) (v := ?_) (by simp only [List.getElem?_toArray, List.getElem?_cons_succ, List.getElem?_cons_zero]; rfl) (by kernel_rfl) (by kernel_rfl) (by kernel_rfl) (by exact fun _ _ _ h => h) (Or.inl ⟨by rfl, ?_⟩) (by assumption) ?_
      rotate_left
      · intro wq hSw
        (try dsimp only at hSw)
        go_simp
        all_goals (with_reducible rfl)
      try simp only [Act.put, List.setIfInBounds_toArray, List.set_cons_zero, List.set_cons_succ]
      refine wpAnyH_take (i := 5) (v := ?_) (by simp only [List.getElem?_toArray, List.getElem?_cons_succ, List.getElem?_cons_zero]; rfl) (by kernel_rfl) (by kernel_rfl) (by kernel_rfl) (by exact fun _ _ _ h => h) (Or.inl ⟨by rfl, ?_⟩) (by assumption) ?_
      rotate_left
      · intro wq hSw
        (try dsimp only at hSw)
        go_simp
        all_goals (with_reducible rfl)
      try simp only [Act.put, List.setIfInBounds_toArray, List.set_cons_zero, List.set_cons_succ]
      refine wpAnyH_take (i := 6) (by simp only [List.getElem?_toArray, List.getElem?_cons_succ, List.getElem?_cons_zero]; rfl) (by kernel_rfl) (by kernel_rfl) (by kernel_rfl) (by exact fun _ _ _ h => h) (yields_ld (ad := ⟨k21, 3, none⟩) (by rfl) _ rfl rfl (fun w' h => Mk.ld25 h.1.c3)) (by assumption) ?_
      try simp only [Act.put, List.setIfInBounds_toArray, List.set_cons_zero, List.set_cons_succ]
      refine wpAnyH_take (i := 8) (v := ?_) (by simp only [List.getElem?_toArray, List.getElem?_cons_succ, List.getElem?_cons_zero]; rfl) (by kernel_rfl) (by kernel_rfl) (by kernel_rfl) (by exact fun _ _ _ h => h) (Or.inl ⟨by rfl, ?_⟩) (by assumption) ?_
      rotate_left
      · intro wq hSw
        (try dsimp only at hSw)
        go_simp
        all_goals (with_reducible rfl)
      try simp only [Act.put, List.setIfInBounds_toArray, List.set_cons_zero, List.set_cons_succ]
      refine wpAnyH_take (i := 9) (by simp only [List.getElem?_toArray, List.getElem?_cons_succ, List.getElem?_cons_zero]; rfl) (by kernel_rfl) (by kernel_rfl) (by kernel_rfl) (by exact fun _ _ _ h => h) (yields_ld (ad := ⟨g23, 3, none⟩) (by rfl) _ rfl rfl (fun w' h => Mk.ld25 h.2.c3)) (by assumption) ?_
      try simp only [Act.put, List.setIfInBounds_toArray, List.set_cons_zero, List.set_cons_succ]
      refine wpAnyH_ready (rs := [2]) (by kernel_rfl) (by simp) ?_
      refine AllReadyH.cons (by simp only [List.getElem?_toArray, List.getElem?_cons_succ, List.getElem?_cons_zero]; rfl) (fun K hK => ?_) AllReadyH.nil
      refine Mk.step_clone rfl _ _ rfl (.slice ba b.length bc) b rfl rfl (by exact HS1.out) (fun uv z1 ho hn haw => ?_)
      obtain ⟨ua0, uc0, hue, -, -⟩ := ho.slc
      subst hue
      replace HSY := Lib.hid (HSY.out.obj haw ho hn)
      have hS : BoxD z1 k21 q (.slice xa q.d.length xc) ∧ BoxD z1 g23 p (.slice ya p.d.length yc) := ⟨hHeld.1.on haw, hHeld.2.on haw⟩
      replace HAR := Lib.hid (HAR.out.on haw)
      replace HS1 := Lib.hid (HS1.out.on haw)
      replace HS2 := Lib.hid (HS2.out.on haw)
      replace HS3 := Lib.hid (HS3.out.on haw)
      replace HS4 := Lib.hid (HS4.out.on haw)
      clear haw ho hn hHeld
      refine hK.out _ _ hS (fun hHeld => ?_)
      clear hK K
      try simp only [Act.put, List.setIfInBounds_toArray, List.set_cons_zero, List.set_cons_succ]
      clear hS
      refine wpAnyH_ready (rs := [4]) (by kernel_rfl) (by simp) ?_
      refine AllReadyH.cons (by simp only [List.getElem?_toArray, List.getElem?_cons_succ, List.getElem?_cons_zero]; rfl) (fun K hK => ?_) AllReadyH.nil
      refine Mk.step_clone rfl _ _ rfl (.slice ca c.length cc) c rfl rfl (by exact HS2.out) (fun uv z2 ho hn haw => ?_)
      obtain ⟨ua1, uc1, hue, -, -⟩ := ho.slc
      subst hue
      replace HSY := Lib.hid (HSY.out.obj haw ho hn)
      have hS : BoxD z2 k21 q (.slice xa q.d.length xc) ∧ BoxD z2 g23 p (.slice ya p.d.length yc) := ⟨hHeld.1.on haw, hHeld.2.on haw⟩
      replace HAR := Lib.hid (HAR.out.on haw)
      replace HS1 := Lib.hid (HS1.out.on haw)
      replace HS2 := Lib.hid (HS2.out.on haw)
      replace HS3 := Lib.hid (HS3.out.on haw)
      replace HS4 := Lib.hid (HS4.out.on haw)
      clear haw ho hn hHeld
      refine hK.out _ _ hS (fun hHeld => ?_)
      clear hK K
      try simp only [Act.put, List.setIfInBounds_toArray, List.set_cons_zero, List.set_cons_succ]
      clear hS
      refine wpAnyH_ready (rs := [7]) (by kernel_rfl) (by simp) ?_
      refine AllReadyH.cons (by simp only [List.getElem?_toArray, List.getElem?_cons_succ, List.getElem?_cons_zero]; rfl) (fun K hK => ?_) AllReadyH.nil
      refine Mk.step_clone rfl _ _ rfl (.slice xa q.d.length xc) q.d rfl rfl (by exact HS3.out) (fun uv z3 ho hn haw => ?_)
      obtain ⟨ua2, uc2, hue, -, -⟩ := ho.slc
      subst hue
      replace HSY := Lib.hid (HSY.out.obj haw ho hn)
      have hS : BoxD z3 k21 q (.slice xa q.d.length xc) ∧ BoxD z3 g23 p (.slice ya p.d.length yc) := ⟨hHeld.1.on haw, hHeld.2.on haw⟩
      replace HAR := Lib.hid (HAR.out.on haw)
      replace HS1 := Lib.hid (HS1.out.on haw)
      replace HS2 := Lib.hid (HS2.out.on haw)
      replace HS3 := Lib.hid (HS3.out.on haw)
      replace HS4 := Lib.hid (HS4.out.on haw)
      clear haw ho hn hHeld
      refine hK.out _ _ hS (fun hHeld => ?_)
      clear hK K
      try simp only [Act.put, List.setIfInBounds_toArray, List.set_cons_zero, List.set_cons_succ]
      clear hS
      refine wpAnyH_ready (rs := [10]) (by kernel_rfl) (by simp) ?_
      refine AllReadyH.cons (by simp only [List.getElem?_toArray, List.getElem?_cons_succ, List.getElem?_cons_zero]; rfl) (fun K hK => ?_) AllReadyH.nil
      refine Mk.step_clone rfl _ _ rfl (.slice ya p.d.length yc) p.d rfl rfl (by exact HS4.out) (fun uv z4 ho hn haw => ?_)
      obtain ⟨ua3, uc3, hue, -, -⟩ := ho.slc
      subst hue
      replace HSY := Lib.hid (HSY.out.obj haw ho hn)
      have hS : BoxD z4 k21 q (.slice xa q.d.length xc) ∧ BoxD z4 g23 p (.slice ya p.d.length yc) := ⟨hHeld.1.on haw, hHeld.2.on haw⟩
      replace HAR := Lib.hid (HAR.out.on haw)
      replace HS1 := Lib.hid (HS1.out.on haw)
      replace HS2 := Lib.hid (HS2.out.on haw)
      replace HS3 := Lib.hid (HS3.out.on haw)
      replace HS4 := Lib.hid (HS4.out.on haw)
      clear haw ho hn hHeld
      refine hK.out _ _ hS (fun hHeld => ?_)
      clear hK K
      try simp only [Act.put, List.setIfInBounds_toArray, List.set_cons_zero, List.set_cons_succ]
      clear hS
      refine wpAnyH_ready (rs := [11]) (by kernel_rfl) (by simp) ?_
      refine AllReadyH.cons (by simp only [List.getElem?_toArray, List.getElem?_cons_succ, List.getElem?_cons_zero]; rfl) (fun K hK => ?_) AllReadyH.nil
      have hac := (Away.refl [] z4).alloc (.cells #[.slice ua0 b.length uc0, .slice ua1 c.length uc1, .slice ua2 q.d.length uc2, .slice ua3 p.d.length uc3] 25)
      have HSYb := Lib.hid (HSY.out.on hac)
      have HARb := Lib.hid (HAR.out.on hac)
      have H4D := Lib.hid (Mk.four_cells z4 (.slice ua0 b.length uc0) (.slice ua1 c.length uc1) (.slice ua2 q.d.length uc2) (.slice ua3 p.d.length uc3) z4.heap.size rfl)
      have hS : BoxD (z4.alloc (.cells #[.slice ua0 b.length uc0, .slice ua1 c.length uc1, .slice ua2 q.d.length uc2, .slice ua3 p.d.length uc3] 25)) k21 q (.slice xa q.d.length xc) ∧ BoxD (z4.alloc (.cells #[.slice ua0 b.length uc0, .slice ua1 c.length uc1, .slice ua2 q.d.length uc2, .slice ua3 p.d.length uc3] 25)) g23 p (.slice ya p.d.length yc) := ⟨hHeld.1.on hac, hHeld.2.on hac⟩
      clear hac hHeld
      go_simp
      refine hK.out _ _ (by exact hS) (fun hHeld => ?_)
      clear hK K
      try simp only [Act.put, List.setIfInBounds_toArray, List.set_cons_zero, List.set_cons_succ]
      clear hS
      refine wpAnyH_ready (rs := [12]) (by kernel_rfl) (by simp) ?_
      refine AllReadyH.cons (by simp only [List.getElem?_toArray, List.getElem?_cons_succ, List.getElem?_cons_zero]; rfl) (fun K hK => ?_) AllReadyH.nil
      refine Mk.step_appV rfl _ _ rfl u14 (T.map Kept.u) [.slice ua0 b.length uc0, .slice ua1 c.length uc1, .slice ua2 q.d.length uc2, .slice ua3 p.d.length uc3] rfl (by exact HSYb.out.wl) _ 4 4 rfl rfl (by exact H4D.out) (by simp [Value.oneCell']) (by omega) (fun wv2 z5 hlv ha2 hm2 => ?_)
      replace HSY := Lib.hid (HSYb.out.appW hlv ha2 hm2)
      replace HAR := Lib.hid (HARb.out.next ha2 (fun x hx => .inr (HSYb.out.nw x (by simpa using hx))))
      have hS : BoxD z5 k21 q (.slice xa q.d.length xc) ∧ BoxD z5 g23 p (.slice ya p.d.length yc) := ⟨hHeld.1.away ha2 (fun hc => by have h1 := hkw _ (by simpa using hc); omega), hHeld.2.away ha2 (fun hc => by have h1 := hkw _ (by simpa using hc); omega)⟩
      clear hlv ha2 hm2 HSYb HARb H4D hHeld
      refine hK.out _ _ hS (fun hHeld => ?_)
      clear hK K
      try simp only [Act.put, List.setIfInBounds_toArray, List.set_cons_zero, List.set_cons_succ]
      clear hS
      refine wpAnyH_take (i := 13) (v := ?_) (by simp only [List.getElem?_toArray, List.getElem?_cons_succ, List.getElem?_cons_zero]; rfl) (by kernel_rfl) (by kernel_rfl) (by kernel_rfl) (by exact fun _ _ _ h => h) (Or.inl ⟨by rfl, ?_⟩) (by assumption) ?_
      rotate_left
      · intro wq hSw
        (try dsimp only at hSw)
        go_simp
        all_goals (with_reducible rfl)
      try simp only [Act.put, List.setIfInBounds_toArray, List.set_cons_zero, List.set_cons_succ]
      refine wpAnyH_done (by kernel_rfl) ?_ _
      go_wp2_with fail
      go_roundw
      case rel =>
        exact ⟨i + 1, T ++ ([⟨b, .slice ba b.length bc, .slice ua0 b.length uc0⟩, ⟨c, .slice ca c.length cc, .slice ua1 c.length uc1⟩, ⟨q.d, .slice xa q.d.length xc, .slice ua2 q.d.length uc2⟩, ⟨p.d, .slice ya p.d.length yc, .slice ua3 p.d.length uc3⟩] : List Kept), _, by go_num, by omega, by simp; omega, HAR.out, by rw [List.map_append, List.map_append]; exact HSY.out, by rw [List.map_append]; exact Mk.sub8 HSB.out, fun t ht => by
          rcases List.mem_append.1 ht with h | h
          · have h1 := HU.out t h
            simp [h1]
          · simp at h
            rcases h with rfl | rfl | rfl | rfl <;> simp, fun t ht => by
          rcases List.mem_append.1 ht with h | h
          · exact HBY.out t h
          · simp at h
            rcases h with rfl | rfl | rfl | rfl
            · exact ⟨HBB.out, by simp only; omega⟩
            · exact ⟨HCB.out, by simp only; omega⟩
            · exact ⟨HFQ.out.d, by simp only; omega⟩
            · exact ⟨HFP.out.d, by simp only; omega⟩⟩
      case measure => simp [intOf]; omega
    · obtain rfl : i = 2 := by omega
      have i1 : decide (((2 : Nat) : Int) < 2) = false := by decide
      have HNB := Lib.hid (HSY.out.mem_new HSB.out)
      obtain ⟨la, lc, hle, -, -, -⟩ := HSY.out.kl.shape
      obtain ⟨ka, kc, hke, -, -, -⟩ := HSY.out.wl.shape
      rw [List.length_map, show T.length = 8 by omega] at hle hke
      subst hle
      subst hke
      go_wp2_with fail
      refine (known_c _).mono ?_
      rintro E w15 ⟨rfl, haw⟩
      replace HA := Lib.hid (HA.out.on haw)
      replace H7 := Lib.hid (H7.out.on haw)
      replace H8 := Lib.hid (H8.out.on haw)
      replace H9 := Lib.hid (H9.out.on haw)
      replace HP := Lib.hid (HP.out.on haw)
      replace H10 := Lib.hid (H10.out.on haw)
      replace HM := Lib.hid (HM.out.on haw)
      replace HDG := Lib.hid (HDG.out.on haw)
      replace HD := Lib.hid (HD.out.on haw)
      replace HV := Lib.hid (HV.out.on haw)
      replace HAR := Lib.hid (HAR.out.on haw)
      replace HSY := Lib.hid (HSY.out.on haw)
      clear haw
      have c3 := H9.out.c3
      go_wp2_with fail
      refine (same_yes (some ⟨gr, 0, none⟩) va q.d _ _ cr vc _ rfl rfl (by exact HDG.out.row' (by omega) HFQ.out.d) (by exact HV.out.row' (by omega) HFQ.out.d)).mono ?_
      rintro E w16 ⟨rfl, haw⟩
      replace HA := Lib.hid (HA.out.on haw)
      replace H7 := Lib.hid (H7.out.on haw)
      replace H8 := Lib.hid (H8.out.on haw)
      replace H9 := Lib.hid (H9.out.on haw)
      replace HP := Lib.hid (HP.out.on haw)
      replace H10 := Lib.hid (H10.out.on haw)
      replace HM := Lib.hid (HM.out.on haw)
      replace HDG := Lib.hid (HDG.out.on haw)
      replace HD := Lib.hid (HD.out.on haw)
      replace HV := Lib.hid (HV.out.on haw)
      replace HAR := Lib.hid (HAR.out.on haw)
      replace HSY := Lib.hid (HSY.out.on haw)
      clear haw
      clear c3
      have d1 : w16.cell? ⟨gr, q.d.length, none⟩ = some (.int .u8 171) := by have h1 := (HM.out.cells q.d.length (by simp)).1; simpa using h1
      have d2 : w16.cell? ⟨gr, q.d.length + 1, none⟩ = some (.int .u8 172) := by have h1 := (HM.out.cells (q.d.length + 1) (by simp)).1; simpa using h1
      have x1 : 0 ≤ (q.d.length : Int) := by omega
      have x2 : (q.d.length : Int) < (q.d.length : Int) + 2 := by omega
      have x3 : ((q.d.length : Int)).toNat = q.d.length := by omega
      have x4 : 0 ≤ (q.d.length : Int) + 1 := by omega
      have x5 : (q.d.length : Int) + 1 < (q.d.length : Int) + 2 := by omega
      have x6 : ((q.d.length : Int) + 1).toNat = q.d.length + 1 := by omega
      have HBAG := Lib.hid (HSY.out.bag HSB.out HU.out HBY.out)
      go_wp2_with fail
      refine (Mk.marked_c _ _ _ T (by exact HBAG.out) (by omega)).mono ?_
      rintro E w17 ⟨rfl, haw⟩
      clear d1 d2 x1 x2 x3 x4 x5 x6 HBAG HSY HSB HU HBY HAR HP H10 HV
      replace HA := Lib.hid (HA.out.next haw (fun x hx => .inr (by have h1 := HNB.out x hx; omega)))
      replace H7 := Lib.hid (H7.out.away haw (fun hc => by have h1 := HNB.out _ hc; omega))
      replace H8 := Lib.hid (H8.out.away haw (fun hc => by have h1 := HNB.out _ hc; omega))
      replace H9 := Lib.hid (H9.out.away haw (fun hc => by have h1 := HNB.out _ hc; omega))
      replace HDG := Lib.hid (HDG.out.away haw (fun k hk hc => by have h1 := HNB.out _ hc; simp [Value.ownBlock] at hk; omega))
      clear haw HM HD HNB
      have c3 := H9.out.c3
      go_wp2_with fail
      clear c3
      have hr8 := HDG.out.lt gr rfl
      go_loopw [25] (fun x wr2 => ∃ (k : Nat) (m : List Int), x = .int .i64 (k : Int) ∧ k ≤ q.d.length ∧ m.length = q.d.length ∧ Bytes m ∧ Owns wr2 (.slice (some ⟨gr, 0, none⟩) q.d.length cr) m ∧ Away [gr] w17 wr2) (fun x _ => q.d.length - (intOf x).toNat)
      case atStart => exact ⟨0, q.d, rfl, by omega, rfl, HFQ.out.d, HDG.out, Away.refl _ _⟩
      case round =>
        obtain ⟨k, m, rfl, hk, hml, hmb, hmo, haw⟩ := hrel
        clear HDG
        replace HA := Lib.hid (HA.out.next haw (fun x hx => .inr (by simp at hx; omega)))
        replace H7 := Lib.hid (H7.out.away haw (by simp; omega))
        replace H8 := Lib.hid (H8.out.away haw (by simp; omega))
        replace H9 := Lib.hid (H9.out.away haw (by simp; omega))
        have HMO := Lib.hid hmo
        have HMB := Lib.hid hmb
        have HAG := Lib.hid haw
        clear hmo hmb haw
        by_cases hlk : k < q.d.length
        · have k1 : decide ((k : Int) < (q.d.length : Int)) = true := decide_eq_true (by omega)
          have c3 := H9.out.c3
          obtain ⟨ck, fk⟩ := HMO.out.cells k (by omega)
          obtain ⟨old, hold⟩ : ∃ x, x = m[k]?.getD 0 := ⟨_, rfl⟩
          rw [← hold] at ck
          have hob : 0 ≤ old ∧ old ≤ 255 := by rw [hold]; exact HMB.out.getD k
          clear hold
          go_wp2_with fail
          clear c3
          have hs : wr.drew.cell? ⟨gr, k, none⟩ = some (.int .u8 old) ∧ BoxD wr.drew g9 q (.slice (some ⟨gr, 0, none⟩) q.d.length cr) := ⟨by exact ck, by exact H9.out⟩
          refine wp_region_U 10 (fun w' => w'.cell? ⟨gr, k, none⟩ = some (.int .u8 old) ∧ BoxD w' g9 q (.slice (some ⟨gr, 0, none⟩) q.d.length cr)) (by kernel_rfl) ?_
          refine wpAnyU_take (i := 0) (v := ?_) (by simp only [List.getElem?_toArray, List.getElem?_cons_zero]; rfl) (by kernel_rfl) (by kernel_rfl) (by kernel_rfl) (by decide) (by kernel_rfl) (by kernel_rfl) (by exact fun _ _ _ h => h) (Or.inl ⟨by rfl, ?_⟩) (by exact hs) ?_
          rotate_left
          · intro wq hSw
            clear hSw
            go_simp
            all_goals (with_reducible rfl)
          try simp only [Act.put, List.setIfInBounds_toArray, List.set_cons_zero, List.set_cons_succ]
          refine wpAnyU_take (i := 1) (by simp only [List.getElem?_toArray, List.getElem?_cons_succ, List.getElem?_cons_zero]; rfl) (by kernel_rfl) (by kernel_rfl) (by kernel_rfl) (by decide) (by kernel_rfl) (by kernel_rfl) (by exact fun _ _ _ h => h) (yields_ld (ad := ⟨g9, 3, none⟩) (by rfl) _ rfl rfl (fun w' h => Mk.ld25 h.2.c3)) (by exact hs) ?_
          try simp only [Act.put, List.setIfInBounds_toArray, List.set_cons_zero, List.set_cons_succ]
          refine wpAnyU_take (i := 2) (v := ?_) (by simp only [List.getElem?_toArray, List.getElem?_cons_succ, List.getElem?_cons_zero]; rfl) (by kernel_rfl) (by kernel_rfl) (by kernel_rfl) (by decide) (by kernel_rfl) (by kernel_rfl) (by exact fun _ _ _ h => h) (Or.inl ⟨by rfl, ?_⟩) (by exact hs) ?_
          rotate_left
          · intro wq hSw
            clear hSw
            go_simp
            all_goals (with_reducible rfl)
          try simp only [Act.put, List.setIfInBounds_toArray, List.set_cons_zero, List.set_cons_succ]
          refine wpAnyU_take (i := 3) (v := ?_) (by simp only [List.getElem?_toArray, List.getElem?_cons_succ, List.getElem?_cons_zero]; rfl) (by kernel_rfl) (by kernel_rfl) (by kernel_rfl) (by decide) (by kernel_rfl) (by kernel_rfl) (by exact fun _ _ _ h => h) (Or.inl ⟨by rfl, ?_⟩) (by exact hs) ?_
          rotate_left
          · intro wq hSw
            clear hSw
            go_simp
            all_goals (with_reducible rfl)
          try simp only [Act.put, List.setIfInBounds_toArray, List.set_cons_zero, List.set_cons_succ]
          refine wpAnyU_take (i := 4) (by simp only [List.getElem?_toArray, List.getElem?_cons_succ, List.getElem?_cons_zero]; rfl) (by kernel_rfl) (by kernel_rfl) (by kernel_rfl) (by decide) (by kernel_rfl) (by kernel_rfl) (by exact fun _ _ _ h => h) (yields_ld (ad := ⟨g9, 3, none⟩) (by rfl) _ rfl rfl (fun w' h => Mk.ld25 h.2.c3)) (by exact hs) ?_
          try simp only [Act.put, List.setIfInBounds_toArray, List.set_cons_zero, List.set_cons_succ]
          refine wpAnyU_take (i := 5) (v := ?_) (by simp only [List.getElem?_toArray, List.getElem?_cons_succ, List.getElem?_cons_zero]; rfl) (by kernel_rfl) (by kernel_rfl) (by kernel_rfl) (by decide) (by kernel_rfl) (by kernel_rfl) (by exact fun _ _ _ h => h) (Or.inl ⟨by rfl, ?_⟩) (by exact hs) ?_
          rotate_left
          · intro wq hSw
            clear hSw
            go_simp
            all_goals (with_reducible rfl)
          try simp only [Act.put, List.setIfInBounds_toArray, List.set_cons_zero, List.set_cons_succ]
          refine wpAnyU_take (i := 6) (by simp only [List.getElem?_toArray, List.getElem?_cons_succ, List.getElem?_cons_zero]; rfl) (by kernel_rfl) (by kernel_rfl) (by kernel_rfl) (by decide) (by kernel_rfl) (by kernel_rfl) (by exact fun _ _ _ h => h) (yields_ix0 (by rfl) _ _ rfl k rfl rfl hlk) (by exact hs) ?_
          try simp only [Act.put, List.setIfInBounds_toArray, List.set_cons_zero, List.set_cons_succ]
          refine wpAnyU_take (i := 7) (by simp only [List.getElem?_toArray, List.getElem?_cons_succ, List.getElem?_cons_zero]; rfl) (by kernel_rfl) (by kernel_rfl) (by kernel_rfl) (by decide) (by kernel_rfl) (by kernel_rfl) (by exact fun _ _ _ h => h) (yields_ld (ad := ⟨gr, k, none⟩) (by rfl) _ rfl rfl (fun w' h => ld5 h.1)) (by exact hs) ?_
          try simp only [Act.put, List.setIfInBounds_toArray, List.set_cons_zero, List.set_cons_succ]
          refine wpAnyU_take (i := 8) (v := ?_) (by simp only [List.getElem?_toArray, List.getElem?_cons_succ, List.getElem?_cons_zero]; rfl) (by kernel_rfl) (by kernel_rfl) (by kernel_rfl) (by decide) (by kernel_rfl) (by kernel_rfl) (by exact fun _ _ _ h => h) (Or.inl ⟨by rfl, ?_⟩) (by exact hs) ?_
          rotate_left
          · intro wq hSw
            clear hSw
            go_simp
            all_goals (with_reducible rfl)
          try simp only [Act.put, List.setIfInBounds_toArray, List.set_cons_zero, List.set_cons_succ]
          refine wpAnyU_take (i := 9) (by simp only [List.getElem?_toArray, List.getElem?_cons_succ, List.getElem?_cons_zero]; rfl) (by kernel_rfl) (by kernel_rfl) (by kernel_rfl) (by decide) (by kernel_rfl) (by kernel_rfl) (by exact fun _ _ _ h => h) (yields_ix0 (by rfl) _ _ rfl k rfl rfl hlk) (by exact hs) ?_
          try simp only [Act.put, List.setIfInBounds_toArray, List.set_cons_zero, List.set_cons_succ]
          refine wpAnyU_ready (rs := [10]) (by kernel_rfl) (by simp) ?_
          refine ReadyU.cons (by simp only [List.getElem?_toArray, List.getElem?_cons_succ, List.getElem?_cons_zero]; rfl) (fun K hK => ?_) ReadyU.nil
          refine step_store5 rfl 195 194 rfl gr k rfl (IntKind.u8.wrap (old + 1)) rfl (.int .u8 old) (by exact ck) (by exact fk) ?_
          refine hK.out _ _ (fun h => absurd h (by decide)) ?_
          clear hK K
          refine wpAnyU_done (by kernel_rfl) ?_ _
          have haw : Away [gr] wr (wr.drew.setCell ⟨gr, k, none⟩ (.int .u8 (IntKind.u8.wrap (old + 1)))) := (Away.refl [gr] wr).drew.setCell (.inl (by simp)) _
          replace HMO : Hid (Owns (wr.drew.setCell ⟨gr, k, none⟩ (.int .u8 (IntKind.u8.wrap (old + 1)))) (.slice (some ⟨gr, 0, none⟩) q.d.length cr) (m.set k (IntKind.u8.wrap (old + 1)))) := Owns.set (w := wr.drew) HMO.out hml k _
          replace HAG := Lib.hid (HAG.out.trans haw)
          have hwb : 0 ≤ IntKind.u8.wrap (old + 1) ∧ IntKind.u8.wrap (old + 1) ≤ 255 := by rw [IntKind.wrap_u8']; omega
          replace HMB := Lib.hid (HMB.out.set k hwb.1 hwb.2)
          clear haw ck fk hs hwb
          generalize World.setCell _ ⟨gr, k, none⟩ (.int .u8 (IntKind.u8.wrap (old + 1))) = w2 at *
          go_wp2_with fail
          go_roundw
          case rel => exact ⟨k + 1, _, by go_num, by omega, by simp [hml], HMB.out, HMO.out, HAG.out⟩
          case measure => simp [intOf]; omega
        · obtain rfl : k = q.d.length := by omega
          have k1 : decide ((q.d.length : Int) < (q.d.length : Int)) = false := by simp
          obtain ⟨q2, hq2⟩ : ∃ g : Dg, g = ⟨q.sp, q.dp, q.ns, m⟩ := ⟨_, rfl⟩
          have HQ2 := Lib.hid hq2
          have HF2 : Hid (Fit s.v q2) := by rw [hq2]; exact ⟨HFQ.out.sp0, HFQ.out.sp1, HFQ.out.dp0, HFQ.out.dp1, by show (m.length : Int) ≤ _; rw [hml]; exact HFQ.out.n, HFQ.out.s6, HMB.out⟩
          have HW2 := Lib.hid (fit_wfd HF2.out)
          have h2d : q2.d = m := by rw [hq2]
          replace H9 : Hid (BoxD wr g9 q2 (.slice (some ⟨gr, 0, none⟩) q.d.length cr)) := by rw [hq2]; exact H9.out
          have h2l : q2.d.length = q.d.length := by rw [h2d, hml]
          have HSD : Hid (Sl wr (.slice (some ⟨gr, 0, none⟩) q.d.length cr) q2.d) := by rw [h2d]; exact HMO.out.sl HMB.out (by omega)
          have HL2 := Lib.hid h2l
          clear h2l h2d
          have hy7 := H7.out.lt
          have hy8 := H8.out.lt
          have hy9 := H9.out.lt
          have hyr := HMO.out.lt gr rfl
          have hyA := HA.out.size
          clear HMO HAG hq2
          have c3 := H9.out.c3
          go_wp2_with (first | (refine wpList_loadD rfl _ rfl g9 rfl q2 _ (by exact H9.out) ?_) | (refine wpList_newD rfl rfl rfl _ _ rfl q2 (.slice (some ⟨gr, 0, none⟩) q.d.length cr) (fun _ => rfl) (fun _ => rfl) rfl ?_; refine Hid.out ?_))
          refine Lib.hid ?_
          intro g26 w18 hg_g26 hb haw
          clear c3
          replace HA := Lib.hid (HA.out.on haw)
          replace H7 := Lib.hid (H7.out.on haw)
          replace H8 := Lib.hid (H8.out.on haw)
          replace H9 := Lib.hid (H9.out.on haw)
          replace HSD := Lib.hid (HSD.out.on haw)
          clear haw
          have H26 := Lib.hid hb
          have hl_g26 := hb.lt
          clear hb
          have c3 := H9.out.c3
          go_wp2_with (at_builtin; refine Mk.wpList_clone rfl _ _ rfl (.slice (some ⟨gr, 0, none⟩) q.d.length cr) q2.d rfl rfl (by exact HSD.out) ?_; refine Hid.out ?_)
          refine Lib.hid ?_
          intro nv w19 hown hnew haw
          replace HA := Lib.hid (HA.out.on haw)
          replace H7 := Lib.hid (H7.out.on haw)
          replace H8 := Lib.hid (H8.out.on haw)
          replace H9 := Lib.hid (H9.out.on haw)
          replace HSD := Lib.hid (HSD.out.on haw)
          replace H26 := Lib.hid (H26.out.on haw)
          clear haw
          clear c3
          have HNO := Lib.hid hown
          have hnn := hnew
          clear hown hnew
          obtain ⟨na, nc, hne, -, -⟩ := HNO.out.slc
          subst hne
          have c26 := H26.out.c3
          have f26 := H26.out.free 3
          go_upto_region 29 with fail
          have haw := away_put (w := w19) (g := g26) 3 (.slice na q2.d.length nc)
          replace H26 := Lib.hid (H26.out.put 3 (.slice na q2.d.length nc) (g' := q2) (dv' := .slice na q2.d.length nc) rfl)
          replace HA := Lib.hid (HA.out.next haw (fun x hx => .inr (by simp at hx; omega)))
          replace H7 := Lib.hid (H7.out.away haw (by simp; omega))
          replace H8 := Lib.hid (H8.out.away haw (by simp; omega))
          replace H9 := Lib.hid (H9.out.away haw (by simp; omega))
          replace HSD := Lib.hid (HSD.out.away haw (fun hl k hk => by simp [Value.ownBlock] at hk; simp; omega))
          replace HNO := Lib.hid (HNO.out.away haw (fun k hk => by have h1 := hnn k hk; simp; omega))
          clear haw c26 f26
          generalize World.setCell w19 ⟨g26, 3, none⟩ (.slice na q2.d.length nc) = w20 at *
          have HSN : Hid (Sl w20 (.slice na q2.d.length nc) q2.d) := HNO.out.sl HF2.out.d (by have h1 := HL2.out; omega)
          have hz7 := H7.out.lt
          have hz8 := H8.out.lt
          have hzA := HA.out.size
          go_wp2_with (first | (refine wpList_loadX rfl _ rfl g7 rfl s (by exact H7.out) HS.out ?_) | (refine wpList_loadX rfl _ rfl g8 rfl t (by exact H8.out) HT.out ?_) | (refine wpList_loadD rfl _ rfl g9 rfl q2 _ (by exact H9.out) ?_))
          refine (build_c s t q2 _ _ HS.out HT.out ⟨HW2.out, by exact HSD.out⟩).mono ?_
          rw [build_ok HPR.out HF2.out]
          rintro E w21 ⟨b1v, rfl, hown, hnew, haw⟩
          have hs_b1v := haw.size
          replace HA := Lib.hid (HA.out.on haw)
          replace H7 := Lib.hid (H7.out.on haw)
          replace H8 := Lib.hid (H8.out.on haw)
          replace H9 := Lib.hid (H9.out.on haw)
          replace HSD := Lib.hid (HSD.out.on haw)
          replace H26 := Lib.hid (H26.out.on haw)
          replace HSN := Lib.hid (HSN.out.on haw)
          clear haw
          have HB1 := Lib.hid hown
          have hn_b1v := Lib.hid hnew
          clear hown hnew
          obtain ⟨g27, c27, hbe, hbc⟩ := HB1.out.block (fun e => by have e2 := out_len s t q2; simp only at e; rw [e] at e2; simp at e2; omega)
          simp only at hbe hbc HB1
          subst hbe
          have hl27 := HB1.out.lt g27 rfl
          go_wp2_with (first | (refine wpList_loadX rfl _ rfl g7 rfl s (by exact H7.out) HS.out ?_) | (refine wpList_loadX rfl _ rfl g8 rfl t (by exact H8.out) HT.out ?_) | (refine wpList_loadD rfl _ rfl g26 rfl q2 _ (by exact H26.out) ?_))
          refine (build_c s t q2 _ _ HS.out HT.out ⟨HW2.out, by exact HSN.out⟩).mono ?_
          rw [build_ok HPR.out HF2.out]
          rintro E w22 ⟨b2v, rfl, hown, hnew, haw⟩
          have hs_b2v := haw.size
          replace HA := Lib.hid (HA.out.on haw)
          replace H7 := Lib.hid (H7.out.on haw)
          replace H8 := Lib.hid (H8.out.on haw)
          replace H9 := Lib.hid (H9.out.on haw)
          replace HSD := Lib.hid (HSD.out.on haw)
          replace H26 := Lib.hid (H26.out.on haw)
          replace HSN := Lib.hid (HSN.out.on haw)
          replace HB1 := Lib.hid (HB1.out.on haw)
          clear haw
          have HB2 := Lib.hid hown
          have hn_b2v := Lib.hid hnew
          clear hown hnew
          obtain ⟨g29, c29, hbe, hbd⟩ := HB2.out.block (fun e => by have e2 := out_len s t q2; simp only at e; rw [e] at e2; simp at e2; omega)
          simp only at hbe hbd HB2
          subst hbe
          have hg29 := hn_b2v.out g29 rfl
          have hRL : (outP s t q2).length ≤ 65535 := by have h1 := HL2.out; rw [out_len]; omega
          have HRB := Lib.hid (out_bytes HS.out HT.out HF2.out)
          generalize outP s t q2 = r at *
          go_wp2_with fail
          refine (same_yes (some ⟨g27, 0, none⟩) (some ⟨g29, 0, none⟩) r _ _ c27 c29 _ rfl rfl (by exact HB1.out.row' (by omega) HRB.out) (by exact HB2.out.row' (by omega) HRB.out)).mono ?_
          rintro E w23 ⟨rfl, haw⟩
          replace HA := Lib.hid (HA.out.on haw)
          replace H7 := Lib.hid (H7.out.on haw)
          replace H8 := Lib.hid (H8.out.on haw)
          replace H9 := Lib.hid (H9.out.on haw)
          replace HSD := Lib.hid (HSD.out.on haw)
          replace H26 := Lib.hid (H26.out.on haw)
          replace HSN := Lib.hid (HSN.out.on haw)
          replace HB1 := Lib.hid (HB1.out.on haw)
          replace HB2 := Lib.hid (HB2.out.on haw)
          clear haw
          go_wp2_with fail
          have hg27 := hn_b1v.out g27 rfl
          clear H9 H26 HSD HSN HNO hn_b1v hn_b2v HQ2 HF2 HW2 HL2 KS KT KG KE
          go_loopw [31] (fun x wr3 => ∃ (k : Nat) (m3 : List Int), x = .int .i64 (k : Int) ∧ k ≤ r.length ∧ m3.length = r.length ∧ Bytes m3 ∧ Owns wr3 (.slice (some ⟨g27, 0, none⟩) r.length c27) m3 ∧ Away [g27] w23 wr3) (fun x _ => r.length - (intOf x).toNat)
          case atStart => exact ⟨0, r, rfl, by omega, rfl, HRB.out, HB1.out, Away.refl _ _⟩
          case round =>
            obtain ⟨k3, m3, rfl, hk3, hml3, hmb, hmo, haw⟩ := hrel
            clear HB1
            replace HA := Lib.hid (HA.out.next haw (fun x hx => .inr (by simp at hx; omega)))
            replace H7 := Lib.hid (H7.out.away haw (by simp; omega))
            replace H8 := Lib.hid (H8.out.away haw (by simp; omega))
            replace HB2 := Lib.hid (HB2.out.away haw (fun k hk => by simp [Value.ownBlock] at hk; simp; omega))
            have HMO3 := Lib.hid hmo
            have HMB3 := Lib.hid hmb
            have HAG3 := Lib.hid haw
            have HML3 := Lib.hid hml3
            clear hmo hmb haw hml3
            by_cases hlk3 : k3 < r.length
            · have k1 : decide ((k3 : Int) < (r.length : Int)) = true := decide_eq_true (by omega)
              obtain ⟨ck, fk⟩ := HMO3.out.cells k3 (by have h1 := HML3.out; omega)
              obtain ⟨j, hj, hj2⟩ : ∃ j : Nat, (r.length : Int) - 1 - (k3 : Int) = (j : Int) ∧ j < r.length := ⟨r.length - 1 - k3, by omega, by omega⟩
              obtain ⟨cj, -⟩ := HB2.out.cells j hj2
              obtain ⟨rb, hrb⟩ : ∃ x, x = r[j]?.getD 0 := ⟨_, rfl⟩
              rw [← hrb] at cj
              have hob : 0 ≤ rb ∧ rb ≤ 255 := by rw [hrb]; exact HRB.out.getD j
              clear hrb
              have x1 : 0 ≤ (j : Int) := by omega
              have x2 : (j : Int) < (r.length : Int) := by omega
              have x3 : (j : Int).toNat = j := by omega
              have z1 : 0 ≤ (k3 : Int) := by omega
              have z2 : (k3 : Int) < (r.length : Int) := by omega
              have z3 : (k3 : Int).toNat = k3 := by omega
              go_wp2_with fail
              go_roundw
              case rel => exact ⟨k3 + 1, _, by go_num, by omega, by simp [HML3.out], HMB3.out.set k3 hob.1 hob.2, Owns.set HMO3.out HML3.out k3 rb, HAG3.out.trans ((Away.refl [g27] _).setCell (.inl (by simp)) _)⟩
              case measure => simp [intOf]; omega
            · obtain rfl : k3 = r.length := by omega
              have k1 : decide ((r.length : Int) < (r.length : Int)) = false := by simp
              obtain ⟨yp, hyp⟩ : ∃ p, p = parseP s t m3 := ⟨_, rfl⟩
              have HPD := Lib.hid (parse_d (s := s) (t := t) HMB3.out)
              rw [← hyp] at HPD
              have HPE := Lib.hid hyp.symm
              clear hyp
              obtain ⟨y1, f1⟩ := yp
              simp only at HPD
              have KPA : Hid (∀ w, Row w (some ⟨g27, 0, none⟩) m3 → Calls Try.prog 9 #[.agg (csA s.v s.l), .agg (csA t.v t.l), .slice (some ⟨g27, 0, none⟩) r.length c27] w fun E w2 => ParseOut w (y1, f1) E w2) := fun w hr => by
                have h1 := parse_c s t (some ⟨g27, 0, none⟩) m3 c27 w HS.out HT.out hr (by have h1 := HML3.out; omega) (by simp)
                rw [HML3.out, HPE.out] at h1
                exact h1
              have hm3 : m3.length ≤ 65535 := by have h1 := HML3.out; omega
              have HMS := Lib.hid (HMO3.out.sl HMB3.out (by omega))
              clear HB2 HAG3
              go_wp2_with (first | (refine wpList_loadX rfl _ rfl g7 rfl s (by exact H7.out) HS.out ?_) | (refine wpList_loadX rfl _ rfl g8 rfl t (by exact H8.out) HT.out ?_))
              refine (KPA.out _ (by exact HMO3.out.row' (by omega) HMB3.out)).mono ?_
              rintro E w24 ⟨yv, rfl, hown, hnew, haw⟩
              replace HA := Lib.hid (HA.out.on haw)
              replace H7 := Lib.hid (H7.out.on haw)
              replace H8 := Lib.hid (H8.out.on haw)
              replace HMO3 := Lib.hid (HMO3.out.on haw)
              replace HMS := Lib.hid (HMS.out.on haw)
              clear haw
              have HY := Lib.hid hown
              obtain ⟨ya, yc, hye, -, -⟩ := HY.out.slc
              simp only at hye HY
              subst hye
              clear hown hnew
              go_wp2_with (refine wpList_newD rfl rfl rfl _ _ rfl y1 (.slice ya y1.d.length yc) (fun _ => rfl) (fun _ => rfl) rfl ?_; refine Hid.out ?_)
              refine Lib.hid ?_
              intro g32 w25 hg_g32 hb haw
              replace HA := Lib.hid (HA.out.on haw)
              replace H7 := Lib.hid (H7.out.on haw)
              replace H8 := Lib.hid (H8.out.on haw)
              replace HMO3 := Lib.hid (HMO3.out.on haw)
              replace HMS := Lib.hid (HMS.out.on haw)
              replace HY := Lib.hid (HY.out.on haw)
              clear haw
              have H32 := Lib.hid hb
              have hl_g32 := hb.lt
              clear hb
              go_wp2_with fail
              have HYS : Hid (Sl w25 (.slice ya y1.d.length yc) y1.d) := HY.out.sl HPD.out.1 (by have h1 := HPD.out.2; omega)
              have hb7v := H7.out.lt
              have hb8v := H8.out.lt
              have HZA : Hid (Away [] w25 w25) := Away.refl _ _
              have HY9 : Hid (∀ z, (Value.slice ya y1.d.length yc).ownBlock = some z → z < w25.heap.size) := fun z hz => HY.out.lt z hz
              refine wp_region_held_drew (S := (fun w' => BoxX w' g7 s ∧ BoxX w' g8 t)) (by kernel_rfl) ⟨by exact H7.out, by exact H8.out⟩ (fun hHeld => ?_)
              have haw : Away [] w25 w25.drew := (Away.refl [] w25).drew
              replace HA := Lib.hid (HA.out.on haw)
              replace HMS := Lib.hid (HMS.out.on haw)
              replace H32 := Lib.hid (H32.out.on haw)
              replace HYS := Lib.hid (HYS.out.on haw)
              replace HZA := Lib.hid (HZA.out.on haw)
              clear haw H7 H8 HY HMO3
              refine wpAnyH_take (i := 0) (by simp only [List.getElem?_toArray, List.getElem?_cons_zero]; rfl) (by kernel_rfl) (by kernel_rfl) (by kernel_rfl) (by exact fun _ _ _ h => h) (yields_ld (ad := ⟨g7, 0, none⟩) (by rfl) _ rfl rfl (fun w' h => load24_run h.1 HS.out)) (by assumption) ?_
              try simp only [Act.put, List.setIfInBounds_toArray, List.set_cons_zero, List.set_cons_succ]
              refine wpAnyH_take (i := 1) (by simp only [List.getElem?_toArray, List.getElem?_cons_succ, List.getElem?_cons_zero]; rfl) (by kernel_rfl) (by kernel_rfl) (by kernel_rfl) (by exact fun _ _ _ h => h) (yields_ld (ad := ⟨g8, 0, none⟩) (by rfl) _ rfl rfl (fun w' h => load24_run h.2 HT.out)) (by assumption) ?_
              try simp only [Act.put, List.setIfInBounds_toArray, List.set_cons_zero, List.set_cons_succ]
              refine wpAnyH_take (i := 2) (v := ?_) (by simp only [List.getElem?_toArray, List.getElem?_cons_succ, List.getElem?_cons_zero]; rfl) (by kernel_rfl) (by kernel_rfl) (by kernel_rfl) (by exact fun _ _ _ h => h) (Or.inl ⟨by rfl, ?_⟩) (by assumption) ?_
              rotate_left
              · intro wq hSw
                (try dsimp only at hSw)
                go_simp
                all_goals (with_reducible rfl)
              try simp only [Act.put, List.setIfInBounds_toArray, List.set_cons_zero, List.set_cons_succ]
              refine wpAnyH_ready (rs := [3, 8]) (by kernel_rfl) (by simp) ?_
              refine AllReadyH.cons (by simp only [List.getElem?_toArray, List.getElem?_cons_succ, List.getElem?_cons_zero]; rfl) (fun K hK => ?_) (AllReadyH.cons (by simp only [List.getElem?_toArray, List.getElem?_cons_succ, List.getElem?_cons_zero]; rfl) (fun K hK => ?_) AllReadyH.nil)
              · refine Mk.step_clone rfl _ _ rfl (.slice (some ⟨g27, 0, none⟩) r.length c27) m3 rfl rfl (by exact HMS.out) (fun uv o1 ho hn haw => ?_)
                obtain ⟨ua, uc, hue, hun, huc⟩ := ho.slc
                subst hue
                have HU := Lib.hid ho
                have hS : BoxX o1 g7 s ∧ BoxX o1 g8 t := ⟨hHeld.1.on haw, hHeld.2.on haw⟩
                replace HA := Lib.hid (HA.out.on haw)
                replace HMS := Lib.hid (HMS.out.on haw)
                replace H32 := Lib.hid (H32.out.on haw)
                replace HYS := Lib.hid (HYS.out.on haw)
                replace HZA := Lib.hid (HZA.out.on haw)
                clear haw ho hn hHeld
                refine hK.out _ _ hS (fun hHeld => ?_)
                clear hK K
                try simp only [Act.put, List.setIfInBounds_toArray, List.set_cons_zero, List.set_cons_succ]
                clear hS
                refine wpAnyH_ready (rs := [4, 8]) (by kernel_rfl) (by simp) ?_
                refine AllReadyH.cons (by simp only [List.getElem?_toArray, List.getElem?_cons_succ, List.getElem?_cons_zero]; rfl) (fun K hK => ?_) (AllReadyH.cons (by simp only [List.getElem?_toArray, List.getElem?_cons_succ, List.getElem?_cons_zero]; rfl) (fun K hK => ?_) AllReadyH.nil)
                · go_simp
                  refine (parse_c s t ua m3 uc _ HS.out HT.out (by exact HU.out.row' (by omega) HMB3.out) huc hun).mono ?_
                  rw [HPE.out]
                  rintro E o2 ⟨xv, rfl, hown, hnew, haw⟩
                  have HXO := Lib.hid hown
                  obtain ⟨xa, xc, hxe, -, -⟩ := HXO.out.slc
                  simp only at hxe HXO
                  subst hxe
                  have hS : BoxX o2 g7 s ∧ BoxX o2 g8 t := ⟨hHeld.1.on haw, hHeld.2.on haw⟩
                  replace HA := Lib.hid (HA.out.on haw)
                  replace HMS := Lib.hid (HMS.out.on haw)
                  replace H32 := Lib.hid (H32.out.on haw)
                  replace HYS := Lib.hid (HYS.out.on haw)
                  replace HZA := Lib.hid (HZA.out.on haw)
                  replace HU := Lib.hid (HU.out.on haw)
                  clear haw hown hnew hHeld
                  go_wp2_with fail
                  refine hK.out _ _ hS (fun hHeld => ?_)
                  clear hK K
                  try simp only [Act.put, List.setIfInBounds_toArray, List.set_cons_zero, List.set_cons_succ]
                  clear hS
                  refine wpAnyH_take (i := 5) (v := ?_) (by simp only [List.getElem?_toArray, List.getElem?_cons_succ, List.getElem?_cons_zero]; rfl) (by kernel_rfl) (by kernel_rfl) (by kernel_rfl) (by exact fun _ _ _ h => h) (Or.inl ⟨by rfl, ?_⟩) (by assumption) ?_
                  rotate_left
                  · intro wq hSw
                    (try dsimp only at hSw)
                    go_simp
                    all_goals (with_reducible rfl)
                  try simp only [Act.put, List.setIfInBounds_toArray, List.set_cons_zero, List.set_cons_succ]
                  refine wpAnyH_take (i := 6) (v := ?_) (by simp only [List.getElem?_toArray, List.getElem?_cons_succ, List.getElem?_cons_zero]; rfl) (by kernel_rfl) (by kernel_rfl) (by kernel_rfl) (by exact fun _ _ _ h => h) (Or.inl ⟨by rfl, ?_⟩) (by assumption) ?_
                  rotate_left
                  · intro wq hSw
                    (try dsimp only at hSw)
                    go_simp
                    all_goals (with_reducible rfl)
                  try simp only [Act.put, List.setIfInBounds_toArray, List.set_cons_zero, List.set_cons_succ]
                  refine wpAnyH_take (i := 7) (v := ?_) (by simp only [List.getElem?_toArray, List.getElem?_cons_succ, List.getElem?_cons_zero]; rfl) (by kernel_rfl) (by kernel_rfl) (by kernel_rfl) (by exact fun _ _ _ h => h) (Or.inl ⟨by rfl, ?_⟩) (by assumption) ?_
                  rotate_left
                  · intro wq hSw
                    (try dsimp only at hSw)
                    go_simp
                    all_goals (with_reducible rfl)
                  try simp only [Act.put, List.setIfInBounds_toArray, List.set_cons_zero, List.set_cons_succ]
                  refine wpAnyH_ready (rs := [8]) (by kernel_rfl) (by simp) ?_
                  refine AllReadyH.cons (by simp only [List.getElem?_toArray, List.getElem?_cons_succ, List.getElem?_cons_zero]; rfl) (fun K hK => ?_) AllReadyH.nil
                  refine Mk.step_allocD rfl rfl (fun k33 o3 hk hb haw => ?_)
                  have HXB := Lib.hid hb
                  have HXS := Lib.hid (show ∀ z, (Value.slice xa y1.d.length xc).ownBlock = some z → z ≠ k33 from fun z hz e => by have h1 := HXO.out.lt z hz; omega)
                  have hA0 := HA.out.size
                  have hk33 : W.heap.size ≤ k33 := by omega
                  have hq7 : g7 < k33 := by have h1 := hHeld.1.lt; omega
                  have hq8 : g8 < k33 := by have h1 := hHeld.2.lt; omega
                  have hq32 : g32 < k33 := by have h1 := H32.out.lt; omega
                  have hqy : ∀ z, (Value.slice ya y1.d.length yc).ownBlock = some z → z < k33 := fun z hz => by have h1 := HY9.out z hz; have h2 := HZA.out.size; omega
                  clear hA0
                  have hS : BoxX o3 g7 s ∧ BoxX o3 g8 t := ⟨hHeld.1.on haw, hHeld.2.on haw⟩
                  replace HA := Lib.hid (HA.out.on haw)
                  replace HMS := Lib.hid (HMS.out.on haw)
                  replace H32 := Lib.hid (H32.out.on haw)
                  replace HYS := Lib.hid (HYS.out.on haw)
                  replace HZA := Lib.hid (HZA.out.on haw)
                  replace HU := Lib.hid (HU.out.on haw)
                  replace HXO := Lib.hid (HXO.out.on haw)
                  clear haw hb hk hHeld
                  refine hK.out _ _ hS (fun hHeld => ?_)
                  clear hK K
                  try simp only [Act.put, List.setIfInBounds_toArray, List.set_cons_zero, List.set_cons_succ]
                  clear hS
                  refine wpAnyH_ready (rs := [9]) (by kernel_rfl) (by simp) ?_
                  refine AllReadyH.cons (by simp only [List.getElem?_toArray, List.getElem?_cons_succ, List.getElem?_cons_zero]; rfl) (fun K hK => ?_) AllReadyH.nil
                  have hol : ∀ z, (Value.slice xa y1.d.length xc).ownBlock = some z → z ≠ k33 := HXS.out
                  refine Mk.step_storeD rfl _ _ rfl k33 rfl y1 (.slice xa y1.d.length xc) rfl zeroDg _ (by exact HXB.out) rfl (fun o4 hb haw => ?_)
                  have hS : BoxX o4 g7 s ∧ BoxX o4 g8 t := ⟨hHeld.1.away haw (by simp; omega), hHeld.2.away haw (by simp; omega)⟩
                  replace HXO := Lib.hid (HXO.out.away haw (fun z hz hc => hol z hz (by simpa using hc)))
                  replace HA := Lib.hid (HA.out.next haw (fun x hx => .inr (by simp at hx; omega)))
                  replace H32 := Lib.hid (H32.out.away haw (by simp; omega))
                  replace HYS := Lib.hid (HYS.out.away haw (fun hl z hz => by have h1 := hqy z hz; simp; omega))
                  replace HXB := Lib.hid hb
                  clear haw hb hHeld hol HMS HU HZA
                  have HXS2 := Lib.hid (HXO.out.sl HPD.out.1 (by have h1 := HPD.out.2; omega))
                  refine hK.out _ _ hS (fun hHeld => ?_)
                  clear hK K
                  try simp only [Act.put, List.setIfInBounds_toArray, List.set_cons_zero, List.set_cons_succ]
                  clear hS
                  refine wpAnyH_take (i := 10) (v := ?_) (by simp only [List.getElem?_toArray, List.getElem?_cons_succ, List.getElem?_cons_zero]; rfl) (by kernel_rfl) (by kernel_rfl) (by kernel_rfl) (by exact fun _ _ _ h => h) (Or.inl ⟨by rfl, ?_⟩) (by assumption) ?_
                  rotate_left
                  · intro wq hSw
                    (try dsimp only at hSw)
                    go_simp
                    all_goals (with_reducible rfl)
                  try simp only [Act.put, List.setIfInBounds_toArray, List.set_cons_zero, List.set_cons_succ]
                  refine wpAnyH_done (by kernel_rfl) ?_ _
                  go_wp2_with (first | (refine wpList_loadD rfl _ rfl g32 rfl y1 _ (by exact H32.out) ?_) | (refine wpList_loadD rfl _ rfl k33 rfl y1 _ (by exact HXB.out) ?_))
                  refine (sameD_yes y1 _ _ _ (by exact HYS.out) (by exact HXS2.out)).mono ?_
                  rintro E w9 ⟨rfl, haw⟩
                  replace HA := Lib.hid (HA.out.on haw)
                  go_wp2_with fail
                  go_ret
                  exact ⟨rfl, HA.out.to_below⟩
                · refine Mk.step_allocD rfl rfl (fun k33 o2 hk hb haw => ?_)
                  have HXB := Lib.hid hb
                  have hA0 := HA.out.size
                  have hk33 : W.heap.size ≤ k33 := by omega
                  have hq7 : g7 < k33 := by have h1 := hHeld.1.lt; omega
                  have hq8 : g8 < k33 := by have h1 := hHeld.2.lt; omega
                  have hq32 : g32 < k33 := by have h1 := H32.out.lt; omega
                  have hqy : ∀ z, (Value.slice ya y1.d.length yc).ownBlock = some z → z < k33 := fun z hz => by have h1 := HY9.out z hz; have h2 := HZA.out.size; omega
                  clear hA0
                  have hS : BoxX o2 g7 s ∧ BoxX o2 g8 t := ⟨hHeld.1.on haw, hHeld.2.on haw⟩
                  replace HA := Lib.hid (HA.out.on haw)
                  replace HMS := Lib.hid (HMS.out.on haw)
                  replace H32 := Lib.hid (H32.out.on haw)
                  replace HYS := Lib.hid (HYS.out.on haw)
                  replace HZA := Lib.hid (HZA.out.on haw)
                  replace HU := Lib.hid (HU.out.on haw)
                  clear haw hb hk hHeld
                  refine hK.out _ _ hS (fun hHeld => ?_)
                  clear hK K
                  try simp only [Act.put, List.setIfInBounds_toArray, List.set_cons_zero, List.set_cons_succ]
                  clear hS
                  refine wpAnyH_ready (rs := [4]) (by kernel_rfl) (by simp) ?_
                  refine AllReadyH.cons (by simp only [List.getElem?_toArray, List.getElem?_cons_succ, List.getElem?_cons_zero]; rfl) (fun K hK => ?_) AllReadyH.nil
                  go_simp
                  refine (parse_c s t ua m3 uc _ HS.out HT.out (by exact HU.out.row' (by omega) HMB3.out) huc hun).mono ?_
                  rw [HPE.out]
                  rintro E o3 ⟨xv, rfl, hown, hnew, haw⟩
                  have HXO := Lib.hid hown
                  obtain ⟨xa, xc, hxe, -, -⟩ := HXO.out.slc
                  simp only at hxe HXO
                  subst hxe
                  have hS : BoxX o3 g7 s ∧ BoxX o3 g8 t := ⟨hHeld.1.on haw, hHeld.2.on haw⟩
                  have hxb0 := HXB.out.lt
                  have HXS := Lib.hid (show ∀ z, (Value.slice xa y1.d.length xc).ownBlock = some z → z ≠ k33 from fun z hz e => by have h1 := hnew z hz; omega)
                  clear hxb0
                  replace HA := Lib.hid (HA.out.on haw)
                  replace HMS := Lib.hid (HMS.out.on haw)
                  replace H32 := Lib.hid (H32.out.on haw)
                  replace HYS := Lib.hid (HYS.out.on haw)
                  replace HZA := Lib.hid (HZA.out.on haw)
                  replace HU := Lib.hid (HU.out.on haw)
                  replace HXB := Lib.hid (HXB.out.on haw)
                  clear haw hown hnew hHeld
                  go_wp2_with fail
                  refine hK.out _ _ hS (fun hHeld => ?_)
                  clear hK K
                  try simp only [Act.put, List.setIfInBounds_toArray, List.set_cons_zero, List.set_cons_succ]
                  clear hS
                  refine wpAnyH_take (i := 5) (v := ?_) (by simp only [List.getElem?_toArray, List.getElem?_cons_succ, List.getElem?_cons_zero]; rfl) (by kernel_rfl) (by kernel_rfl) (by kernel_rfl) (by exact fun _ _ _ h => h) (Or.inl ⟨by rfl, ?_⟩) (by assumption) ?_
                  rotate_left
                  · intro wq hSw
                    (try dsimp only at hSw)
                    go_simp
                    all_goals (with_reducible rfl)
                  try simp only [Act.put, List.setIfInBounds_toArray, List.set_cons_zero, List.set_cons_succ]
                  refine wpAnyH_take (i := 6) (v := ?_) (by simp only [List.getElem?_toArray, List.getElem?_cons_succ, List.getElem?_cons_zero]; rfl) (by kernel_rfl) (by kernel_rfl) (by kernel_rfl) (by exact fun _ _ _ h => h) (Or.inl ⟨by rfl, ?_⟩) (by assumption) ?_
                  rotate_left
                  · intro wq hSw
                    (try dsimp only at hSw)
                    go_simp
                    all_goals (with_reducible rfl)
                  try simp only [Act.put, List.setIfInBounds_toArray, List.set_cons_zero, List.set_cons_succ]
                  refine wpAnyH_take (i := 7) (v := ?_) (by simp only [List.getElem?_toArray, List.getElem?_cons_succ, List.getElem?_cons_zero]; rfl) (by kernel_rfl) (by kernel_rfl) (by kernel_rfl) (by exact fun _ _ _ h => h) (Or.inl ⟨by rfl, ?_⟩) (by assumption) ?_
                  rotate_left
                  · intro wq hSw
                    (try dsimp only at hSw)
                    go_simp
                    all_goals (with_reducible rfl)
                  try simp only [Act.put, List.setIfInBounds_toArray, List.set_cons_zero, List.set_cons_succ]
                  refine wpAnyH_ready (rs := [9]) (by kernel_rfl) (by simp) ?_
                  refine AllReadyH.cons (by simp only [List.getElem?_toArray, List.getElem?_cons_succ, List.getElem?_cons_zero]; rfl) (fun K hK => ?_) AllReadyH.nil
                  have hol : ∀ z, (Value.slice xa y1.d.length xc).ownBlock = some z → z ≠ k33 := HXS.out
                  refine Mk.step_storeD rfl _ _ rfl k33 rfl y1 (.slice xa y1.d.length xc) rfl zeroDg _ (by exact HXB.out) rfl (fun o4 hb haw => ?_)
                  have hS : BoxX o4 g7 s ∧ BoxX o4 g8 t := ⟨hHeld.1.away haw (by simp; omega), hHeld.2.away haw (by simp; omega)⟩
                  replace HXO := Lib.hid (HXO.out.away haw (fun z hz hc => hol z hz (by simpa using hc)))
                  replace HA := Lib.hid (HA.out.next haw (fun x hx => .inr (by simp at hx; omega)))
                  replace H32 := Lib.hid (H32.out.away haw (by simp; omega))
                  replace HYS := Lib.hid (HYS.out.away haw (fun hl z hz => by have h1 := hqy z hz; simp; omega))
                  replace HXB := Lib.hid hb
                  clear haw hb hHeld hol HMS HU HZA
                  have HXS2 := Lib.hid (HXO.out.sl HPD.out.1 (by have h1 := HPD.out.2; omega))
                  refine hK.out _ _ hS (fun hHeld => ?_)
                  clear hK K
                  try simp only [Act.put, List.setIfInBounds_toArray, List.set_cons_zero, List.set_cons_succ]
                  clear hS
                  refine wpAnyH_take (i := 10) (v := ?_) (by simp only [List.getElem?_toArray, List.getElem?_cons_succ, List.getElem?_cons_zero]; rfl) (by kernel_rfl) (by kernel_rfl) (by kernel_rfl) (by exact fun _ _ _ h => h) (Or.inl ⟨by rfl, ?_⟩) (by assumption) ?_
                  rotate_left
                  · intro wq hSw
                    (try dsimp only at hSw)
                    go_simp
                    all_goals (with_reducible rfl)
                  try simp only [Act.put, List.setIfInBounds_toArray, List.set_cons_zero, List.set_cons_succ]
                  refine wpAnyH_done (by kernel_rfl) ?_ _
                  go_wp2_with (first | (refine wpList_loadD rfl _ rfl g32 rfl y1 _ (by exact H32.out) ?_) | (refine wpList_loadD rfl _ rfl k33 rfl y1 _ (by exact HXB.out) ?_))
                  refine (sameD_yes y1 _ _ _ (by exact HYS.out) (by exact HXS2.out)).mono ?_
                  rintro E w9 ⟨rfl, haw⟩
                  replace HA := Lib.hid (HA.out.on haw)
                  go_wp2_with fail
                  go_ret
                  exact ⟨rfl, HA.out.to_below⟩
              · refine Mk.step_allocD rfl rfl (fun k33 o1 hk hb haw => ?_)
                have HXB := Lib.hid hb
                have hA0 := HA.out.size
                have hk33 : W.heap.size ≤ k33 := by omega
                have hq7 : g7 < k33 := by have h1 := hHeld.1.lt; omega
                have hq8 : g8 < k33 := by have h1 := hHeld.2.lt; omega
                have hq32 : g32 < k33 := by have h1 := H32.out.lt; omega
                have hqy : ∀ z, (Value.slice ya y1.d.length yc).ownBlock = some z → z < k33 := fun z hz => by have h1 := HY9.out z hz; have h2 := HZA.out.size; omega
                clear hA0
                have hS : BoxX o1 g7 s ∧ BoxX o1 g8 t := ⟨hHeld.1.on haw, hHeld.2.on haw⟩
                replace HA := Lib.hid (HA.out.on haw)
                replace HMS := Lib.hid (HMS.out.on haw)
                replace H32 := Lib.hid (H32.out.on haw)
                replace HYS := Lib.hid (HYS.out.on haw)
                replace HZA := Lib.hid (HZA.out.on haw)
                clear haw hb hk hHeld
                refine hK.out _ _ hS (fun hHeld => ?_)
                clear hK K
                try simp only [Act.put, List.setIfInBounds_toArray, List.set_cons_zero, List.set_cons_succ]
                clear hS
                refine wpAnyH_ready (rs := [3]) (by kernel_rfl) (by simp) ?_
                refine AllReadyH.cons (by simp only [List.getElem?_toArray, List.getElem?_cons_succ, List.getElem?_cons_zero]; rfl) (fun K hK => ?_) AllReadyH.nil
                refine Mk.step_clone rfl _ _ rfl (.slice (some ⟨g27, 0, none⟩) r.length c27) m3 rfl rfl (by exact HMS.out) (fun uv o2 ho hn haw => ?_)
                obtain ⟨ua, uc, hue, hun, huc⟩ := ho.slc
                subst hue
                have HU := Lib.hid ho
                have hS : BoxX o2 g7 s ∧ BoxX o2 g8 t := ⟨hHeld.1.on haw, hHeld.2.on haw⟩
                replace HA := Lib.hid (HA.out.on haw)
                replace HMS := Lib.hid (HMS.out.on haw)
                replace H32 := Lib.hid (H32.out.on haw)
                replace HYS := Lib.hid (HYS.out.on haw)
                replace HZA := Lib.hid (HZA.out.on haw)
                replace HXB := Lib.hid (HXB.out.on haw)
                clear haw ho hn hHeld
                refine hK.out _ _ hS (fun hHeld => ?_)
                clear hK K
                try simp only [Act.put, List.setIfInBounds_toArray, List.set_cons_zero, List.set_cons_succ]
                clear hS
                refine wpAnyH_ready (rs := [4]) (by kernel_rfl) (by simp) ?_
                refine AllReadyH.cons (by simp only [List.getElem?_toArray, List.getElem?_cons_succ, List.getElem?_cons_zero]; rfl) (fun K hK => ?_) AllReadyH.nil
                go_simp
                refine (parse_c s t ua m3 uc _ HS.out HT.out (by exact HU.out.row' (by omega) HMB3.out) huc hun).mono ?_
                rw [HPE.out]
                rintro E o3 ⟨xv, rfl, hown, hnew, haw⟩
                have HXO := Lib.hid hown
                obtain ⟨xa, xc, hxe, -, -⟩ := HXO.out.slc
                simp only at hxe HXO
                subst hxe
                have hS : BoxX o3 g7 s ∧ BoxX o3 g8 t := ⟨hHeld.1.on haw, hHeld.2.on haw⟩
                have hxb0 := HXB.out.lt
                have HXS := Lib.hid (show ∀ z, (Value.slice xa y1.d.length xc).ownBlock = some z → z ≠ k33 from fun z hz e => by have h1 := hnew z hz; omega)
                clear hxb0
                replace HA := Lib.hid (HA.out.on haw)
                replace HMS := Lib.hid (HMS.out.on haw)
                replace H32 := Lib.hid (H32.out.on haw)
                replace HYS := Lib.hid (HYS.out.on haw)
                replace HZA := Lib.hid (HZA.out.on haw)
                replace HXB := Lib.hid (HXB.out.on haw)
                replace HU := Lib.hid (HU.out.on haw)
                clear haw hown hnew hHeld
                go_wp2_with fail
                refine hK.out _ _ hS (fun hHeld => ?_)
                clear hK K
                try simp only [Act.put, List.setIfInBounds_toArray, List.set_cons_zero, List.set_cons_succ]
                clear hS
                refine wpAnyH_take (i := 5) (v := ?_) (by simp only [List.getElem?_toArray, List.getElem?_cons_succ, List.getElem?_cons_zero]; rfl) (by kernel_rfl) (by kernel_rfl) (by kernel_rfl) (by exact fun _ _ _ h => h) (Or.inl ⟨by rfl, ?_⟩) (by assumption) ?_
                rotate_left
                · intro wq hSw
                  (try dsimp only at hSw)
                  go_simp
                  all_goals (with_reducible rfl)
                try simp only [Act.put, List.setIfInBounds_toArray, List.set_cons_zero, List.set_cons_succ]
                refine wpAnyH_take (i := 6) (v := ?_) (by simp only [List.getElem?_toArray, List.getElem?_cons_succ, List.getElem?_cons_zero]; rfl) (by kernel_rfl) (by kernel_rfl) (by kernel_rfl) (by exact fun _ _ _ h => h) (Or.inl ⟨by rfl, ?_⟩) (by assumption) ?_
                rotate_left
                · intro wq hSw
                  (try dsimp only at hSw)
                  go_simp
                  all_goals (with_reducible rfl)
                try simp only [Act.put, List.setIfInBounds_toArray, List.set_cons_zero, List.set_cons_succ]
                refine wpAnyH_take (i := 7) (v := ?_) (by simp only [List.getElem?_toArray, List.getElem?_cons_succ, List.getElem?_cons_zero]; rfl) (by kernel_rfl) (by kernel_rfl) (by kernel_rfl) (by exact fun _ _ _ h => h) (Or.inl ⟨by rfl, ?_⟩) (by assumption) ?_
                rotate_left
                · intro wq hSw
                  (try dsimp only at hSw)
                  go_simp
                  all_goals (with_reducible rfl)
                try simp only [Act.put, List.setIfInBounds_toArray, List.set_cons_zero, List.set_cons_succ]
                refine wpAnyH_ready (rs := [9]) (by kernel_rfl) (by simp) ?_
                refine AllReadyH.cons (by simp only [List.getElem?_toArray, List.getElem?_cons_succ, List.getElem?_cons_zero]; rfl) (fun K hK => ?_) AllReadyH.nil
                have hol : ∀ z, (Value.slice xa y1.d.length xc).ownBlock = some z → z ≠ k33 := HXS.out
                refine Mk.step_storeD rfl _ _ rfl k33 rfl y1 (.slice xa y1.d.length xc) rfl zeroDg _ (by exact HXB.out) rfl (fun o4 hb haw => ?_)
                have hS : BoxX o4 g7 s ∧ BoxX o4 g8 t := ⟨hHeld.1.away haw (by simp; omega), hHeld.2.away haw (by simp; omega)⟩
                replace HXO := Lib.hid (HXO.out.away haw (fun z hz hc => hol z hz (by simpa using hc)))
                replace HA := Lib.hid (HA.out.next haw (fun x hx => .inr (by simp at hx; omega)))
                replace H32 := Lib.hid (H32.out.away haw (by simp; omega))
                replace HYS := Lib.hid (HYS.out.away haw (fun hl z hz => by have h1 := hqy z hz; simp; omega))
                replace HXB := Lib.hid hb
                clear haw hb hHeld hol HMS HU HZA
                have HXS2 := Lib.hid (HXO.out.sl HPD.out.1 (by have h1 := HPD.out.2; omega))
                refine hK.out _ _ hS (fun hHeld => ?_)
                clear hK K
                try simp only [Act.put, List.setIfInBounds_toArray, List.set_cons_zero, List.set_cons_succ]
                clear hS
                refine wpAnyH_take (i := 10) (v := ?_) (by simp only [List.getElem?_toArray, List.getElem?_cons_succ, List.getElem?_cons_zero]; rfl) (by kernel_rfl) (by kernel_rfl) (by kernel_rfl) (by exact fun _ _ _ h => h) (Or.inl ⟨by rfl, ?_⟩) (by assumption) ?_
                rotate_left
                · intro wq hSw
                  (try dsimp only at hSw)
                  go_simp
                  all_goals (with_reducible rfl)
                try simp only [Act.put, List.setIfInBounds_toArray, List.set_cons_zero, List.set_cons_succ]
                refine wpAnyH_done (by kernel_rfl) ?_ _
                go_wp2_with (first | (refine wpList_loadD rfl _ rfl g32 rfl y1 _ (by exact H32.out) ?_) | (refine wpList_loadD rfl _ rfl k33 rfl y1 _ (by exact HXB.out) ?_))
                refine (sameD_yes y1 _ _ _ (by exact HYS.out) (by exact HXS2.out)).mono ?_
                rintro E w9 ⟨rfl, haw⟩
                replace HA := Lib.hid (HA.out.on haw)
                go_wp2_with fail
                go_ret
                exact ⟨rfl, HA.out.to_below⟩
end udpKeeps
namespace udpKeeps
theorem lifted (os : Os) (started : os.Started) (H : Type) (enc : TypeId × Value → H) :
    ReturnsInHanded {} Try.checked os 6 .any (Rows.udpKeepsSpec.pre6 enc Try.prog Try.f6 Rows.udpKeepsRow.domain false) (Rows.udpKeepsSpec.post enc Try.prog Try.f6 false true false false) := by
  refine returnsInHanded_of_change_sized (C := Try.checked) ownKn started (by kernel_rfl) Try.func6
    (ChangeSpec.witness6 (enc := enc) (C := Try.checked) false ⟨#[], #[.agg (csD zeroDg (.slice none 0 0)), .agg (csD zeroDg (.slice none 0 0)), .bool false], []⟩ 8 (by kernel_rfl) (by kernel_rfl) (by kernel_rfl) (by kernel_rfl)) ?_
  intro W base args ds gs before hval0 hW _ hsz0 _
  have hsz : (DataW.weightsEach Try.prog (Try.f6.params.toList ++ Rows.udpKeepsSpec.plain.varTypes Try.prog) (ds ++ gs)).all (· ≤ reachBytes) = true := hsz0
  clear hsz0
  have hval : ∀ (j : Nat) t v, Try.f6.params[j]? = some t → args[j]? = some v → Value.okWide Try.prog W .any base t v := hval0
  have hW' := hW
  obtain ⟨p, q, hA0, hV, rfl, hfz, hnd⟩ := hW
  have hA : DataW.TrodAll enc Try.prog W 0 (fun _ => true) true Try.f6.params.toList args.toList ds p := hA0
  rw [Try.params6] at hA hval hsz
  obtain ⟨v0, vs0, d0, ds0, p0, q0, hargs, rfl, rfl, h0, r0⟩ := trodAll_cons hA
  obtain ⟨v1, vs1, d1, ds1, p1, q1, rfl, rfl, rfl, h1, r1⟩ := trodAll_cons r0
  obtain ⟨v2, vs2, d2, ds2, p2, q2, rfl, rfl, rfl, h2, r2⟩ := trodAll_cons r1
  obtain ⟨rfl, rfl, rfl⟩ := trodAll_nil r2
  obtain rfl : args = #[v0, v1, v2] := by cases args; simp_all
  have hV2 : DataW.TrodVars enc Try.prog W (fun _ => true) Rows.udpKeepsSpec.vars gs q := hV
  obtain ⟨rfl, rfl⟩ := trodVars_none hV2
  have k0 := h0
  have lt0 : ∀ x ∈ p0, x.block < W.heap.size := by obtain ⟨m, hm⟩ := k0; exact DataW.trod_lt m _ _ _ hm
  have z0 : ∀ m ∈ d0.weights Try.prog 27, m ≤ reachBytes := fun m hm => by
    have := List.all_eq_true.1 hsz m (DataW.weights_mem_each (j := 0) (t := 27) rfl rfl m hm)
    simpa using this
  obtain ⟨x0, dv0, rfl, w0, dl0⟩ := open_dg (hval 0 27 v0 rfl rfl) h0 z0
  have k1 := h1
  have lt1 : ∀ x ∈ p1, x.block < W.heap.size := by obtain ⟨m, hm⟩ := k1; exact DataW.trod_lt m _ _ _ hm
  have z1 : ∀ m ∈ d1.weights Try.prog 27, m ≤ reachBytes := fun m hm => by
    have := List.all_eq_true.1 hsz m (DataW.weights_mem_each (j := 1) (t := 27) rfl rfl m hm)
    simpa using this
  obtain ⟨x1, dv1, rfl, w1, dl1⟩ := open_dg (hval 1 27 v1 rfl rfl) h1 z1
  obtain ⟨a2, rfl, rfl, rfl⟩ := open_bool Try.underlying4 (hval 2 4 v2 rfl rfl) h2
  clear hA0 hval0
  refine (walk x0 dv0 x1 dv1 a2 W w0 dl0 w1 dl1).mono fun e W' ⟨he, bel⟩ => ?_
  subst he
  exact ⟨_, rfl, _, _, _, [], _, [], hW', trodAll_mk1 (shut_bool Try.underlying4 _), (trodAll_cons_mk (Below.trod laidOut (by kernel_rfl) (of_decide_eq_true (by kernel_rfl)) k0 bel lt0) (trodAll_cons_mk (Below.trod laidOut (by kernel_rfl) (of_decide_eq_true (by kernel_rfl)) k1 bel lt1) (trodAll_cons_mk (shut_bool Try.underlying4 _) trodAll_mk0))), rfl, bel.frame _, fun h => by cases h⟩
theorem over : Rows.udpKeepsRow.holds Try.pinned (OpenSpec.ofChange Rows.udpKeepsSpec) :=
  OpenClaim.holds_of_wide 6 Try.f6 rfl rfl rfl rfl rfl rfl rfl ⟨rfl, rfl, rfl, rfl, rfl⟩ rfl rfl rfl rfl rfl (by kernel_rfl) Try.func6 (by kernel_rfl)
    (of_decide_eq_true (by kernel_rfl)) (by unfold Func.isWrapper; first | (rw [if_pos (by decide +kernel)]; kernel_rfl) | (rw [if_neg (by decide +kernel)]; exact ⟨rfl, rfl⟩))
    (fun os started H enc _ => lifted os started H enc)
end udpKeeps
theorem udpKeeps_holds : Rows.UdpKeepsSaid := udpKeeps.over
#print axioms udpKeeps_holds
end Go.Proofs.Ytbfpphoiapggnaa
