/-
  CutFits.
-/
import Derived.Test.YtbnnfbfmomafnaaDoorKit
import Derived.Test.YtbnnfbfmomafnaaDoorLg
import Derived.Test.YtbnnfbfmomafnaaDoorCt3
namespace Go.Proofs.YtbnnfbfmomafnaaDoor
open Go.ChangeShapes Go.WideShapes Go.ChangeAt Go.RowKit Go.Deep Num S6
set_option linter.unusedVariables false
set_option maxHeartbeats 40000000
set_option maxRecDepth 100000

namespace cutFits
theorem wpList_ne24 {ops : Array Oper} {rest : List Oper} {o : Oper} {a : Act} {w : World} {Q : Exit → Act → World → Prop} (x y : Operand) (ho : o.op = .binOp .neq 24 x y 24)
    (c1 c2 : Array Value) (hx : a.eval x = .agg c1) (hy : a.eval y = .agg c2) (b : Bool) (hq : ∀ w, (Op.equalIn 10000 24 (.agg c1) (.agg c2)).run Tryd.prog w = .ok b w) (hw : Region.wanted o (yielded ops a.tmps) = true)
    (h : wpList Tryd.prog ops Q rest (a.put o.dst (.bool (!b))) w) : wpList Tryd.prog ops Q (o :: rest) a w :=
  BigFrame.wpList_want hw fun K hK => by
    have hg := guard24
    have e : (execOp a.eval o).run Tryd.prog w = .ok (.value (.bool (!b))) w := by
      unfold execOp
      simp only [ho, hx, hy]
      simp [go_sem, hq, hg]
    unfold Oper.wp
    rw [e, Oper.upon_value]
    exact hK _ _ h
theorem quiet_ne24 {o : Oper} {a : Act} {C : World → Prop} {K : Act → Prop} (x y : Operand) (ho : o.op = .binOp .neq 24 x y 24) (c1 c2 : Array Value) (hx : a.eval x = .agg c1) (hy : a.eval y = .agg c2) (b : Bool) (hq : ∀ w, (Op.equalIn 10000 24 (.agg c1) (.agg c2)).run Tryd.prog w = .ok b w) (hk : K (a.put o.dst (.bool (!b)))) : o.quiet Tryd.prog a C K :=
  quiet_val _ (fun w => by
    have hg := guard24
    unfold execOp
    simp only [ho, hx, hy]
    simp [go_sem, hq, hg]) hk
theorem pcs_len (p : Pk) (m : Int) (lat : Pk) : ∀ (k : Nat) (f : Pk) (n : Nat), (pcsP p m lat k f n).length ≤ k
  | 0, f, n => by simp [pcsP]
  | k + 1, f, n => by
    rw [pcsP]; split
    · have := pcs_len p m lat k lat (n + shareP (p.d.length - n) (roomP f m) p.v)
      simp only [List.length_cons]; omega
    · simp
theorem one_of {xs : List X} {a : Pk} (h : xs.map X.p = [a]) : ∃ oa da, xs = [⟨a, oa, da⟩] := by
  have hl : xs.length = 1 := by rw [← List.length_map (f := X.p), h]; rfl
  cases xs with
  | nil => exact absurd hl (by decide)
  | cons x r => cases r with
    | nil => have h1 := (List.cons.inj h).1; exact ⟨x.o, x.d, by rw [← h1]⟩
    | cons y r => simp only [List.length_cons] at hl; omega
theorem walk (p : Pk) (ov dv : Value) (number id : Int) (w : World) (hg : Glob w) (hp : Pkt w p ov dv) (hol : p.o.length ≤ 140737488351232) (hdl : p.d.length ≤ 140737488351232) (hwn : (Lit.int .i64 number).wf = true) (h0 : 0 ≤ id) (h1 : id ≤ 4294967295) :
    Calls Tryd.prog 5 #[.agg (csP p ov dv), .int .i64 number, .int .u32 id] w fun E w' => E = .returned (.bool true) ∧ Below w.heap.size w w' := by
  have HAD := Lib.hid hp.wf.ad
  have HP := Lib.hid hp; have HG := Lib.hid hg
  clear hp hg hol hdl hwn
  go_enter Tryd.func5, Tryd.ntmps5
  simp only [List.append_eq, List.cons_append, List.nil_append]
  go_wp2_with (refine wpList_box28 rfl _ rfl p _ _ rfl ?_; refine Hid.out ?_)
  refine Lib.hid ?_
  intro g3 w1 hg3 hb haw
  have HB3 := Lib.hid hb; have HA := Lib.hid haw
  replace HP := Lib.hid (HP.out.on haw)
  replace HG := Lib.hid (HG.out.on haw)
  clear hb haw hg3
  go_wp2_with fail
  refine (alive_c _ HG.out).mono ?_
  rintro E w2 ⟨rfl, haw⟩
  replace HB3 := Lib.hid (HB3.out.on haw)
  replace HA := Lib.hid (HA.out.on haw)
  replace HP := Lib.hid (HP.out.on haw)
  replace HG := Lib.hid (HG.out.on haw)
  clear haw
  go_wp2_with (refine wpList_load28 rfl _ rfl g3 rfl p _ _ (by exact HB3.out) HAD.out ?_)
  refine (mended_c p ov dv _ HP.out HG.out).mono ?_
  rintro E w3 ⟨q, qo, qd, rfl, hu, hwf, hqv, hmine, haw⟩
  have HU := Lib.hid hu; have HW := Lib.hid hwf; have HQA := Lib.hid hwf.ad
  have HQ := Lib.hid (hmine.pkt hwf)
  have HO1 := Lib.hid hmine.o.one; have HD1 := Lib.hid hmine.d.one
  replace HA := Lib.hid (HA.out.on haw)
  replace HG := Lib.hid (HG.out.on haw)
  clear haw hu hwf hmine HB3 HP HAD
  go_wp2_with (refine wpList_new28 rfl rfl rfl _ _ rfl q qo qd (fun g => rfl) (fun g => rfl) HQA.out HO1.out HD1.out ?_; refine Hid.out ?_)
  refine Lib.hid ?_
  intro g7 w4 hg7 hb haw
  have HB := Lib.hid hb
  replace HA := Lib.hid (HA.out.on haw)
  replace HG := Lib.hid (HG.out.on haw)
  replace HQ := Lib.hid (HQ.out.on haw)
  clear hb haw hg7
  have c0 := (HB.out.cells HQA.out).v
  have KL : Hid (∀ w', Calls Tryd.prog 11 #[.int .i64 q.v, .int .i64 number] w' fun E w'' => ∃ m, E = .returned (.int .i64 m) ∧ mtuP m q.v = true ∧ w'' = w') := fun w' => link_c q.v number hqv w'
  go_wp2_with fail
  refine (KL.out _).mono ?_
  rintro E _ ⟨m, rfl, hm, rfl⟩
  have HM := Lib.hid hm
  clear hm c0 KL
  have HQV := Lib.hid hqv
  go_wp2_with (refine wpList_load28 rfl _ rfl g7 rfl q _ _ (by exact HB.out) HQA.out ?_)
  refine (lawRight_c q qo qd _ HQV.out HQ.out HG.out).mono ?_
  rw [HU.out.r]
  rintro E w5 ⟨rfl, haw⟩
  replace HA := Lib.hid (HA.out.on haw)
  replace HG := Lib.hid (HG.out.on haw)
  replace HQ := Lib.hid (HQ.out.on haw)
  replace HB := Lib.hid (HB.out.on haw)
  clear haw
  go_wp2_with (refine wpList_load28 rfl _ rfl g7 rfl q _ _ (by exact HB.out) HQA.out ?_)
  refine (ownP_c q qo qd _ HQ.out).mono ?_
  rintro E w6 ⟨lo, ld, rfl, hmine, haw⟩
  have HLP := Lib.hid (hmine.pkt HW.out)
  replace HA := Lib.hid (HA.out.on haw)
  replace HG := Lib.hid (HG.out.on haw)
  replace HQ := Lib.hid (HQ.out.on haw)
  replace HB := Lib.hid (HB.out.on haw)
  clear haw hmine
  go_wp2_with fail
  refine (cut_c q lo ld m id _ HLP.out HG.out h0 h1).mono ?_
  rintro E w7 ⟨v, xs, rfl, hcu, hxm, haw⟩
  have HCU := Lib.hid hcu; have HXM := Lib.hid hxm
  replace HA := Lib.hid (HA.out.on haw)
  replace HG := Lib.hid (HG.out.on haw)
  replace HQ := Lib.hid (HQ.out.on haw)
  replace HB := Lib.hid (HB.out.on haw)
  clear haw hcu hxm HLP
  obtain ⟨er, her⟩ : ∃ er, er = (cutP q m id).2 := ⟨_, rfl⟩
  rw [← her]
  have HER := Lib.hid her
  clear her
  have hmb := (mtu_iff _ _).1 HM.out
  have hm2 : m ≤ 65535 := hmb.2
  clear hmb
  have HCP : Hid (cutP q m id = (if fitsP q m = true then ([q], 0) else if q.df = true then ([], 100) else (cutL q m id, 0))) := by
    show _ = _
    unfold cutP; rw [(uncut_iff q).2 HU.out, HM.out]; rfl
  obtain ⟨L, hL⟩ : ∃ L : Nat, L = topP q + q.d.length := ⟨_, rfl⟩
  have KLG : Hid (∀ w', Away [] w7 w' → Calls Tryd.prog 16 #[.agg (csP q qo qd)] w' fun E w'' => E = .returned (.int .i64 (L : Int)) ∧ Away [] w' w'') := fun w' h => by rw [hL]; exact long_c q qo qd w' HQV.out HU.out.r (HQ.out.on h) (HG.out.on h)
  have HFL : Hid (fitsP q m = decide ((L : Int) ≤ m)) := by
    show _ = _
    by_cases hc : (L : Int) ≤ m
    · rw [decide_eq_true hc, fits_iff]; exact ⟨HU.out.r, by rw [← hL]; exact hc⟩
    · rw [decide_eq_false hc, Bool.eq_false_iff]; intro e; exact hc (by rw [hL]; exact ((fits_iff _ _).1 e).2)
  clear hL
  go_wp2_with (refine wpList_load28 rfl _ rfl g7 rfl q _ _ (by exact HB.out) HQA.out ?_)
  refine (KLG.out _ (Away.refl _ _)).mono ?_
  rintro E w8 ⟨rfl, haw⟩
  replace HA := Lib.hid (HA.out.on haw)
  replace HG := Lib.hid (HG.out.on haw)
  replace HQ := Lib.hid (HQ.out.on haw)
  replace HB := Lib.hid (HB.out.on haw)
  replace HCU := Lib.hid (HCU.out.on haw)
  clear haw KLG
  by_cases hfit : (L : Int) ≤ m
  · rw [decide_eq_true hfit] at HFL
    rw [HFL.out, if_pos rfl] at HCP
    rw [HCP.out] at HXM HER
    obtain ⟨la, lb, hxs⟩ := one_of HXM.out
    subst hxs
    obtain rfl : er = 0 := HER.out
    obtain ⟨va, vc, hv, hvc, hvn, hpk, hvo⟩ := HCU.out.pks (by simp)
    simp only [List.length_singleton] at hv
    subst hv
    have HPK := Lib.hid hpk
    obtain ⟨xb, xo, hxa, hrx, hokx⟩ := hpk.at (i := 0) rfl
    subst hxa
    have HOK : Hid (Pkt w8 q la lb) := hokx
    have hrx2 : w8.rangeAt xb xo (listP q la lb) := by simpa [X.cells] using hrx
    have HRX := Lib.hid hrx2
    have K1 : Hid (∀ W, (Away [] w8 W ∧ BoxP W g7 q qo qd) → Calls Tryd.prog 18 #[.agg (csP q la lb), .agg (csP q qo qd)] W fun E w'' => E = .returned (.bool true) ∧ (Away [] w8 w'' ∧ BoxP w'' g7 q qo qd)) := fun W hW => by
      have := sameP_c q q la lb qo qd W (HOK.out.on hW.1) (HQ.out.on hW.1)
      rw [show dP q q = true from @decide_eq_true _ (pkDec q q) rfl] at this
      exact this.mono fun E w'' h => ⟨h.1, hW.1.on h.2, hW.2.on h.2⟩
    have K2 : Hid (∀ W, (Away [] w8 W ∧ BoxP W g7 q qo qd) → Calls Tryd.prog 14 #[.agg (csP q qo qd), .int .i64 m, .slice (some ⟨xb, xo, none⟩) 1 vc] W fun E w'' => E = .returned (.bool true) ∧ (Away [] w8 w'' ∧ BoxP w'' g7 q qo qd)) := fun W hW => by
      have := is_c q qo qd m (some ⟨xb, xo, none⟩) [⟨q, la, lb⟩] 1 vc W rfl (HQ.out.on hW.1) (HPK.out.on hW.1) (HG.out.on hW.1)
      rw [show isP q m (List.map X.p [⟨q, la, lb⟩]) = true from is_alone HU.out HM.out HFL.out] at this
      exact this.mono fun E w'' h => ⟨h.1, hW.1.on h.2, hW.2.on h.2⟩
    have HC : Hid (Away [] w8 w8.drew ∧ BoxP w8.drew g7 q qo qd) := ⟨(Away.refl [] w8).drew, HB.out⟩
    clear hpk hrx hrx2 hokx hvo hvn
    go_wp2_with fail
    refine wp_region_cls (C := fun w' => Away [] w8 w' ∧ BoxP w' g7 q qo qd) (by kernel_rfl) (by kernel_rfl) HC.out ?_
    go_big_quiet_want; (refine quiet_val ?_ ?_ ?_; rotate_left; (intro w; go_simp; rfl); go_simp; go_big_quiet_on)
    go_big_quiet_want; (refine quiet_val ?_ ?_ ?_; rotate_left; (intro w; go_simp; rfl); go_simp; go_big_quiet_on)
    go_big_quiet_want; (refine quiet_val ?_ ?_ ?_; rotate_left; (intro w; go_simp; rfl); go_simp; go_big_quiet_on)
    go_big_quiet_want; (refine quiet_val ?_ ?_ ?_; rotate_left; (intro w; go_simp; rfl); go_simp; go_big_quiet_on)
    go_big_quiet_want; (refine quiet_val ?_ ?_ ?_; rotate_left; (intro w; go_simp; rfl); go_simp; go_big_quiet_on)
    go_big_quiet_want; (refine quiet_val ?_ ?_ ?_; rotate_left; (intro w; go_simp; rfl); go_simp; go_big_quiet_on)
    go_big_quiet_want; (refine quiet_val ?_ ?_ ?_; rotate_left; (intro w; go_simp; rfl); go_simp; go_big_quiet_on)
    go_big_quiet_want; (refine quiet_val ?_ ?_ ?_; rotate_left; (intro w; go_simp; rfl); go_simp; go_big_quiet_on)
    go_big_quiet_want; (refine quiet_val ?_ ?_ ?_; rotate_left; (intro w; go_simp; rfl); go_simp; go_big_quiet_on)
    go_big_quiet_want; (refine quiet_val ?_ ?_ ?_; rotate_left; (intro w; go_simp; rfl); go_simp; go_big_quiet_on)
    go_big_quiet_want; refine quiet_ld _ rfl (ad := ⟨xb, xo, none⟩) rfl (fun w' h => load28m_run (by exact range_away h.1 (by simp) HRX.out) HQA.out) ?_; go_simp; go_big_quiet_on
    go_big_quiet_want; refine quiet_ld _ rfl (ad := ⟨g7, 0, none⟩) rfl (fun w' h => load28_run h.2 HQA.out) ?_; go_simp; go_big_quiet_on
    go_big_quiet_want; refine quiet_call 18 #[.agg (csP q la lb), .agg (csP q qo qd)] (.bool true) ?_ K1.out ?_
    · intro w; go_simp; all_goals (with_reducible rfl)
    go_simp; go_big_quiet_on
    go_big_quiet_want; (refine quiet_val ?_ ?_ ?_; rotate_left; (intro w; go_simp; rfl); go_simp; go_big_quiet_on)
    go_big_quiet_want; (refine quiet_val ?_ ?_ ?_; rotate_left; (intro w; go_simp; rfl); go_simp; go_big_quiet_on)
    go_big_quiet_want; refine quiet_ld _ rfl (ad := ⟨g7, 0, none⟩) rfl (fun w' h => load28_run h.2 HQA.out) ?_; go_simp; go_big_quiet_on
    go_big_quiet_want; (refine quiet_val ?_ ?_ ?_; rotate_left; (intro w; go_simp; rfl); go_simp; go_big_quiet_on)
    go_big_quiet_want; (refine quiet_val ?_ ?_ ?_; rotate_left; (intro w; go_simp; rfl); go_simp; go_big_quiet_on)
    go_big_quiet_want; refine quiet_call 14 #[.agg (csP q qo qd), .int .i64 m, .slice (some ⟨xb, xo, none⟩) 1 vc] (.bool true) ?_ K2.out ?_
    · intro w; go_simp; all_goals (with_reducible rfl)
    go_simp; go_big_quiet_on
    go_big_quiet_want; (refine quiet_val ?_ ?_ ?_; rotate_left; (intro w; go_simp; rfl); go_simp; go_big_quiet_on)
    go_big_quiet_want; (refine quiet_val ?_ ?_ ?_; rotate_left; (intro w; go_simp; rfl); go_simp; go_big_quiet_on)
    refine wpQuiet_nil ?_
    intro V hV
    have HE := Lib.hid (HA.out.on hV.1)
    clear hV
    go_wp2_with fail
    go_ret
    exact ⟨rfl, HE.out.to_below⟩
  · rw [decide_eq_false hfit] at HFL
    rw [HFL.out, if_neg (by simp)] at HCP
    have c40 := (HB.out.cells HQA.out).df
    obtain ⟨df, hdf⟩ : ∃ df, df = q.df := ⟨_, rfl⟩
    have HDF := Lib.hid hdf
    rw [← hdf] at c40
    rw [← hdf] at HCP
    clear hdf
    cases df
    rotate_left
    · rw [if_pos rfl] at HCP
      rw [HCP.out] at HXM HER
      obtain rfl : xs = [] := List.map_eq_nil_iff.1 HXM.out
      obtain rfl : er = 100 := HER.out
      obtain ⟨va, vc, hv, -, -, -, -⟩ := HCU.out.pks (by simp)
      simp only [List.length_nil] at hv
      subst hv
      go_wp2_with fail
      go_ret
      exact ⟨rfl, HA.out.to_below⟩
    · rw [if_neg (by simp)] at HCP
      rw [HCP.out] at HXM HER
      obtain rfl : er = 0 := HER.out
      have HXM2 : Hid (xs.map X.p = cutL q m id) := HXM.out
      have hda := HU.out.all.1
      obtain ⟨s0, q1, r, ht0, hs0, hcl, -⟩ := cut_two HU.out HW.out h0 h1 HM.out HFL.out
      have hxl : xs.length ≤ 65535 ∧ 2 ≤ xs.length := by
        have e1 : xs.length = (cutL q m id).length := by rw [← HXM2.out, List.length_map]
        have e2 : (cutL q m id).length ≤ q.d.length := pcs_len _ _ _ _ _ _
        rw [hcl] at e1
        simp only [List.length_cons] at e1
        rw [hcl] at e2
        simp only [List.length_cons] at e2
        omega
      obtain ⟨hxl1, hxl2⟩ := hxl
      obtain ⟨va, vc, hv, hvc, hvn, hpk, hvo⟩ := HCU.out.pks (by omega)
      subst hv
      have HPK := Lib.hid hpk
      obtain ⟨x0, hx0, -⟩ := get_of (show 0 < xs.length by omega)
      obtain ⟨xb, xo, hxa, hrx, hokx⟩ := hpk.at hx0
      subst hxa
      have hx0p : x0.p = plcP (fstP q id) 0 (q.d.take s0) true := by
        have h2 : (xs.map X.p)[0]? = some x0.p := by rw [List.getElem?_map, hx0]; rfl
        rw [HXM2.out, hcl] at h2
        simpa using h2.symm
      have hx0l : x0.p.d.length = s0 := by rw [hx0p]; show (q.d.take s0).length = s0; have := ht0.le; simp; omega
      obtain ⟨a0, c0, hd0, -, -, -⟩ := (show Pkt w8 x0.p x0.o x0.d from hokx).d
      have H45 : Hid (w8.cell? ⟨xb, xo + 45, none⟩ = some (.slice a0 s0 c0)) := by
        show _ = _
        have := hrx 45 x0.d (by simpa [X.cells, csP] using (csP_get (show Pkt w8 x0.p x0.o x0.d from hokx).wf.ad x0.o x0.d).2.2.2.2.2.2.2.2.2.2.2.2.2)
        rw [hd0, hx0l] at this
        simpa using this
      have HS06 : Hid (q.v = 6 → (m - 48).toNat / 8 * 8 = s0) := by
        intro hv6
        have h3 := ht0.eq
        have h4 : shareP (q.d.length - 0) (roomP (fstP q id) m) q.v = roomP (fstP q id) m / 8 * 8 := share_more (by rw [← h3]; omega)
        have h5 := (room_eq HU.out HW.out (HU.out.fst HW.out h0 h1) HM.out).2.1
        have h6 := (frame_right HU.out HW.out (HU.out.fst HW.out h0 h1)).2.2.2 hv6
        rw [h3, h4, h5, h6]; rfl
      have KI : Hid (∀ w', Away [] w8 w' → Calls Tryd.prog 14 #[.agg (csP q qo qd), .int .i64 m, .slice (some ⟨xb, xo, none⟩) xs.length vc] w' fun E w'' => E = .returned (.bool true) ∧ Away [] w' w'') := fun w' h => by
        have := is_c q qo qd m (some ⟨xb, xo, none⟩) xs xs.length vc w' rfl (HQ.out.on h) (HPK.out.on h) (HG.out.on h)
        rw [HXM2.out, is_cut HU.out HW.out h0 h1 HM.out HFL.out HDF.out.symm] at this
        exact this
      clear hpk hvo hvn hrx hokx hx0p hx0l hd0 hx0 ht0 hcl
      have hd2 : decide ((xs.length : Int) < 2) = false := by simp; omega
      go_wp2_with (refine wpList_load28 rfl _ rfl g7 rfl q _ _ (by exact HB.out) HQA.out ?_)
      refine (KI.out _ (Away.refl _ _)).mono ?_
      rintro E w9 ⟨rfl, haw⟩
      replace HA := Lib.hid (HA.out.on haw)
      replace HG := Lib.hid (HG.out.on haw)
      replace HQ := Lib.hid (HQ.out.on haw)
      replace HB := Lib.hid (HB.out.on haw)
      replace HPK := Lib.hid (HPK.out.on haw)
      replace H45 : Hid (w9.cell? ⟨xb, xo + 45, none⟩ = some (.slice a0 s0 c0)) := haw.cell (by simp) H45.out
      clear haw KI HCU c40
      go_wp2_with fail
      go_loopw [11, 12] (fun av iv wr => ∃ (n k fuel : Nat) (f : Pk), av = .int .i64 (n : Int) ∧ iv = .int .i64 (k : Int) ∧ n ≤ q.d.length ∧ (n = q.d.length ∨ n % 8 = 0) ∧ q.d.length - n ≤ fuel ∧ Frm q f ∧ (q.v = 6 → f.id = id) ∧ k ≤ xs.length ∧ (xs.drop k).map X.p = pcsP q m (latP q id) fuel f n ∧ Away [] w9 wr) (fun _ i _ => xs.length - (intOf i).toNat)
      case atStart => exact ⟨0, 0, q.d.length, fstP q id, rfl, rfl, by omega, by omega, by omega, HU.out.fst HW.out h0 h1, fun hv => by unfold fstP; rw [if_pos hv], by omega, HXM2.out, Away.refl _ _⟩
      case round =>
        obtain ⟨n, k, fuel, f, rfl, rfl, hn, hn8, hfu, hf, hfid, hk, hdr, haw⟩ := hrel
        have HF := Lib.hid hf; have HDR := Lib.hid hdr; have HAW := Lib.hid haw; have HFID := Lib.hid hfid
        clear hf hdr haw hfid
        by_cases hlt : k < xs.length
        · obtain ⟨x, hxk, hxm⟩ := get_of hlt
          have hdc := drop_cons hxk
          have hnl : n < q.d.length := by
            by_cases hc : n < q.d.length
            · exact hc
            · have := HDR.out; rw [hdc, pcs_nil hc] at this; simp at this
          obtain ⟨fu, rfl⟩ : ∃ fu, fuel = fu + 1 := ⟨fuel - 1, by omega⟩
          have hP := piece_of HU.out HW.out HF.out HM.out hnl (by omega)
          have hstep := HDR.out
          rw [hdc, List.map_cons, pcsP, if_pos hnl] at hstep
          have hxp := (List.cons.inj hstep).1
          have hrest := (List.cons.inj hstep).2
          rw [← hxp] at hP
          generalize shareP (q.d.length - n) (roomP f m) q.v = s at hP hrest
          have HRS := Lib.hid hrest
          have hmk : x.p.more = decide (k + 1 < xs.length) := by
            rw [hP.more]
            have h2 := pcs_empty (p := q) (m := m) (lat := latP q id) (f := latP q id) (k := fu) (n := n + s) (by have := hP.pos; omega)
            rw [← hrest] at h2
            apply decide_eq_decide.2
            by_cases hc : k + 1 < xs.length
            · have : (List.map X.p (xs.drop (k + 1))).isEmpty = false := by
                cases hd : xs.drop (k + 1) with
                | nil => have := congrArg List.length hd; simp at this; omega
                | cons y r => rfl
              rw [this] at h2; simp at h2; omega
            · rw [List.drop_eq_nil_of_le (show xs.length ≤ k + 1 by omega)] at h2; simp at h2; omega
          obtain ⟨b', o', hbo, hrx, hokx⟩ := (HPK.out.on HAW.out).at hxk
          obtain ⟨rfl, rfl⟩ : xb = b' ∧ xo = o' := by simpa using hbo
          obtain ⟨xp, xo', xd⟩ := x
          replace hokx : Pkt wr xp xo' xd := hokx
          have HPI : Hid (Piece q f xp m n s) := hP
          have HOK := Lib.hid hokx
          have HXA := Lib.hid hokx.wf.ad
          have HRX : Hid (wr.rangeAt xb (xo + k * 46) (listP xp xo' xd)) := hrx
          have HMK : Hid (xp.more = decide (k + 1 < xs.length)) := hmk
          have hsl := hP.le; have hsp := hP.pos
          clear hdc hstep hxp hrest hmk hrx hokx hxm hbo hP hxk
          obtain ⟨da, dc, hxd, -, -, hdrow⟩ := HOK.out.d
          have hxl : xp.d.length = s := HPI.out.len
          rw [hxl] at hxd
          subst hxd
          have i2 : 0 ≤ (k : Int) := by omega
          have i3 : (k : Int) < (xs.length : Int) := by omega
          have i4 : ((k : Int)).toNat = k := by omega
          go_wp2_with (first | (refine wpList_load28m rfl _ rfl xb (xo + k * 46) rfl xp xo' _ (by exact HRX.out) HXA.out ?_) | (refine wpList_alloc28 rfl rfl ?_; refine Hid.out ?_))
          refine Lib.hid ?_
          intro g13 v1 hg13 hb13 haw
          have HB13 := Lib.hid hb13
          have hl13 := hb13.lt
          have HAW0 := HAW
          have HAW1 := Lib.hid haw
          have hxold : (xp.o ≠ [] → ∀ k, xo'.ownBlock = some k → k < wr.heap.size) ∧ (xp.d ≠ [] → ∀ k, (Value.slice da s dc).ownBlock = some k → k < wr.heap.size) := ⟨HOK.out.o.old, HOK.out.d.old⟩
          replace HOK := Lib.hid (HOK.out.on haw)
          have hv1 := haw.size
          clear hb13 haw HRX hdrow HAW
          go_wp2_with (refine wpList_store28 rfl _ _ rfl g13 rfl xp xo' (.slice da s dc) rfl zeroPk (.slice none 0 0) (.slice none 0 0) (by exact HB13.out) HXA.out ⟨rfl, rfl⟩ HOK.out.ov rfl ?_; refine Hid.out ?_)
          refine Lib.hid ?_
          intro v2 hb13 haw
          replace HB13 := Lib.hid hb13
          replace HOK : Hid (Pkt v2 xp xo' (.slice da s dc)) := ⟨HOK.out.wf, HOK.out.o.away haw (fun h k hk => by have := hxold.1 h k hk; simp; omega), HOK.out.d.away haw (fun h k hk => by have := hxold.2 h k hk; simp; omega)⟩
          have HAW : Hid (Away [] w9 v2) := HAW0.out.next ((HAW1.out).next haw (fun x hx => .inr (by simp at hx; omega))) (by simp)
          clear hb13 haw HAW0 HAW1 hv1 hxold
          have HBq := Lib.hid (HB.out.on HAW.out)
          have HGv := Lib.hid (HG.out.on HAW.out)
          have HQv := Lib.hid (HQ.out.on HAW.out)
          obtain ⟨qa, qc, hqd, hq1, hq2, -⟩ := HQ.out.d
          subst hqd
          have HQR := Lib.hid HQv.out.d.of.2.2.2
          obtain ⟨A, hA⟩ : ∃ A, A = if qc = n then qa else qa.map (·.add n) := ⟨_, rfl⟩
          have hs9 := fun wx => slice_lh qa A q.d.length qc n s (n : Int) ((n : Int) + (s : Int)) hA rfl rfl (by omega) wx
          have HRA : Hid (Row v2 A ((q.d.drop n).take s)) := by
            show Row _ _ _
            rw [hA]; exact HQR.out.sub n s qc hq1 hn
          have HAN : Hid (A = none → qc - n = 0) := by
            intro e
            rw [hA] at e
            have : qa = none := by
              by_cases hc : qc = n
              · rw [if_pos hc] at e; exact e
              · rw [if_neg hc] at e; simpa using e
            have := hq2 this; omega
          clear hA
          obtain ⟨Lx, hLx⟩ : ∃ Lx : Nat, Lx = topP xp + xp.d.length := ⟨_, rfl⟩
          have hLm : (Lx : Int) ≤ m := by rw [hLx]; exact HPI.out.long
          have hLt : xp.more = true → m < (Lx : Int) + 8 := by rw [hLx]; exact HPI.out.tight
          have HLT := Lib.hid hLt
          have HLX := Lib.hid hLx
          have HVX : Hid (xp.v = 4 ∨ xp.v = 6) := by show _ ∨ _; rw [HPI.out.v]; exact HQV.out
          have KR : Hid (∀ w', Away [] v2 w' → Calls Tryd.prog 17 #[.agg (csP xp xo' (.slice da s dc))] w' fun E w'' => E = .returned (.bool true) ∧ Away [] w' w'') := fun w' h => by
            have := lawRight_c xp xo' _ w' HVX.out (HOK.out.on h) (HGv.out.on h)
            rw [HPI.out.r] at this
            exact this
          have KG : Hid (∀ w', Away [] v2 w' → Calls Tryd.prog 16 #[.agg (csP xp xo' (.slice da s dc))] w' fun E w'' => E = .returned (.int .i64 (Lx : Int)) ∧ Away [] w' w'') := fun w' h => by
            rw [HLX.out]; exact long_c xp xo' _ w' HVX.out HPI.out.r (HOK.out.on h) (HGv.out.on h)
          have KS : Hid (∀ w', Away [] v2 w' → Calls Tryd.prog 19 #[.slice da s dc, .slice A s (qc - n)] w' fun E w'' => E = .returned (.bool true) ∧ w'' = w') := fun w' h => by
            have h2 := HOK.out.d.of
            have := same_any da A xp.d ((q.d.drop n).take s) s s dc (qc - n) w' h2.1 (by simp; omega) h2.2.2.1 HAN.out (h2.2.2.2.on h) (HRA.out.on h)
            rw [decide_eq_true HPI.out.d] at this
            exact this
          clear hLx hLt hq1 hq2
          have i5 : (n : Int) + (s : Int) ≤ (q.d.length : Int) := by omega
          obtain ⟨A1, hA1⟩ : ∃ A, A = csA q.sv q.sb := ⟨_, rfl⟩
          obtain ⟨A2, hA2⟩ : ∃ A, A = csA q.dv q.db := ⟨_, rfl⟩
          have e24a := eq24 q.sv q.sv q.sb q.sb HW.out.sl HW.out.sl
          have e24b := eq24 q.dv q.dv q.db q.db HW.out.dl HW.out.dl
          rw [← hA1] at e24a
          rw [← hA2] at e24b
          rw [show (decide (q.sv = q.sv) && eqL q.sb q.sb) = true from by simp [eqL]] at e24a
          rw [show (decide (q.dv = q.dv) && eqL q.db q.db) = true from by simp [eqL]] at e24b
          have HE1 := Lib.hid e24a; have HE2 := Lib.hid e24b
          have HC1 := Lib.hid hA1; have HC2 := Lib.hid hA2
          have HC3 : Hid (A1 = csA xp.sv xp.sb) := by show _ = _; rw [hA1, HPI.out.sv, HPI.out.sb]
          have HC4 : Hid (A2 = csA xp.dv xp.db) := by show _ = _; rw [hA2, HPI.out.dv, HPI.out.db]
          clear hA1 hA2 e24a e24b
          have hsx := HOK.out.wf.sl; have hdx := HOK.out.wf.dl
          have hsq := HW.out.sl; have hdq := HW.out.dl
          have HL4 := Lib.hid (show xp.sb.length = 16 ∧ xp.db.length = 16 ∧ q.sb.length = 16 ∧ q.db.length = 16 from ⟨hsx, hdx, hsq, hdq⟩)
          clear hsx hdx hsq hdq
          have KR2 : Hid (∀ W, (Away [] v2 W ∧ BoxP W g13 xp xo' (.slice da s dc) ∧ BoxP W g7 q qo (.slice qa q.d.length qc)) → Calls Tryd.prog 17 #[.agg (csP xp xo' (.slice da s dc))] W fun E w'' => E = .returned (.bool true) ∧ (Away [] v2 w'' ∧ BoxP w'' g13 xp xo' (.slice da s dc) ∧ BoxP w'' g7 q qo (.slice qa q.d.length qc))) := fun W hW => (KR.out W hW.1).mono fun E w'' h => ⟨h.1, hW.1.on h.2, hW.2.1.on h.2, hW.2.2.on h.2⟩
          clear KR
          have KR := KR2
          clear KR2
          have KG0 := KG
          have KG2 : Hid (∀ W, (Away [] v2 W ∧ BoxP W g13 xp xo' (.slice da s dc) ∧ BoxP W g7 q qo (.slice qa q.d.length qc)) → Calls Tryd.prog 16 #[.agg (csP xp xo' (.slice da s dc))] W fun E w'' => E = .returned (.int .i64 (Lx : Int)) ∧ (Away [] v2 w'' ∧ BoxP w'' g13 xp xo' (.slice da s dc) ∧ BoxP w'' g7 q qo (.slice qa q.d.length qc))) := fun W hW => (KG.out W hW.1).mono fun E w'' h => ⟨h.1, hW.1.on h.2, hW.2.1.on h.2, hW.2.2.on h.2⟩
          clear KG
          have KG := KG2
          clear KG2
          have KS2 : Hid (∀ W, (Away [] v2 W ∧ BoxP W g13 xp xo' (.slice da s dc) ∧ BoxP W g7 q qo (.slice qa q.d.length qc)) → Calls Tryd.prog 19 #[.slice da s dc, .slice A s (qc - n)] W fun E w'' => E = .returned (.bool true) ∧ (Away [] v2 w'' ∧ BoxP w'' g13 xp xo' (.slice da s dc) ∧ BoxP w'' g7 q qo (.slice qa q.d.length qc))) := fun W hW => (KS.out W hW.1).mono fun E w'' h => ⟨h.1, by rw [h.2]; exact hW⟩
          clear KS
          have KS := KS2
          clear KS2
          have HS9 : Hid (∀ wx, (Instr.sliceAt 26 (.slice qa q.d.length qc) (some (.int .i64 (n : Int))) (some (.int .i64 ((n : Int) + (s : Int)))) none).run Tryd.prog wx = .ok (.slice A s (qc - n)) wx) := hs9
          clear hs9
          have HC : Hid (Away [] v2 v2.drew ∧ BoxP v2.drew g13 xp xo' (.slice da s dc) ∧ BoxP v2.drew g7 q qo (.slice qa q.d.length qc)) := ⟨(Away.refl [] v2).drew, HB13.out, HBq.out⟩
          have hwr : IntKind.i64.wrap ((n : Int) + (s : Int)) = (n : Int) + (s : Int) := by rw [IntKind.wrap_i64]; omega
          have hwk : IntKind.i64.wrap ((k : Int) + 1) = (k : Int) + 1 := by rw [IntKind.wrap_i64]; omega
          have d1 : decide (m < (Lx : Int)) = false := by simp; omega
          have d2 : decide ((q.d.length : Int) < (n : Int) + (s : Int)) = false := by simp; omega
          have x_d0 := (HB13.out.cells HXA.out).d
          go_upto_region 20 with fail
          go_cut [175] (fun v wc => v = .bool false ∧ (Away [] v2 wc ∧ BoxP wc g13 xp xo' (.slice da s dc) ∧ BoxP wc g7 q qo (.slice qa q.d.length qc)))
          case first =>
            as_aux_lemma =>
              by_cases hmc : k + 1 < xs.length
              · have HMORE : Hid (xp.more = true) := by show _ = _; rw [HMK.out, decide_eq_true hmc]
                have d3 : decide ((k : Int) + 1 < (xs.length : Int)) = true := by simp; omega
                go_wp2_with fail
                refine wp_region_cls (C := fun w' => Away [] v2 w' ∧ BoxP w' g13 xp xo' (.slice da s dc) ∧ BoxP w' g7 q qo (.slice qa q.d.length qc)) (by kernel_rfl) (by kernel_rfl) HC.out ?_
                go_big_quiet_want; refine quiet_ld _ rfl (ad := ⟨g13, 0, none⟩) rfl (fun w' h => load28_run h.2.1 HXA.out) ?_; go_simp; go_big_quiet_on
                go_big_quiet_want; refine quiet_call 17 #[.agg (csP xp xo' (.slice da s dc))] (.bool true) ?_ KR.out ?_
                · intro w; go_simp; all_goals (with_reducible rfl)
                go_simp; go_big_quiet_on
                go_big_quiet_want; (refine quiet_val ?_ ?_ ?_; rotate_left; (intro w; go_simp; rfl); go_simp; go_big_quiet_on)
                go_big_quiet_want; (refine quiet_val ?_ ?_ ?_; rotate_left; (intro w; go_simp; rfl); go_simp; go_big_quiet_on)
                go_big_quiet_want; refine quiet_ld _ rfl (ad := ⟨g13, 0, none⟩) rfl (fun w' h => load28_run h.2.1 HXA.out) ?_; go_simp; go_big_quiet_on
                go_big_quiet_want; refine quiet_call 16 #[.agg (csP xp xo' (.slice da s dc))] (.int .i64 (Lx : Int)) ?_ KG.out ?_
                · intro w; go_simp; all_goals (with_reducible rfl)
                go_simp; go_big_quiet_on
                go_big_quiet_want; (refine quiet_val ?_ ?_ ?_; rotate_left; (intro w; go_simp; rfl); go_simp; go_big_quiet_on)
                go_big_quiet_want; (refine quiet_val ?_ ?_ ?_; rotate_left; (intro w; go_simp; rfl); go_simp; go_big_quiet_on)
                go_big_quiet_want; (refine quiet_val ?_ ?_ ?_; rotate_left; (intro w; go_simp; rfl); go_simp; go_big_quiet_on)
                go_big_quiet_want; (refine quiet_val ?_ ?_ ?_; rotate_left; (intro w; go_simp; rfl); go_simp; go_big_quiet_on)
                go_big_quiet_want; (refine quiet_val ?_ ?_ ?_; rotate_left; (intro w; go_simp; rfl); go_simp; go_big_quiet_on)
                go_big_quiet_want; refine quiet_ld _ rfl (ad := ⟨g13, 43, none⟩) rfl (fun w' h => ld3 (by have := (h.2.1.cells HXA.out).off; rw [HPI.out.off] at this; exact this)) ?_; go_simp; go_big_quiet_on
                go_big_quiet_want; (refine quiet_val ?_ ?_ ?_; rotate_left; (intro w; go_simp; rfl); go_simp; go_big_quiet_on)
                go_big_quiet_want; (refine quiet_val ?_ ?_ ?_; rotate_left; (intro w; go_simp; rfl); go_simp; go_big_quiet_on)
                go_big_quiet_want; (refine quiet_val ?_ ?_ ?_; rotate_left; (intro w; go_simp; rfl); go_simp; go_big_quiet_on)
                go_big_quiet_want; (refine quiet_val ?_ ?_ ?_; rotate_left; (intro w; go_simp; rfl); go_simp; go_big_quiet_on)
                go_big_quiet_want; (refine quiet_val ?_ ?_ ?_; rotate_left; (intro w; go_simp; rfl); go_simp; go_big_quiet_on)
                go_big_quiet_want; (refine quiet_val ?_ ?_ ?_; rotate_left; (intro w; go_simp; rfl); go_simp; go_big_quiet_on)
                go_big_quiet_want; (refine quiet_val ?_ ?_ ?_; rotate_left; (intro w; go_simp; rfl); go_simp; go_big_quiet_on)
                go_big_quiet_want; (refine quiet_val ?_ ?_ ?_; rotate_left; (intro w; go_simp; rfl); go_simp; go_big_quiet_on)
                go_big_quiet_want; refine quiet_ld _ rfl (ad := ⟨g7, 45, none⟩) rfl (fun w' h => ld26 (h.2.2.cells HQA.out).d) ?_; go_simp; go_big_quiet_on
                go_big_quiet_want; (refine quiet_val ?_ ?_ ?_; rotate_left; (intro w; go_simp; rfl); go_simp; go_big_quiet_on)
                go_big_quiet_want; (refine quiet_val ?_ ?_ ?_; rotate_left; (intro w; go_simp; rfl); go_simp; go_big_quiet_on)
                go_big_quiet_want; (refine quiet_val ?_ ?_ ?_; rotate_left; (intro w; go_simp; rfl); go_simp; go_big_quiet_on)
                go_big_quiet_want; (refine quiet_val ?_ ?_ ?_; rotate_left; (intro w; go_simp; rfl); go_simp; go_big_quiet_on)
                go_big_quiet_want; (refine quiet_val ?_ ?_ ?_; rotate_left; (intro w; go_simp; rfl); go_simp; go_big_quiet_on)
                go_big_quiet_want; refine quiet_ld _ rfl (ad := ⟨g13, 45, none⟩) rfl (fun w' h => ld26 (h.2.1.cells HXA.out).d) ?_; go_simp; go_big_quiet_on
                go_big_quiet_want; (refine quiet_val ?_ ?_ ?_; rotate_left; (intro w; go_simp; rfl); go_simp; go_big_quiet_on)
                go_big_quiet_want; refine quiet_ld _ rfl (ad := ⟨g7, 45, none⟩) rfl (fun w' h => ld26 (h.2.2.cells HQA.out).d) ?_; go_simp; go_big_quiet_on
                go_big_quiet_want; (refine quiet_val ?_ ?_ ?_; rotate_left; (intro w; go_simp; rfl); go_simp; go_big_quiet_on)
                go_big_quiet_want; (refine quiet_val ?_ ?_ ?_; rotate_left; (intro w; go_simp; rfl); go_simp; go_big_quiet_on)
                go_big_quiet_want; (refine quiet_val ?_ ?_ ?_; rotate_left; (intro w; go_simp; rfl); go_simp; go_big_quiet_on)
                go_big_quiet_want; (refine quiet_val ?_ ?_ ?_; rotate_left; (intro w; go_simp; rfl); go_simp; go_big_quiet_on)
                go_big_quiet_want; refine quiet_slh _ _ _ rfl rfl rfl rfl HS9.out ?_; go_simp; go_big_quiet_on
                go_big_quiet_want; refine quiet_call 19 #[.slice da s dc, .slice A s (qc - n)] (.bool true) ?_ KS.out ?_
                · intro w; go_simp; all_goals (with_reducible rfl)
                go_simp; go_big_quiet_on
                go_big_quiet_want; (refine quiet_val ?_ ?_ ?_; rotate_left; (intro w; go_simp; rfl); go_simp; go_big_quiet_on)
                go_big_quiet_want; (refine quiet_val ?_ ?_ ?_; rotate_left; (intro w; go_simp; rfl); go_simp; go_big_quiet_on)
                go_big_quiet_want; (refine quiet_val ?_ ?_ ?_; rotate_left; (intro w; go_simp; rfl); go_simp; go_big_quiet_on)
                go_big_quiet_want; (refine quiet_val ?_ ?_ ?_; rotate_left; (intro w; go_simp; rfl); go_simp; go_big_quiet_on)
                go_big_quiet_want; refine quiet_ld _ rfl (ad := ⟨g13, 41, none⟩) rfl (fun w' h => ld4 (by have := (h.2.1.cells HXA.out).more; rw [HMORE.out] at this; exact this)) ?_; go_simp; go_big_quiet_on
                go_big_quiet_want; (refine quiet_val ?_ ?_ ?_; rotate_left; (intro w; go_simp; rfl); go_simp; go_big_quiet_on)
                go_big_quiet_want; (refine quiet_val ?_ ?_ ?_; rotate_left; (intro w; go_simp; rfl); go_simp; go_big_quiet_on)
                go_big_quiet_want; (refine quiet_val ?_ ?_ ?_; rotate_left; (intro w; go_simp; rfl); go_simp; go_big_quiet_on)
                go_big_quiet_want; (refine quiet_val ?_ ?_ ?_; rotate_left; (intro w; go_simp; rfl); go_simp; go_big_quiet_on)
                go_big_quiet_want; (refine quiet_val ?_ ?_ ?_; rotate_left; (intro w; go_simp; rfl); go_simp; go_big_quiet_on)
                go_big_quiet_want; (refine quiet_val ?_ ?_ ?_; rotate_left; (intro w; go_simp; rfl); go_simp; go_big_quiet_on)
                go_big_quiet_want; (refine quiet_val ?_ ?_ ?_; rotate_left; (intro w; go_simp; rfl); go_simp; go_big_quiet_on)
                go_big_quiet_want; (refine quiet_val ?_ ?_ ?_; rotate_left; (intro w; go_simp; rfl); go_simp; go_big_quiet_on)
                go_big_quiet_want; (refine quiet_val ?_ ?_ ?_; rotate_left; (intro w; go_simp; rfl); go_simp; go_big_quiet_on)
                go_big_quiet_want; refine quiet_ld _ rfl (v := .agg A1) (ad := ⟨g13, 3, none⟩) rfl (fun w' h => by rw [HC3.out]; exact load24m_run h.2.1.srow HL4.out.1) ?_; go_simp; go_big_quiet_on
                go_big_quiet_want; (refine quiet_val ?_ ?_ ?_; rotate_left; (intro w; go_simp; rfl); go_simp; go_big_quiet_on)
                go_big_quiet_want; refine quiet_ld _ rfl (v := .agg A1) (ad := ⟨g7, 3, none⟩) rfl (fun w' h => by rw [HC1.out]; exact load24m_run h.2.2.srow HL4.out.2.2.1) ?_; go_simp; go_big_quiet_on
                go_big_quiet_want; refine quiet_ne24 _ _ rfl A1 A1 rfl rfl true HE1.out ?_; go_simp; go_big_quiet_on
                go_big_quiet_want; (refine quiet_val ?_ ?_ ?_; rotate_left; (intro w; go_simp; rfl); go_simp; go_big_quiet_on)
                go_big_quiet_want; (refine quiet_val ?_ ?_ ?_; rotate_left; (intro w; go_simp; rfl); go_simp; go_big_quiet_on)
                go_big_quiet_want; (refine quiet_val ?_ ?_ ?_; rotate_left; (intro w; go_simp; rfl); go_simp; go_big_quiet_on)
                go_big_quiet_want; refine quiet_ld _ rfl (v := .agg A2) (ad := ⟨g13, 20, none⟩) rfl (fun w' h => by rw [HC4.out]; exact load24m_run (h.2.1.drow HXA.out) HL4.out.2.1) ?_; go_simp; go_big_quiet_on
                go_big_quiet_want; (refine quiet_val ?_ ?_ ?_; rotate_left; (intro w; go_simp; rfl); go_simp; go_big_quiet_on)
                go_big_quiet_want; refine quiet_ld _ rfl (v := .agg A2) (ad := ⟨g7, 20, none⟩) rfl (fun w' h => by rw [HC2.out]; exact load24m_run (h.2.2.drow HQA.out) HL4.out.2.2.2) ?_; go_simp; go_big_quiet_on
                go_big_quiet_want; refine quiet_ne24 _ _ rfl A2 A2 rfl rfl true HE2.out ?_; go_simp; go_big_quiet_on
                go_big_quiet_want; (refine quiet_val ?_ ?_ ?_; rotate_left; (intro w; go_simp; rfl); go_simp; go_big_quiet_on)
                go_big_quiet_want; (refine quiet_val ?_ ?_ ?_; rotate_left; (intro w; go_simp; rfl); go_simp; go_big_quiet_on)
                go_big_quiet_want; (refine quiet_val ?_ ?_ ?_; rotate_left; (intro w; go_simp; rfl); go_simp; go_big_quiet_on)
                go_big_quiet_want; refine quiet_ld _ rfl (ad := ⟨g13, 37, none⟩) rfl (fun w' h => ld3 (by have := (h.2.1.cells HXA.out).proto; rw [HPI.out.proto] at this; exact this)) ?_; go_simp; go_big_quiet_on
                go_big_quiet_want; (refine quiet_val ?_ ?_ ?_; rotate_left; (intro w; go_simp; rfl); go_simp; go_big_quiet_on)
                go_big_quiet_want; refine quiet_ld _ rfl (ad := ⟨g7, 37, none⟩) rfl (fun w' h => ld3 (h.2.2.cells HQA.out).proto) ?_; go_simp; go_big_quiet_on
                go_big_quiet_want; (refine quiet_val ?_ ?_ ?_; rotate_left; (intro w; go_simp; rfl); go_simp; go_big_quiet_on)
                go_big_quiet_want; (refine quiet_val ?_ ?_ ?_; rotate_left; (intro w; go_simp; rfl); go_simp; go_big_quiet_on)
                go_big_quiet_want; (refine quiet_val ?_ ?_ ?_; rotate_left; (intro w; go_simp; rfl); go_simp; go_big_quiet_on)
                go_big_quiet_want; (refine quiet_val ?_ ?_ ?_; rotate_left; (intro w; go_simp; rfl); go_simp; go_big_quiet_on)
                go_big_quiet_want; refine quiet_ld _ rfl (ad := ⟨g13, 38, none⟩) rfl (fun w' h => ld3 (by have := (h.2.1.cells HXA.out).ttl; rw [HPI.out.ttl] at this; exact this)) ?_; go_simp; go_big_quiet_on
                go_big_quiet_want; (refine quiet_val ?_ ?_ ?_; rotate_left; (intro w; go_simp; rfl); go_simp; go_big_quiet_on)
                go_big_quiet_want; refine quiet_ld _ rfl (ad := ⟨g7, 38, none⟩) rfl (fun w' h => ld3 (h.2.2.cells HQA.out).ttl) ?_; go_simp; go_big_quiet_on
                go_big_quiet_want; (refine quiet_val ?_ ?_ ?_; rotate_left; (intro w; go_simp; rfl); go_simp; go_big_quiet_on)
                go_big_quiet_want; (refine quiet_val ?_ ?_ ?_; rotate_left; (intro w; go_simp; rfl); go_simp; go_big_quiet_on)
                go_big_quiet_want; (refine quiet_val ?_ ?_ ?_; rotate_left; (intro w; go_simp; rfl); go_simp; go_big_quiet_on)
                go_big_quiet_want; (refine quiet_val ?_ ?_ ?_; rotate_left; (intro w; go_simp; rfl); go_simp; go_big_quiet_on)
                go_big_quiet_want; refine quiet_ld _ rfl (ad := ⟨g13, 1, none⟩) rfl (fun w' h => ld3 (by have := (h.2.1.cells HXA.out).tos; rw [HPI.out.tos] at this; exact this)) ?_; go_simp; go_big_quiet_on
                go_big_quiet_want; (refine quiet_val ?_ ?_ ?_; rotate_left; (intro w; go_simp; rfl); go_simp; go_big_quiet_on)
                go_big_quiet_want; refine quiet_ld _ rfl (ad := ⟨g7, 1, none⟩) rfl (fun w' h => ld3 (h.2.2.cells HQA.out).tos) ?_; go_simp; go_big_quiet_on
                go_big_quiet_want; (refine quiet_val ?_ ?_ ?_; rotate_left; (intro w; go_simp; rfl); go_simp; go_big_quiet_on)
                go_big_quiet_want; (refine quiet_val ?_ ?_ ?_; rotate_left; (intro w; go_simp; rfl); go_simp; go_big_quiet_on)
                refine wpQuiet_nil ?_
                intro V hV
                have HZV := Lib.hid hV
                clear hV
                go_wp2_with fail
                go_meet
                exact ⟨rfl, HZV.out⟩
              · have HMORE : Hid (xp.more = false) := by show _ = _; rw [HMK.out, decide_eq_false hmc]
                have d3 : decide ((k : Int) + 1 < (xs.length : Int)) = false := by simp; omega
                go_wp2_with fail
                refine wp_region_cls (C := fun w' => Away [] v2 w' ∧ BoxP w' g13 xp xo' (.slice da s dc) ∧ BoxP w' g7 q qo (.slice qa q.d.length qc)) (by kernel_rfl) (by kernel_rfl) HC.out ?_
                go_big_quiet_want; refine quiet_ld _ rfl (ad := ⟨g13, 0, none⟩) rfl (fun w' h => load28_run h.2.1 HXA.out) ?_; go_simp; go_big_quiet_on
                go_big_quiet_want; refine quiet_call 17 #[.agg (csP xp xo' (.slice da s dc))] (.bool true) ?_ KR.out ?_
                · intro w; go_simp; all_goals (with_reducible rfl)
                go_simp; go_big_quiet_on
                go_big_quiet_want; (refine quiet_val ?_ ?_ ?_; rotate_left; (intro w; go_simp; rfl); go_simp; go_big_quiet_on)
                go_big_quiet_want; (refine quiet_val ?_ ?_ ?_; rotate_left; (intro w; go_simp; rfl); go_simp; go_big_quiet_on)
                go_big_quiet_want; refine quiet_ld _ rfl (ad := ⟨g13, 0, none⟩) rfl (fun w' h => load28_run h.2.1 HXA.out) ?_; go_simp; go_big_quiet_on
                go_big_quiet_want; refine quiet_call 16 #[.agg (csP xp xo' (.slice da s dc))] (.int .i64 (Lx : Int)) ?_ KG.out ?_
                · intro w; go_simp; all_goals (with_reducible rfl)
                go_simp; go_big_quiet_on
                go_big_quiet_want; (refine quiet_val ?_ ?_ ?_; rotate_left; (intro w; go_simp; rfl); go_simp; go_big_quiet_on)
                go_big_quiet_want; (refine quiet_val ?_ ?_ ?_; rotate_left; (intro w; go_simp; rfl); go_simp; go_big_quiet_on)
                go_big_quiet_want; (refine quiet_val ?_ ?_ ?_; rotate_left; (intro w; go_simp; rfl); go_simp; go_big_quiet_on)
                go_big_quiet_want; (refine quiet_val ?_ ?_ ?_; rotate_left; (intro w; go_simp; rfl); go_simp; go_big_quiet_on)
                go_big_quiet_want; (refine quiet_val ?_ ?_ ?_; rotate_left; (intro w; go_simp; rfl); go_simp; go_big_quiet_on)
                go_big_quiet_want; refine quiet_ld _ rfl (ad := ⟨g13, 43, none⟩) rfl (fun w' h => ld3 (by have := (h.2.1.cells HXA.out).off; rw [HPI.out.off] at this; exact this)) ?_; go_simp; go_big_quiet_on
                go_big_quiet_want; (refine quiet_val ?_ ?_ ?_; rotate_left; (intro w; go_simp; rfl); go_simp; go_big_quiet_on)
                go_big_quiet_want; (refine quiet_val ?_ ?_ ?_; rotate_left; (intro w; go_simp; rfl); go_simp; go_big_quiet_on)
                go_big_quiet_want; (refine quiet_val ?_ ?_ ?_; rotate_left; (intro w; go_simp; rfl); go_simp; go_big_quiet_on)
                go_big_quiet_want; (refine quiet_val ?_ ?_ ?_; rotate_left; (intro w; go_simp; rfl); go_simp; go_big_quiet_on)
                go_big_quiet_want; (refine quiet_val ?_ ?_ ?_; rotate_left; (intro w; go_simp; rfl); go_simp; go_big_quiet_on)
                go_big_quiet_want; (refine quiet_val ?_ ?_ ?_; rotate_left; (intro w; go_simp; rfl); go_simp; go_big_quiet_on)
                go_big_quiet_want; (refine quiet_val ?_ ?_ ?_; rotate_left; (intro w; go_simp; rfl); go_simp; go_big_quiet_on)
                go_big_quiet_want; (refine quiet_val ?_ ?_ ?_; rotate_left; (intro w; go_simp; rfl); go_simp; go_big_quiet_on)
                go_big_quiet_want; refine quiet_ld _ rfl (ad := ⟨g7, 45, none⟩) rfl (fun w' h => ld26 (h.2.2.cells HQA.out).d) ?_; go_simp; go_big_quiet_on
                go_big_quiet_want; (refine quiet_val ?_ ?_ ?_; rotate_left; (intro w; go_simp; rfl); go_simp; go_big_quiet_on)
                go_big_quiet_want; (refine quiet_val ?_ ?_ ?_; rotate_left; (intro w; go_simp; rfl); go_simp; go_big_quiet_on)
                go_big_quiet_want; (refine quiet_val ?_ ?_ ?_; rotate_left; (intro w; go_simp; rfl); go_simp; go_big_quiet_on)
                go_big_quiet_want; (refine quiet_val ?_ ?_ ?_; rotate_left; (intro w; go_simp; rfl); go_simp; go_big_quiet_on)
                go_big_quiet_want; (refine quiet_val ?_ ?_ ?_; rotate_left; (intro w; go_simp; rfl); go_simp; go_big_quiet_on)
                go_big_quiet_want; refine quiet_ld _ rfl (ad := ⟨g13, 45, none⟩) rfl (fun w' h => ld26 (h.2.1.cells HXA.out).d) ?_; go_simp; go_big_quiet_on
                go_big_quiet_want; (refine quiet_val ?_ ?_ ?_; rotate_left; (intro w; go_simp; rfl); go_simp; go_big_quiet_on)
                go_big_quiet_want; refine quiet_ld _ rfl (ad := ⟨g7, 45, none⟩) rfl (fun w' h => ld26 (h.2.2.cells HQA.out).d) ?_; go_simp; go_big_quiet_on
                go_big_quiet_want; (refine quiet_val ?_ ?_ ?_; rotate_left; (intro w; go_simp; rfl); go_simp; go_big_quiet_on)
                go_big_quiet_want; (refine quiet_val ?_ ?_ ?_; rotate_left; (intro w; go_simp; rfl); go_simp; go_big_quiet_on)
                go_big_quiet_want; (refine quiet_val ?_ ?_ ?_; rotate_left; (intro w; go_simp; rfl); go_simp; go_big_quiet_on)
                go_big_quiet_want; (refine quiet_val ?_ ?_ ?_; rotate_left; (intro w; go_simp; rfl); go_simp; go_big_quiet_on)
                go_big_quiet_want; refine quiet_slh _ _ _ rfl rfl rfl rfl HS9.out ?_; go_simp; go_big_quiet_on
                go_big_quiet_want; refine quiet_call 19 #[.slice da s dc, .slice A s (qc - n)] (.bool true) ?_ KS.out ?_
                · intro w; go_simp; all_goals (with_reducible rfl)
                go_simp; go_big_quiet_on
                go_big_quiet_want; (refine quiet_val ?_ ?_ ?_; rotate_left; (intro w; go_simp; rfl); go_simp; go_big_quiet_on)
                go_big_quiet_want; (refine quiet_val ?_ ?_ ?_; rotate_left; (intro w; go_simp; rfl); go_simp; go_big_quiet_on)
                go_big_quiet_want; (refine quiet_val ?_ ?_ ?_; rotate_left; (intro w; go_simp; rfl); go_simp; go_big_quiet_on)
                go_big_quiet_want; (refine quiet_val ?_ ?_ ?_; rotate_left; (intro w; go_simp; rfl); go_simp; go_big_quiet_on)
                go_big_quiet_want; refine quiet_ld _ rfl (ad := ⟨g13, 41, none⟩) rfl (fun w' h => ld4 (by have := (h.2.1.cells HXA.out).more; rw [HMORE.out] at this; exact this)) ?_; go_simp; go_big_quiet_on
                go_big_quiet_want; (refine quiet_val ?_ ?_ ?_; rotate_left; (intro w; go_simp; rfl); go_simp; go_big_quiet_on)
                go_big_quiet_want; (refine quiet_val ?_ ?_ ?_; rotate_left; (intro w; go_simp; rfl); go_simp; go_big_quiet_on)
                go_big_quiet_want; (refine quiet_val ?_ ?_ ?_; rotate_left; (intro w; go_simp; rfl); go_simp; go_big_quiet_on)
                go_big_quiet_want; (refine quiet_val ?_ ?_ ?_; rotate_left; (intro w; go_simp; rfl); go_simp; go_big_quiet_on)
                go_big_quiet_want; (refine quiet_val ?_ ?_ ?_; rotate_left; (intro w; go_simp; rfl); go_simp; go_big_quiet_on)
                go_big_quiet_want; (refine quiet_val ?_ ?_ ?_; rotate_left; (intro w; go_simp; rfl); go_simp; go_big_quiet_on)
                go_big_quiet_want; (refine quiet_val ?_ ?_ ?_; rotate_left; (intro w; go_simp; rfl); go_simp; go_big_quiet_on)
                go_big_quiet_want; (refine quiet_val ?_ ?_ ?_; rotate_left; (intro w; go_simp; rfl); go_simp; go_big_quiet_on)
                go_big_quiet_want; (refine quiet_val ?_ ?_ ?_; rotate_left; (intro w; go_simp; rfl); go_simp; go_big_quiet_on)
                go_big_quiet_want; refine quiet_ld _ rfl (v := .agg A1) (ad := ⟨g13, 3, none⟩) rfl (fun w' h => by rw [HC3.out]; exact load24m_run h.2.1.srow HL4.out.1) ?_; go_simp; go_big_quiet_on
                go_big_quiet_want; (refine quiet_val ?_ ?_ ?_; rotate_left; (intro w; go_simp; rfl); go_simp; go_big_quiet_on)
                go_big_quiet_want; refine quiet_ld _ rfl (v := .agg A1) (ad := ⟨g7, 3, none⟩) rfl (fun w' h => by rw [HC1.out]; exact load24m_run h.2.2.srow HL4.out.2.2.1) ?_; go_simp; go_big_quiet_on
                go_big_quiet_want; refine quiet_ne24 _ _ rfl A1 A1 rfl rfl true HE1.out ?_; go_simp; go_big_quiet_on
                go_big_quiet_want; (refine quiet_val ?_ ?_ ?_; rotate_left; (intro w; go_simp; rfl); go_simp; go_big_quiet_on)
                go_big_quiet_want; (refine quiet_val ?_ ?_ ?_; rotate_left; (intro w; go_simp; rfl); go_simp; go_big_quiet_on)
                go_big_quiet_want; (refine quiet_val ?_ ?_ ?_; rotate_left; (intro w; go_simp; rfl); go_simp; go_big_quiet_on)
                go_big_quiet_want; refine quiet_ld _ rfl (v := .agg A2) (ad := ⟨g13, 20, none⟩) rfl (fun w' h => by rw [HC4.out]; exact load24m_run (h.2.1.drow HXA.out) HL4.out.2.1) ?_; go_simp; go_big_quiet_on
                go_big_quiet_want; (refine quiet_val ?_ ?_ ?_; rotate_left; (intro w; go_simp; rfl); go_simp; go_big_quiet_on)
                go_big_quiet_want; refine quiet_ld _ rfl (v := .agg A2) (ad := ⟨g7, 20, none⟩) rfl (fun w' h => by rw [HC2.out]; exact load24m_run (h.2.2.drow HQA.out) HL4.out.2.2.2) ?_; go_simp; go_big_quiet_on
                go_big_quiet_want; refine quiet_ne24 _ _ rfl A2 A2 rfl rfl true HE2.out ?_; go_simp; go_big_quiet_on
                go_big_quiet_want; (refine quiet_val ?_ ?_ ?_; rotate_left; (intro w; go_simp; rfl); go_simp; go_big_quiet_on)
                go_big_quiet_want; (refine quiet_val ?_ ?_ ?_; rotate_left; (intro w; go_simp; rfl); go_simp; go_big_quiet_on)
                go_big_quiet_want; (refine quiet_val ?_ ?_ ?_; rotate_left; (intro w; go_simp; rfl); go_simp; go_big_quiet_on)
                go_big_quiet_want; refine quiet_ld _ rfl (ad := ⟨g13, 37, none⟩) rfl (fun w' h => ld3 (by have := (h.2.1.cells HXA.out).proto; rw [HPI.out.proto] at this; exact this)) ?_; go_simp; go_big_quiet_on
                go_big_quiet_want; (refine quiet_val ?_ ?_ ?_; rotate_left; (intro w; go_simp; rfl); go_simp; go_big_quiet_on)
                go_big_quiet_want; refine quiet_ld _ rfl (ad := ⟨g7, 37, none⟩) rfl (fun w' h => ld3 (h.2.2.cells HQA.out).proto) ?_; go_simp; go_big_quiet_on
                go_big_quiet_want; (refine quiet_val ?_ ?_ ?_; rotate_left; (intro w; go_simp; rfl); go_simp; go_big_quiet_on)
                go_big_quiet_want; (refine quiet_val ?_ ?_ ?_; rotate_left; (intro w; go_simp; rfl); go_simp; go_big_quiet_on)
                go_big_quiet_want; (refine quiet_val ?_ ?_ ?_; rotate_left; (intro w; go_simp; rfl); go_simp; go_big_quiet_on)
                go_big_quiet_want; (refine quiet_val ?_ ?_ ?_; rotate_left; (intro w; go_simp; rfl); go_simp; go_big_quiet_on)
                go_big_quiet_want; refine quiet_ld _ rfl (ad := ⟨g13, 38, none⟩) rfl (fun w' h => ld3 (by have := (h.2.1.cells HXA.out).ttl; rw [HPI.out.ttl] at this; exact this)) ?_; go_simp; go_big_quiet_on
                go_big_quiet_want; (refine quiet_val ?_ ?_ ?_; rotate_left; (intro w; go_simp; rfl); go_simp; go_big_quiet_on)
                go_big_quiet_want; refine quiet_ld _ rfl (ad := ⟨g7, 38, none⟩) rfl (fun w' h => ld3 (h.2.2.cells HQA.out).ttl) ?_; go_simp; go_big_quiet_on
                go_big_quiet_want; (refine quiet_val ?_ ?_ ?_; rotate_left; (intro w; go_simp; rfl); go_simp; go_big_quiet_on)
                go_big_quiet_want; (refine quiet_val ?_ ?_ ?_; rotate_left; (intro w; go_simp; rfl); go_simp; go_big_quiet_on)
                go_big_quiet_want; (refine quiet_val ?_ ?_ ?_; rotate_left; (intro w; go_simp; rfl); go_simp; go_big_quiet_on)
                go_big_quiet_want; (refine quiet_val ?_ ?_ ?_; rotate_left; (intro w; go_simp; rfl); go_simp; go_big_quiet_on)
                go_big_quiet_want; refine quiet_ld _ rfl (ad := ⟨g13, 1, none⟩) rfl (fun w' h => ld3 (by have := (h.2.1.cells HXA.out).tos; rw [HPI.out.tos] at this; exact this)) ?_; go_simp; go_big_quiet_on
                go_big_quiet_want; (refine quiet_val ?_ ?_ ?_; rotate_left; (intro w; go_simp; rfl); go_simp; go_big_quiet_on)
                go_big_quiet_want; refine quiet_ld _ rfl (ad := ⟨g7, 1, none⟩) rfl (fun w' h => ld3 (h.2.2.cells HQA.out).tos) ?_; go_simp; go_big_quiet_on
                go_big_quiet_want; (refine quiet_val ?_ ?_ ?_; rotate_left; (intro w; go_simp; rfl); go_simp; go_big_quiet_on)
                go_big_quiet_want; (refine quiet_val ?_ ?_ ?_; rotate_left; (intro w; go_simp; rfl); go_simp; go_big_quiet_on)
                refine wpQuiet_nil ?_
                intro V hV
                have HZV := Lib.hid hV
                clear hV
                go_wp2_with fail
                go_meet
                exact ⟨rfl, HZV.out⟩
          case rest =>
          obtain ⟨rfl, hcA, hcX, hcQ⟩ := hcut
          have HB13V := Lib.hid hcX
          have HBqV := Lib.hid hcQ
          have HV2 := Lib.hid hcA
          have HAWV := Lib.hid (HAW.out.on hcA)
          clear hcA hcX hcQ KR KS KG HC x_d0 hwr hwk d1 d2
          have cx := HB13V.out.cells HXA.out
          have cq := HBqV.out.cells HQA.out
          have x_more := cx.more; have x_id := cx.id; have x_frag := cx.frag; have x_flow := cx.flow
          have q_v := cq.v; have q_id := cq.id; have q_flow := cq.flow
          have z45 := HAWV.out.cell (by simp) H45.out
          clear cx cq
          obtain ⟨mo, hmo⟩ : ∃ mo, mo = xp.more := ⟨_, rfl⟩
          have HMO := Lib.hid hmo
          rw [← hmo] at x_more
          clear hmo
          cases mo
          · rcases HQV.out with hq6 | hq6
            · have HQ6 := Lib.hid hq6
              rw [hq6] at q_v
              rw [HPI.out.id4 (by omega)] at x_id
              clear hq6
              go_wp2_with fail
              go_roundw
              case rel => exact ⟨n + s, k + 1, fu, latP q id, by push_cast; rfl, by go_num, by omega, HPI.out.n8, by omega, HU.out.lat HW.out h0 h1, fun hv => by unfold latP fstP; rw [if_pos hv], by omega, HRS.out, HAWV.out⟩
              case measure => simp [intOf]; omega
            · have HQ6 := Lib.hid hq6
              rw [hq6] at q_v
              rw [(HPI.out.six hq6).2.2.1, HFID.out hq6] at x_id
              rw [(HPI.out.six hq6).1] at x_frag
              rw [(HPI.out.six hq6).2.1] at x_flow
              have h6 : (s : Int) ≤ (s0 : Int) := by have h1 := (HPI.out.six hq6).2.2.2; rw [HS06.out hq6] at h1; exact h1
              have h6b : decide ((s0 : Int) < (s : Int)) = false := by simp; omega
              have h6c : decide (s0 < s) = false := by simp; omega
              have h6d : ¬ s0 < s := by omega
              clear hq6
              go_wp2_with fail
              go_roundw
              case rel => exact ⟨n + s, k + 1, fu, latP q id, by push_cast; rfl, by go_num, by omega, HPI.out.n8, by omega, HU.out.lat HW.out h0 h1, fun hv => by unfold latP fstP; rw [if_pos hv], by omega, HRS.out, HAWV.out⟩
              case measure => simp [intOf]; omega
          · rcases HQV.out with hq6 | hq6
            · have HQ6 := Lib.hid hq6
              rw [hq6] at q_v
              rw [HPI.out.id4 (by omega)] at x_id
              clear hq6
              have htd : decide ((Lx : Int) + 8 ≤ m) = false := by have := HLT.out HMO.out.symm; simp; omega
              go_wp2_with (refine wpList_load28 rfl _ rfl g13 rfl xp _ _ (by exact HB13V.out) HXA.out ?_)
              refine (KG0.out _ HV2.out).mono ?_
              rintro E v5 ⟨rfl, haw⟩
              have c5 := (HB13V.out.on haw).cells HXA.out
              have e5 := (HBqV.out.on haw).cells HQA.out
              clear x_more x_id x_frag x_flow q_v q_id q_flow
              have x_id := c5.id; have x_frag := c5.frag; have x_flow := c5.flow; have q_v := e5.v; have q_id := e5.id; have q_flow := e5.flow
              rw [HQ6.out] at q_v
              rw [HPI.out.id4 (by rw [HQ6.out]; decide)] at x_id
              have z46 := haw.cell (by simp) z45
              replace HAWV := Lib.hid (HAWV.out.on haw)
              clear c5 e5 haw z45
              go_wp2_with fail
              go_roundw
              case rel => exact ⟨n + s, k + 1, fu, latP q id, by push_cast; rfl, by go_num, by omega, HPI.out.n8, by omega, HU.out.lat HW.out h0 h1, fun hv => by unfold latP fstP; rw [if_pos hv], by omega, HRS.out, HAWV.out⟩
              case measure => simp [intOf]; omega
            · have HQ6 := Lib.hid hq6
              rw [hq6] at q_v
              rw [(HPI.out.six hq6).2.2.1, HFID.out hq6] at x_id
              rw [(HPI.out.six hq6).1] at x_frag
              rw [(HPI.out.six hq6).2.1] at x_flow
              have h6 : (s : Int) ≤ (s0 : Int) := by have h1 := (HPI.out.six hq6).2.2.2; rw [HS06.out hq6] at h1; exact h1
              have h6b : decide ((s0 : Int) < (s : Int)) = false := by simp; omega
              have h6c : decide (s0 < s) = false := by simp; omega
              have h6d : ¬ s0 < s := by omega
              clear hq6
              have htd : decide ((Lx : Int) + 8 ≤ m) = false := by have := HLT.out HMO.out.symm; simp; omega
              go_wp2_with (refine wpList_load28 rfl _ rfl g13 rfl xp _ _ (by exact HB13V.out) HXA.out ?_)
              refine (KG0.out _ HV2.out).mono ?_
              rintro E v5 ⟨rfl, haw⟩
              have c5 := (HB13V.out.on haw).cells HXA.out
              have e5 := (HBqV.out.on haw).cells HQA.out
              clear x_more x_id x_frag x_flow q_v q_id q_flow
              have x_id := c5.id; have x_frag := c5.frag; have x_flow := c5.flow; have q_v := e5.v; have q_id := e5.id; have q_flow := e5.flow
              rw [HQ6.out] at q_v
              rw [(HPI.out.six HQ6.out).2.2.1, HFID.out HQ6.out] at x_id
              rw [(HPI.out.six HQ6.out).1] at x_frag
              rw [(HPI.out.six HQ6.out).2.1] at x_flow
              have z46 := haw.cell (by simp) z45
              replace HAWV := Lib.hid (HAWV.out.on haw)
              clear c5 e5 haw z45
              go_wp2_with fail
              go_roundw
              case rel => exact ⟨n + s, k + 1, fu, latP q id, by push_cast; rfl, by go_num, by omega, HPI.out.n8, by omega, HU.out.lat HW.out h0 h1, fun hv => by unfold latP fstP; rw [if_pos hv], by omega, HRS.out, HAWV.out⟩
              case measure => simp [intOf]; omega
        · obtain rfl : k = xs.length := by omega
          have hnn : n = q.d.length := by
            have h2 := pcs_empty (p := q) (m := m) (lat := latP q id) (f := f) (k := fuel) (n := n) hfu
            rw [← HDR.out, List.drop_length] at h2
            simp at h2; omega
          subst hnn
          obtain ⟨qa, qc, hqd, -, -, -⟩ := HQ.out.d
          subst hqd
          have c45 := ((HB.out.on HAW.out).cells HQA.out).d
          have HE := Lib.hid (HA.out.on HAW.out)
          go_wp2_with fail
          go_ret
          exact ⟨by simp, HE.out.to_below⟩
end cutFits
namespace cutFits
theorem contract (H : Type) (enc : TypeId × Value → H) (W : World) (base : Nat) (args : Array Value) (ds gs : List (DataW H)) (before : List MemPlace)
    (hval0 : ∀ (j : Nat) t v, Tryd.f5.params[j]? = some t → args[j]? = some v → Value.okWide Tryd.prog W .any base t v)
    (hW : DataW.Whole enc Tryd.prog Tryd.f5.params.toList Rows.cutFitsSpec.vars false W args.toList ds gs before)
    (hsz0 : (DataW.weightsEach Tryd.prog (Tryd.f5.params.toList ++ Rows.cutFitsSpec.plain.varTypes Tryd.prog) (ds ++ gs)).all (· ≤ reachBytes) = true)
    (hL : laidMetH Tryd.prog Rows.cutFitsRow.laid W) :
    Calls Tryd.prog 5 args W fun e W' => ∃ v, e = .returned v ∧ Rows.cutFitsSpec.post enc Tryd.prog Tryd.f5 false true false false W args v W' := by
  have hval := hval0
  have hsz := hsz0
  have hW' := hW
  obtain ⟨p, q, hA0, hV, rfl, hfz, hnd⟩ := hW
  have hA : DataW.TrodAll enc Tryd.prog W 0 (fun _ => true) true Tryd.f5.params.toList args.toList ds p := hA0
  rw [Tryd.params5] at hA hval hsz
  obtain ⟨v0, vs0, d0, ds0, p0, q0, hargs, rfl, rfl, h0, r0⟩ := trodAll_cons hA
  obtain ⟨v1, vs1, d1, ds1, p1, q1, rfl, rfl, rfl, h1, r1⟩ := trodAll_cons r0
  obtain ⟨v2, vs2, d2, ds2, p2, q2, rfl, rfl, rfl, h2, r2⟩ := trodAll_cons r1
  obtain ⟨rfl, rfl, rfl⟩ := trodAll_nil r2
  obtain rfl : args = #[v0, v1, v2] := by cases args; simp_all
  obtain ⟨rfl, rfl⟩ := trodVars_none hV
  have k0 := h0
  have lt0 : ∀ x ∈ p0, x.block < W.heap.size := by obtain ⟨m, hm⟩ := k0; exact DataW.trod_lt m _ _ _ hm
  have z0 : ∀ m ∈ d0.weights Tryd.prog 28, m ≤ reachBytes := fun m hm => by
    have := List.all_eq_true.1 hsz m (DataW.weights_mem_each (j := 0) (t := 28) rfl rfl m hm)
    simpa using this
  obtain ⟨x0, ov0, dv0, rfl, w0, ol0, dl0⟩ := open_pkt (hval 0 28 v0 rfl rfl) h0 z0
  obtain ⟨a1, rfl, rfl, rfl, w1⟩ := open_int Tryd.underlying3 (hval 1 3 v1 rfl rfl) h1
  obtain ⟨a2, rfl, rfl, rfl, w2⟩ := open_int Tryd.underlying25 (hval 2 25 v2 rfl rfl) h2
  clear hA0 hval0
  refine (walk x0 ov0 dv0 a1 a2 W (glob_of hL) w0 ol0 dl0 w1 (wf32 w2).1 (wf32 w2).2).mono fun e W' ⟨he, bel⟩ => ?_
  subst he
  exact ⟨_, rfl, _, _, _, [], _, [], hW', trodAll_mk1 (shut_bool Tryd.underlying4 _), (trodAll_cons_mk (Below.trod laidOut (by kernel_rfl) (of_decide_eq_true (by kernel_rfl)) k0 bel lt0) (trodAll_cons_mk (shut_int Tryd.underlying3 w1) (trodAll_cons_mk (shut_int Tryd.underlying25 w2) trodAll_mk0))), rfl, bel.frame _, fun h => by cases h⟩
theorem laid_met (os : Os) : laidMet Tryd.prog Rows.cutFitsRow.laid ((laidWorld Tryd.prog os).forCall (fun _ _ => 0) ⟨#[], #[.agg (csP zeroPk (.slice none 0 0) (.slice none 0 0)), .int .i64 0, .int .u32 0], []⟩).memory :=
  laidMet_of_run' 8 (by kernel_rfl) (by kernel_rfl)
theorem reads (os : Os) {H : Type} (enc : TypeId × Value → H) : ∃ places, DataW.whole enc Tryd.prog ((laidWorld Tryd.prog os).forCall (fun _ _ => 0) ⟨#[], #[.agg (csP zeroPk (.slice none 0 0) (.slice none 0 0)), .int .i64 0, .int .u32 0], []⟩).memory Tryd.f5.params.toList Rows.cutFitsSpec.vars false #[.agg (csP zeroPk (.slice none 0 0) (.slice none 0 0)), .int .i64 0, .int .u32 0].toList 8 = some ([.agg [.lit (.int .i64 0), .lit (.int .i64 0), .lit (.int .i64 0), .agg [.lit (.int .i64 0), .agg [.lit (.int .u8 0), .lit (.int .u8 0), .lit (.int .u8 0), .lit (.int .u8 0), .lit (.int .u8 0), .lit (.int .u8 0), .lit (.int .u8 0), .lit (.int .u8 0), .lit (.int .u8 0), .lit (.int .u8 0), .lit (.int .u8 0), .lit (.int .u8 0), .lit (.int .u8 0), .lit (.int .u8 0), .lit (.int .u8 0), .lit (.int .u8 0)]], .agg [.lit (.int .i64 0), .agg [.lit (.int .u8 0), .lit (.int .u8 0), .lit (.int .u8 0), .lit (.int .u8 0), .lit (.int .u8 0), .lit (.int .u8 0), .lit (.int .u8 0), .lit (.int .u8 0), .lit (.int .u8 0), .lit (.int .u8 0), .lit (.int .u8 0), .lit (.int .u8 0), .lit (.int .u8 0), .lit (.int .u8 0), .lit (.int .u8 0), .lit (.int .u8 0)]], .lit (.int .i64 0), .lit (.int .i64 0), .lit (.int .u32 0), .lit (.bool false), .lit (.bool false), .lit (.bool false), .lit (.int .i64 0), .nil, .nil], .lit (.int .i64 0), .lit (.int .u32 0)], [], places) :=
  ⟨[], by kernel_rfl⟩
theorem lifted (os : Os) (started : os.Started) (H : Type) (enc : TypeId × Value → H) (F : Stop.Interp) :
    ReturnsInHanded {} Tryd.checked os 5 .any ((OpenSpec.ofChange Rows.cutFitsSpec).preRow enc Tryd.prog Tryd.f5 Rows.cutFitsRow.domain false Rows.cutFitsRow.laid) (((OpenSpec.ofChange Rows.cutFitsSpec).at F).post enc Tryd.prog Tryd.f5 false true false false) := by
  obtain ⟨places, hx⟩ := reads os enc
  refine returnsInHanded_of_row (C := Tryd.checked) (s := OpenSpec.ofChange Rows.cutFitsSpec) ownKn started (by kernel_rfl) Tryd.func5
    (witness_row_at (enc := enc) (C := Tryd.checked) false (laidWorld Tryd.prog os) #[.agg (csP zeroPk (.slice none 0 0) (.slice none 0 0)), .int .i64 0, .int .u32 0] rfl (by kernel_rfl) (by kernel_rfl) (by kernel_rfl)
      (OpenSpec.preRow_of_cond 8 hx (by kernel_rfl) (fun k hk => by cases hk) (by kernel_rfl) (laid_met os))) ?_
  intro W base args ds gs before hval hW _ hcond hsz hL hS _
  exact contract H enc W base args ds gs before hval hW hsz hL
theorem said : Rows.CutFitsSaid :=
  OpenClaim.holds_of_cond 5 Tryd.f5 rfl rfl rfl rfl rfl rfl rfl ⟨rfl, rfl, rfl, rfl, rfl⟩ rfl rfl rfl rfl rfl (by kernel_rfl) Tryd.func5 (by kernel_rfl)
    (of_decide_eq_true (by kernel_rfl)) (by unfold Func.isWrapper; first | (rw [if_pos (by decide +kernel)]; kernel_rfl) | (rw [if_neg (by decide +kernel)]; exact ⟨rfl, rfl⟩))
    (fun os started H enc _ F => by rw [OpenClaim.pre_eq_preRow]; exact lifted os started H enc F)
theorem plain (f : FuncId) (fn : Func) (hf : Tryd.pinned.checked.prog.funcNamed "mosaic/mosaiclaw10.CutFits" = some f) (hfn : Tryd.pinned.checked.prog.funcs[f]? = some fn) :
    false = Tryd.pinned.checked.prog.looks [] ∧ ∀ (j : Nat) t, fn.params[j]? = some t → Tryd.pinned.checked.prog.wantsStandIn t = false := by
  obtain rfl : f = 5 := Option.some.inj ((show Tryd.prog.funcNamed "mosaic/mosaiclaw10.CutFits" = some 5 by kernel_rfl).symm.trans hf) |>.symm
  obtain rfl : fn = Tryd.f5 := (Option.some.inj (Tryd.func5.symm.trans hfn)).symm
  refine ⟨by kernel_rfl, fun j t ht => ?_⟩
  rw [Tryd.params5] at ht
  have hm := Array.mem_of_getElem? ht
  simp only [List.mem_toArray, List.mem_cons, List.not_mem_nil, or_false] at hm
  have h28 : Tryd.prog.wantsStandIn 28 = false := by kernel_rfl
  have h26 : Tryd.prog.wantsStandIn 26 = false := by kernel_rfl
  have h3 : Tryd.prog.wantsStandIn 3 = false := by kernel_rfl
  have h25 : Tryd.prog.wantsStandIn 25 = false := by kernel_rfl
  rcases hm with rfl | rfl | rfl
  all_goals first | exact h28 | exact h26 | exact h3 | exact h25
theorem card : Rows.CutFitsCardSaid :=
  Claim7.holds_tied_plain_at .later [] _ _ _ _ said (fun _ h => by cases h) (by kernel_rfl) (fun _ h => by cases h) cutFits_row_tie rfl ⟨rfl, rfl⟩ (by kernel_rfl) rfl plain (by kernel_rfl)
end cutFits
theorem cutFits_holds : Rows.CutFitsCardSaid := cutFits.card
#print axioms cutFits_holds
end Go.Proofs.YtbnnfbfmomafnaaDoor
