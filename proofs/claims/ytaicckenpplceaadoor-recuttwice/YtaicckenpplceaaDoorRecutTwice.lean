/-
  RecutTwice.
-/
import Derived.Test.YtaicckenpplceaaDoorRtK
import Derived.Deep.CutBlock
import Derived.Deep.DeepCutAuto
namespace Go.Proofs.YtaicckenpplceaaDoor
open Go.ChangeShapes Go.WideShapes Go.ChangeAt Go.RowKit Go.Deep Num
set_option linter.unusedVariables false
set_option maxHeartbeats 8000000
set_option maxRecDepth 100000

namespace recutTwice
open R
theorem walk (p : Pk) (ov dv : Value) (mtu : Int) (oa : Option Addr) (on oc : Nat) (w : World) (hg : Glob w) (hp : Pkt w p ov dv) (hpl1 : p.o.length ≤ 140737488351232) (hpl2 : p.d.length ≤ 140737488351232) (hmo0 : (Lit.int .i64 mtu).wf = true) (ho : Ints w oa on) (hol : on ≤ 140737488355328) :
    Calls Tryd.prog 3 #[.agg (csP p ov dv), .int .i64 mtu, .slice oa on oc] w fun E w' => E = .returned (.bool true) ∧ Below w.heap.size w w' := by
  have HAD := Lib.hid hp.wf.ad
  have HP := Lib.hid hp; have HG := Lib.hid hg; have HO := Lib.hid ho; have HMO : Hid (i64ok mtu) := wf64 hmo0
  clear hp hg ho hmo0 hpl1 hpl2
  go_enter Tryd.func3, Tryd.ntmps3
  go_wp2_with (refine wpList_box28 rfl _ rfl p _ _ rfl ?_; refine Hid.out ?_)
  refine Lib.hid ?_
  intro g3 w1 hg4 hb haw
  have HB3 := Lib.hid hb; have HA := Lib.hid haw
  replace HP := Lib.hid (HP.out.on haw)
  replace HG := Lib.hid (HG.out.on haw)
  replace HO := Lib.hid (HO.out.on haw)
  clear hb haw hg4
  go_wp2_with (refine wpList_load28 rfl _ rfl g3 rfl p _ _ (by exact HB3.out) HAD.out ?_)
  refine (R.rightF_c p ov dv _ HP.out HG.out).mono ?_
  rintro E w2 ⟨q, qo, qd, rfl, hu, hwf, hqv, hqf, hmine, haw⟩
  have HU := Lib.hid hu; have HQW := Lib.hid hwf; have HQA := Lib.hid hwf.ad
  have HQ := Lib.hid (hmine.pkt hwf)
  have HO1 := Lib.hid hmine.o.one; have HD1 := Lib.hid hmine.d.one
  have HQV := Lib.hid hqv; have HQF := Lib.hid hqf
  replace HA := Lib.hid (HA.out.on haw)
  replace HG := Lib.hid (HG.out.on haw)
  replace HO := Lib.hid (HO.out.on haw)
  clear haw hu hwf hmine hqv hqf HP HB3 HAD
  go_wp2_with (refine wpList_new28 rfl rfl rfl _ _ rfl q qo qd (fun g => rfl) (fun g => rfl) HQA.out HO1.out HD1.out ?_; refine Hid.out ?_)
  refine Lib.hid ?_
  intro g7 w3 hg9 hb haw
  have HB := Lib.hid hb
  replace HA := Lib.hid (HA.out.on haw)
  replace HG := Lib.hid (HG.out.on haw)
  replace HO := Lib.hid (HO.out.on haw)
  replace HQ := Lib.hid (HQ.out.on haw)
  clear hb haw hg9
  obtain ⟨r0, hr0⟩ : ∃ r, r = mtu % (1500 + 1) := ⟨_, rfl⟩
  have hr1 : 0 ≤ r0 ∧ r0 ≤ 1500 := by omega
  have HMM : Hid (∀ r : Int, 0 ≤ r ∧ r ≤ 1500 → mtuP (68 + r) 4 = true) := fun r hr => by rw [mtu_iff]; simp; omega
  have KR : Hid (∀ w', Calls Tryd.prog 9 #[.int .i64 mtu, .int .i64 1500] w' fun E w'' => E = .returned (.int .i64 r0) ∧ w'' = w') := fun w' => by rw [hr0]; exact rest_c _ _ w' HMO.out (by omega) (by omega)
  clear hr0
  go_wp2_with fail
  refine (KR.out _).mono ?_
  rintro E wq ⟨rfl, hwq⟩
  replace hwq := hwq.symm
  subst hwq
  clear KR
  obtain ⟨l0, hl0, href⟩ := recut_ref2 (m := 68 + r0) HQW.out HU.out HQV.out HQF.out (HMM.out r0 hr1)
  have HREF := Lib.hid href
  have HL0 := Lib.hid hl0
  clear href hl0
  go_wp2_with (refine wpList_load28 rfl _ rfl g7 rfl q _ _ (by exact HB.out) HQA.out ?_)
  refine (recut_c q qo qd (68 + r0) _ HQ.out HG.out).mono ?_
  unfold RecOut
  rw [HL0.out]
  rintro E w4 ⟨v, xs, rfl, hcu, hxm, haw⟩
  have HXM : Hid (xs.map X.p = l0) := hxm
  have hxl : xs.length ≤ 65536 := by
    rw [← List.length_map (f := X.p), HXM.out]
    have h1 := ref_len HREF.out.ref; have h2 := rgt_off HU.out; omega
  obtain ⟨xa, xc, hxv, hx4, hx5, hxp, -⟩ := hcu.pks (by omega)
  subst hxv
  have HXP := Lib.hid hxp
  replace HA := Lib.hid (HA.out.on haw)
  replace HG := Lib.hid (HG.out.on haw)
  replace HO := Lib.hid (HO.out.on haw)
  replace HQ := Lib.hid (HQ.out.on haw)
  replace HB := Lib.hid (HB.out.on haw)
  clear haw hcu hxm hxp
  obtain ⟨n, hn⟩ : ∃ n, n = xs.length := ⟨_, rfl⟩
  rw [← hn] at hxl hx4 ⊢
  have HN := Lib.hid hn
  clear hn
  go_wp2_with fail
  refine (known_c _ HG.out).mono ?_
  rintro E w5 ⟨rfl, haw⟩
  replace HA := Lib.hid (HA.out.on haw)
  replace HG := Lib.hid (HG.out.on haw)
  replace HO := Lib.hid (HO.out.on haw)
  replace HQ := Lib.hid (HQ.out.on haw)
  replace HB := Lib.hid (HB.out.on haw)
  replace HXP := Lib.hid (HXP.out.on haw)
  clear haw
  have HIS : Hid (isR q (68 + r0) (xs.map X.p) = true) := by
    show _ = _
    rw [HXM.out]; exact HREF.out.is HQW.out HU.out HQV.out HQF.out (HMM.out r0 hr1)
  go_wp2_with (refine wpList_load28 rfl _ rfl g7 rfl q _ _ (by exact HB.out) HQA.out ?_)
  refine (R.is_c q qo qd (68 + r0) xa xs n xc _ HN.out.symm HQ.out HXP.out HG.out).mono ?_
  rw [HIS.out]
  rintro E w6 ⟨rfl, haw⟩
  replace HA := Lib.hid (HA.out.on haw)
  replace HG := Lib.hid (HG.out.on haw)
  replace HO := Lib.hid (HO.out.on haw)
  replace HQ := Lib.hid (HQ.out.on haw)
  replace HB := Lib.hid (HB.out.on haw)
  replace HXP := Lib.hid (HXP.out.on haw)
  clear haw HIS
  go_wp2_with fail
  go_loopw [10, 11, 12] (fun mv v i wr => ∃ (k : Nat) (M : Int) (cs : List X) (rs : List (Pk × List Pk)), i = .int .i64 (k : Int) ∧ k ≤ n ∧ mv = .int .i64 M ∧ 68 ≤ M ∧ M ≤ 1568 ∧ Cuts wr w6.heap.size v cs ∧ rs.map Prod.fst = (xs.take k).map X.p ∧ (∀ y ∈ rs, ∃ m, m ≤ M ∧ Ref2 y.1 m y.2) ∧ cs.map X.p = rs.flatMap Prod.snd ∧ cs.length ≤ k * 65536 ∧ Away [] w6 wr) (fun _ _ i _ => n - (intOf i).toNat)
  case atStart => exact ⟨0, 68, [], [], rfl, by omega, rfl, by omega, by omega, Cuts.nil _ _, by simp, by simp, by simp, by simp, Away.refl _ _⟩
  case round =>
    obtain ⟨k, M, cs, rs, rfl, hk, rfl, hM0, hM1, hcu, hrf, hrr, hcm, hcl, haw⟩ := hrel
    have HCU := Lib.hid hcu; have HRF := Lib.hid hrf; have HRR := Lib.hid hrr; have HCM := Lib.hid hcm; have HAW := Lib.hid haw
    clear hcu hrf hrr hcm haw
    by_cases hlt : k < n
    · obtain ⟨x, hxk, hxm⟩ := get_of (show k < xs.length by have := HN.out; omega)
      obtain ⟨xb, xo, hxa, hrx, hokx⟩ := (HXP.out.on HAW.out).at hxk
      subst hxa
      have HRX : Hid (wr.rangeAt xb (xo + k * 46) (listP x.p x.o x.d)) := hrx
      have HOK : Hid (Pkt wr x.p x.o x.d) := hokx
      have HAX := Lib.hid hokx.wf.ad
      have HKX := Lib.hid (HREF.out.ref.kin x.p (by rw [← HXM.out]; exact List.mem_map.2 ⟨x, hxm, rfl⟩))
      have HXK := Lib.hid hxk
      have HGr := Lib.hid (HG.out.on HAW.out)
      have HOr := Lib.hid (HO.out.on HAW.out)
      clear hxk hxm hrx hokx
      have HKV := Lib.hid (HKX.out.v.trans HQV.out)
      have HKF := Lib.hid (HKX.out.df.trans HQF.out)
      have i2 : 0 ≤ (k : Int) := by omega
      have i3 : (k : Int) < (n : Int) := by omega
      have i4 : ((k : Int)).toNat = k := by omega
      go_upto_if 50 with fail
      go_cut [13] (fun v wc => ∃ r1 : Int, v = .int .i64 (68 + r1) ∧ 0 ≤ r1 ∧ r1 ≤ 1500 ∧ wc = wr)
      case first =>
        as_aux_lemma =>
        by_cases hko : k < on
        · obtain ⟨ib, io, z, rfl, hcell, hz⟩ := HOr.out k hko
          have HZ := Lib.hid hz
          obtain ⟨r1, hr1'⟩ : ∃ r, r = z % (1500 + 1) := ⟨_, rfl⟩
          have hr2 : 0 ≤ r1 ∧ r1 ≤ 1500 := by omega
          have KR2 : Hid (∀ w', Calls Tryd.prog 9 #[.int .i64 z, .int .i64 1500] w' fun E w'' => E = .returned (.int .i64 r1) ∧ w'' = w') := fun w' => by rw [hr1']; exact rest_c _ _ w' HZ.out (by omega) (by omega)
          clear hr1' hz
          have i5 : (k : Int) < (on : Int) := by omega
          go_wp2_with fail
          refine (KR2.out _).mono ?_
          rintro E wq ⟨rfl, hwq⟩
          replace hwq := hwq.symm
          subst hwq
          clear KR2
          go_wp2_with fail
          go_meet
          exact ⟨r1, by go_num, hr2.1, hr2.2, rfl⟩
        · have i5 : ¬ ((k : Int) < (on : Int)) := by omega
          go_wp2_with fail
          go_meet
          exact ⟨r0, rfl, hr1.1, hr1.2, rfl⟩
      case rest =>
      obtain ⟨r1, rfl, hr2, hr3, hwc⟩ := hcut
      replace hwc := hwc.symm
      subst hwc
      have HM1 := Lib.hid (HMM.out r1 ⟨hr2, hr3⟩)
      obtain ⟨l1, hl1, hrf1⟩ := recut_ref2 (m := 68 + r1) HKX.out.wf HKX.out.r HKV.out HKF.out HM1.out
      have HL1 := Lib.hid hl1; have HRF1 := Lib.hid hrf1
      clear hl1 hrf1
      go_wp2_with (refine wpList_load28m rfl _ rfl xb (xo + k * 46) rfl x.p x.o x.d (by exact HRX.out) HAX.out ?_)
      refine (recut_c x.p x.o x.d (68 + r1) _ HOK.out HGr.out).mono ?_
      unfold RecOut
      rw [HL1.out]
      rintro E y2 ⟨mv, ms, rfl, hcu2, hxm2, haw⟩
      have HMS := Lib.hid hcu2; have HMM2 : Hid (ms.map X.p = l1) := hxm2
      have HCU2 := Lib.hid (HCU.out.on haw)
      have HAW2 := Lib.hid (HAW.out.on haw)
      replace HRX := Lib.hid (range_away haw (by simp) HRX.out)
      replace HOK := Lib.hid (HOK.out.on haw)
      replace HGr := Lib.hid (HGr.out.on haw)
      have hml : ms.length ≤ 65536 := by
        rw [← List.length_map (f := X.p), HMM2.out]
        have h1 := ref_len HRF1.out.ref; have h2 := rgt_off HKX.out.r; omega
      have hm0 : 0 < ms.length := by
        rw [← List.length_map (f := X.p), HMM2.out]; exact List.length_pos_iff.2 HRF1.out.ref.ne
      obtain ⟨ma, mc, hmv', hm4, -, hmp, -⟩ := hcu2.pks (by omega)
      obtain ⟨mb, hmb⟩ : ∃ mb, ma = some ⟨mb, 0, none⟩ := by
        rcases hcu2.lst.2 with ⟨h1, h2⟩ | ⟨g, c, cur, h1, -⟩
        · omega
        · rw [hmv'] at h1; simp only [Value.slice.injEq] at h1; exact ⟨g, h1.1⟩
      subst hmb; subst hmv'
      have HMP := Lib.hid hmp
      have HOLD : Hid (∀ c ∈ cs, ∀ b, c.o.ownBlock = some b ∨ c.d.ownBlock = some b → b < wr.heap.size) := fun c hc b hb => ((HCU.out.each c hc).2.lto b hb).1
      have HVL : Hid (∀ b, u11.ownBlock = some b → b < wr.heap.size) := fun b hb => HCU.out.lst.lt b hb
      have hB6 : w6.heap.size ≤ wr.heap.size := HAW.out.size
      obtain ⟨nm, hnm⟩ : ∃ nm, nm = ms.length := ⟨_, rfl⟩
      rw [← hnm] at hml hm0 hm4 ⊢
      have HNM := Lib.hid hnm
      clear hcu2 hxm2 hmp haw hnm HCU HAW
      have HIS : Hid (isR x.p (68 + r1) (ms.map X.p) = true) := by
        show _ = _
        rw [HMM2.out]; exact HRF1.out.is HKX.out.wf HKX.out.r HKV.out HKF.out HM1.out
      go_wp2_with (refine wpList_load28m rfl _ rfl xb (xo + k * 46) rfl x.p x.o x.d (by exact HRX.out) HAX.out ?_)
      refine (R.is_c x.p x.o x.d (68 + r1) (some ⟨mb, 0, none⟩) ms nm mc _ HNM.out.symm HOK.out HMP.out HGr.out).mono ?_
      rw [HIS.out]
      rintro E y3 ⟨rfl, haw⟩
      replace HMS := Lib.hid (HMS.out.on haw)
      replace HCU2 := Lib.hid (HCU2.out.on haw)
      replace HAW2 := Lib.hid (HAW2.out.on haw)
      replace HMP := Lib.hid (HMP.out.on haw)
      clear haw HIS HRX HOK HGr
      have hB7 : w6.heap.size ≤ y3.heap.size := HAW2.out.size
      go_upto_region 17 with fail
      go_cut [10] (fun v wc => ∃ M' : Int, v = .int .i64 M' ∧ M ≤ M' ∧ 68 + r1 ≤ M' ∧ M' ≤ 1568 ∧ wc = y3)
      case first =>
        by_cases hmx : M ≤ 68 + r1
        · go_wp2_with fail
          all_goals (go_meet; first | exact ⟨_, rfl, by omega, by omega, by omega, rfl⟩)
        · go_wp2_with fail
          all_goals (go_meet; first | exact ⟨_, rfl, by omega, by omega, by omega, rfl⟩)
      case rest =>
      obtain ⟨M', rfl, hM2, hM3, hM4, hwc⟩ := hcut
      replace hwc := hwc.symm
      subst hwc
      go_wp2_with (at_builtin; refine wpList_appQ rfl _ _ rfl _ cs ms rfl (by exact HCU2.out.lst) ⟨mb, 0, none⟩ nm mc rfl HNM.out.symm (by exact HMP.out) (by omega) ?_; refine Hid.out ?_)
      refine Lib.hid ?_
      intro v' y4 hl3 hgr hmv
      have HCU3 : Hid (Cuts y4 w6.heap.size v' (cs ++ ms)) := cuts_app HCU2.out HMS.out hB6 HOLD.out HVL.out hl3 hgr hmv hB7
      have HAW3 : Hid (Away [] w6 y4) := HAW2.out.grown hgr (fun b hb => .inr (HCU2.out.new b hb))
      clear hl3 hgr hmv
      have HR3 : Hid ((rs ++ [(x.p, l1)]).map Prod.fst = (xs.take (k + 1)).map X.p) := by
        show _ = _
        have h1 := lt_of_get HXK.out
        have h2 : xs[k] = x := by have := HXK.out; rw [List.getElem?_eq_getElem h1] at this; simpa using this
        rw [List.take_succ_eq_append_getElem h1, h2, List.map_append, List.map_append, HRF.out]; rfl
      have HRR3 : Hid (∀ y ∈ rs ++ [(x.p, l1)], ∃ m, m ≤ M' ∧ Ref2 y.1 m y.2) := fun y hy => by
        rcases List.mem_append.1 hy with hy | hy
        · obtain ⟨m, h1, h2⟩ := HRR.out y hy
          exact ⟨m, by omega, h2⟩
        · simp at hy; subst hy; exact ⟨_, hM3, HRF1.out⟩
      have HCM3 : Hid ((cs ++ ms).map X.p = (rs ++ [(x.p, l1)]).flatMap Prod.snd) := by
        show _ = _
        rw [List.map_append, HCM.out, HMM2.out, List.flatMap_append]; simp
      have HCL3 : Hid ((cs ++ ms).length ≤ (k + 1) * 65536) := by
        show _ ≤ _
        rw [List.length_append]; have := HNM.out; omega
      go_wp2_with fail
      go_roundw
      case rel => exact ⟨k + 1, M', cs ++ ms, rs ++ [(x.p, l1)], by go_num, by omega, rfl, by omega, hM4, HCU3.out, HR3.out, HRR3.out, HCM3.out, HCL3.out, HAW3.out⟩
      case measure => simp [intOf]; omega
    · obtain rfl : k = n := by omega
      have HALL : Hid (Ref2 q M (cs.map X.p)) := by
        have h1 : rs.map Prod.fst = l0 := by rw [HRF.out, HN.out, List.take_length, HXM.out]
        have := HREF.out.trans HQW.out.o rs h1 HRR.out
        rw [← HCM.out] at this
        exact this
      have HIS : Hid (isR q M (cs.map X.p) = true) := HALL.out.is HQW.out HU.out HQV.out HQF.out (by rw [mtu_iff]; simp; omega)
      have HQr := Lib.hid (HQ.out.on HAW.out)
      have HBr := Lib.hid (HB.out.on HAW.out)
      have HGr := Lib.hid (HG.out.on HAW.out)
      have HA6 := Lib.hid (HA.out.on HAW.out)
      obtain ⟨ca, cc, hcv, -, -, hcp, -⟩ := HCU.out.pks (by omega)
      have HCP := Lib.hid hcp
      subst hcv
      obtain ⟨nc, hnc⟩ : ∃ nc, nc = cs.length := ⟨_, rfl⟩
      rw [← hnc]
      have HNC := Lib.hid hnc
      clear hnc hcp
      go_wp2_with (refine wpList_load28 rfl _ rfl g7 rfl q _ _ (by exact HBr.out) HQA.out ?_)
      refine (R.is_c q qo qd M ca cs nc cc _ HNC.out.symm HQr.out HCP.out HGr.out).mono ?_
      rw [HIS.out]
      rintro E z1 ⟨rfl, haw⟩
      replace HQr := Lib.hid (HQr.out.on haw)
      replace HBr := Lib.hid (HBr.out.on haw)
      replace HGr := Lib.hid (HGr.out.on haw)
      replace HCP := Lib.hid (HCP.out.on haw)
      replace HA6 := Lib.hid (HA6.out.on haw)
      clear haw HIS HALL
      by_cases h1 : nc = 1
      · subst h1
        go_wp2_with fail
        go_ret
        exact ⟨rfl, HA6.out.to_below⟩
      · have z1' : ¬ ((nc : Int) = 1) := by omega
        have y1 : ((nc : Int) == 1) = false := by simpa using z1'
        have HI2 : Hid (isR q 67 (cs.map X.p) = false) := is_67 (by rw [List.length_map, ← HNC.out]; exact h1)
        go_wp2_with (refine wpList_load28 rfl _ rfl g7 rfl q _ _ (by exact HBr.out) HQA.out ?_)
        refine (R.is_c q qo qd 67 ca cs nc cc _ HNC.out.symm HQr.out HCP.out HGr.out).mono ?_
        rw [HI2.out]
        rintro E z2 ⟨rfl, haw⟩
        replace HA6 := Lib.hid (HA6.out.on haw)
        clear haw
        go_wp2_with fail
        go_ret
        exact ⟨rfl, HA6.out.to_below⟩
end recutTwice
namespace recutTwice
theorem contract (H : Type) (enc : TypeId × Value → H) (W : World) (base : Nat) (args : Array Value) (ds gs : List (DataW H)) (before : List MemPlace)
    (hval0 : ∀ (j : Nat) t v, Tryd.f3.params[j]? = some t → args[j]? = some v → Value.okWide Tryd.prog W .any base t v)
    (hW : DataW.Whole enc Tryd.prog Tryd.f3.params.toList Rows.recutTwiceSpec.vars false W args.toList ds gs before)
    (hsz0 : (DataW.weightsEach Tryd.prog (Tryd.f3.params.toList ++ Rows.recutTwiceSpec.plain.varTypes Tryd.prog) (ds ++ gs)).all (· ≤ reachBytes) = true)
    (hL : laidMetH Tryd.prog Rows.recutTwiceRow.laid W) :
    Calls Tryd.prog 3 args W fun e W' => ∃ v, e = .returned v ∧ Rows.recutTwiceSpec.post enc Tryd.prog Tryd.f3 false true false false W args v W' := by
  have hval := hval0
  have hsz := hsz0
  have hW' := hW
  obtain ⟨p, q, hA0, hV, rfl, hfz, hnd⟩ := hW
  have hA : DataW.TrodAll enc Tryd.prog W 0 (fun _ => true) true Tryd.f3.params.toList args.toList ds p := hA0
  rw [Tryd.params3] at hA hval hsz
  obtain ⟨v0, vs0, d0, ds0, p0, q0, hargs, rfl, rfl, h0, r0⟩ := trodAll_cons hA
  obtain ⟨v1, vs1, d1, ds1, p1, q1, rfl, rfl, rfl, h1, r1⟩ := trodAll_cons r0
  obtain ⟨v2, vs2, d2, ds2, p2, q2, rfl, rfl, rfl, h2, r2⟩ := trodAll_cons r1
  obtain ⟨rfl, rfl, rfl⟩ := trodAll_nil r2
  obtain rfl : args = #[v0, v1, v2] := by cases args; simp_all
  obtain ⟨rfl, rfl⟩ := trodVars_none hV
  have k0 := h0
  have lt0 : ∀ x ∈ p0, x.block < W.heap.size := by obtain ⟨m, hm⟩ := k0; exact DataW.trod_lt m _ _ _ hm
  have z0 : ∀ m ∈ d0.weights Tryd.prog 28, m ≤ reachBytes := fun m hm => by
    have := List.all_eq_true.1 hsz m (DataW.weights_mem_each (j := 0) (t := 28) rfl rfl m hm)
    simpa using this
  obtain ⟨x0, ov0, dv0, rfl, w0, ol0, dl0⟩ := open_pkt (hval 0 28 v0 rfl rfl) h0 z0
  obtain ⟨a1, rfl, rfl, rfl, w1⟩ := open_int Tryd.underlying3 (hval 1 3 v1 rfl rfl) h1
  have k2 := h2
  have lt2 : ∀ x ∈ p2, x.block < W.heap.size := by obtain ⟨m, hm⟩ := k2; exact DataW.trod_lt m _ _ _ hm
  have z2 : ∀ m ∈ d2.weights Tryd.prog 29, m ≤ reachBytes := fun m hm => by
    have := List.all_eq_true.1 hsz m (DataW.weights_mem_each (j := 2) (t := 29) rfl rfl m hm)
    simpa using this
  obtain ⟨a2, len2, cap2, rfl⟩ := okWide_slice Tryd.underlying29 (hval 2 29 v2 rfl rfl)
  obtain ⟨w2, n2⟩ := R.open_nums h2 z2
  clear hA0 hval0
  refine (walk x0 ov0 dv0 a1 a2 len2 cap2 W (glob_of hL) w0 ol0 dl0 w1 w2 n2).mono fun e W' ⟨he, bel⟩ => ?_
  subst he
  exact ⟨_, rfl, _, _, _, [], _, [], hW', trodAll_mk1 (shut_bool Tryd.underlying4 _), (trodAll_cons_mk (Below.trod laidOut (by kernel_rfl) (of_decide_eq_true (by kernel_rfl)) k0 bel lt0) (trodAll_cons_mk (shut_int Tryd.underlying3 w1) (trodAll_cons_mk (Below.trod laidOut (by kernel_rfl) (of_decide_eq_true (by kernel_rfl)) k2 bel lt2) trodAll_mk0))), rfl, bel.frame _, fun h => by cases h⟩
theorem laid_met (os : Os) : laidMet Tryd.prog Rows.recutTwiceRow.laid ((laidWorld Tryd.prog os).forCall (fun _ _ => 0) ⟨#[], #[.agg (csP zeroPk (.slice none 0 0) (.slice none 0 0)), .int .i64 0, .slice none 0 0], []⟩).memory :=
  laidMet_of_run' 8 (by kernel_rfl) (by kernel_rfl)
theorem reads (os : Os) {H : Type} (enc : TypeId × Value → H) : ∃ places, DataW.whole enc Tryd.prog ((laidWorld Tryd.prog os).forCall (fun _ _ => 0) ⟨#[], #[.agg (csP zeroPk (.slice none 0 0) (.slice none 0 0)), .int .i64 0, .slice none 0 0], []⟩).memory Tryd.f3.params.toList Rows.recutTwiceSpec.vars false #[.agg (csP zeroPk (.slice none 0 0) (.slice none 0 0)), .int .i64 0, .slice none 0 0].toList 8 = some ([.agg [.lit (.int .i64 0), .lit (.int .i64 0), .lit (.int .i64 0), .agg [.lit (.int .i64 0), .agg [.lit (.int .u8 0), .lit (.int .u8 0), .lit (.int .u8 0), .lit (.int .u8 0), .lit (.int .u8 0), .lit (.int .u8 0), .lit (.int .u8 0), .lit (.int .u8 0), .lit (.int .u8 0), .lit (.int .u8 0), .lit (.int .u8 0), .lit (.int .u8 0), .lit (.int .u8 0), .lit (.int .u8 0), .lit (.int .u8 0), .lit (.int .u8 0)]], .agg [.lit (.int .i64 0), .agg [.lit (.int .u8 0), .lit (.int .u8 0), .lit (.int .u8 0), .lit (.int .u8 0), .lit (.int .u8 0), .lit (.int .u8 0), .lit (.int .u8 0), .lit (.int .u8 0), .lit (.int .u8 0), .lit (.int .u8 0), .lit (.int .u8 0), .lit (.int .u8 0), .lit (.int .u8 0), .lit (.int .u8 0), .lit (.int .u8 0), .lit (.int .u8 0)]], .lit (.int .i64 0), .lit (.int .i64 0), .lit (.int .u32 0), .lit (.bool false), .lit (.bool false), .lit (.bool false), .lit (.int .i64 0), .nil, .nil], .lit (.int .i64 0), .nil], [], places) :=
  ⟨[], by kernel_rfl⟩
theorem lifted (os : Os) (started : os.Started) (H : Type) (enc : TypeId × Value → H) (F : Stop.Interp) :
    ReturnsInHanded {} Tryd.checked os 3 .any ((OpenSpec.ofChange Rows.recutTwiceSpec).preRow enc Tryd.prog Tryd.f3 Rows.recutTwiceRow.domain false Rows.recutTwiceRow.laid) (((OpenSpec.ofChange Rows.recutTwiceSpec).at F).post enc Tryd.prog Tryd.f3 false true false false) := by
  obtain ⟨places, hx⟩ := reads os enc
  refine returnsInHanded_of_row (C := Tryd.checked) (s := OpenSpec.ofChange Rows.recutTwiceSpec) ownKn started (by kernel_rfl) Tryd.func3
    (witness_row_at (enc := enc) (C := Tryd.checked) false (laidWorld Tryd.prog os) #[.agg (csP zeroPk (.slice none 0 0) (.slice none 0 0)), .int .i64 0, .slice none 0 0] rfl (by kernel_rfl) (by kernel_rfl) (by kernel_rfl)
      (OpenSpec.preRow_of_cond 8 hx (by kernel_rfl) (fun k hk => by cases hk) (by kernel_rfl) (laid_met os))) ?_
  intro W base args ds gs before hval hW _ hcond hsz hL hS _
  exact contract H enc W base args ds gs before hval hW hsz hL
theorem said : Rows.RecutTwiceSaid :=
  OpenClaim.holds_of_cond 3 Tryd.f3 rfl rfl rfl rfl rfl rfl rfl ⟨rfl, rfl, rfl, rfl, rfl⟩ rfl rfl rfl rfl rfl (by kernel_rfl) Tryd.func3 (by kernel_rfl)
    (of_decide_eq_true (by kernel_rfl)) (by unfold Func.isWrapper; first | (rw [if_pos (by decide +kernel)]; kernel_rfl) | (rw [if_neg (by decide +kernel)]; exact ⟨rfl, rfl⟩))
    (fun os started H enc _ F => by rw [OpenClaim.pre_eq_preRow]; exact lifted os started H enc F)
theorem plain (f : FuncId) (fn : Func) (hf : Tryd.pinned.checked.prog.funcNamed "mosaic/mosaiclaw11.RecutTwice" = some f) (hfn : Tryd.pinned.checked.prog.funcs[f]? = some fn) :
    false = Tryd.pinned.checked.prog.looks [] ∧ ∀ (j : Nat) t, fn.params[j]? = some t → Tryd.pinned.checked.prog.wantsStandIn t = false := by
  obtain rfl : f = 3 := Option.some.inj ((show Tryd.prog.funcNamed "mosaic/mosaiclaw11.RecutTwice" = some 3 by kernel_rfl).symm.trans hf) |>.symm
  obtain rfl : fn = Tryd.f3 := (Option.some.inj (Tryd.func3.symm.trans hfn)).symm
  refine ⟨by kernel_rfl, fun j t ht => ?_⟩
  rw [Tryd.params3] at ht
  have hm := Array.mem_of_getElem? ht
  simp only [List.mem_toArray, List.mem_cons, List.not_mem_nil, or_false] at hm
  have h28 : Tryd.prog.wantsStandIn 28 = false := by kernel_rfl
  have h26 : Tryd.prog.wantsStandIn 26 = false := by kernel_rfl
  have h3 : Tryd.prog.wantsStandIn 3 = false := by kernel_rfl
  have h25 : Tryd.prog.wantsStandIn 25 = false := by kernel_rfl
  have h4 : Tryd.prog.wantsStandIn 4 = false := by kernel_rfl
  have h29 : Tryd.prog.wantsStandIn 29 = false := by kernel_rfl
  rcases hm with rfl | rfl | rfl
  all_goals first | exact h28 | exact h26 | exact h3 | exact h25 | exact h4 | exact h29
theorem card : Rows.RecutTwiceCardSaid :=
  Claim7.holds_tied_plain_at .later [] _ _ _ _ said (fun _ h => by cases h) (by kernel_rfl) (fun _ h => by cases h) recutTwice_row_tie rfl ⟨rfl, rfl⟩ (by kernel_rfl) rfl plain (by kernel_rfl)
end recutTwice
theorem recutTwice_holds : Rows.RecutTwiceCardSaid := recutTwice.card
#print axioms recutTwice_holds
end Go.Proofs.YtaicckenpplceaaDoor
