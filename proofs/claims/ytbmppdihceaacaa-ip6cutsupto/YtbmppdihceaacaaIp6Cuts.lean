/-
  Ip6Cuts: the first bytes of a right packet alone, and all of it with bytes behind, are refused.
-/
import Derived.Test.YtbmppdihceaacaaAlive
import Derived.Deep.CondSized
namespace Go.Proofs.Ytbmppdihceaacaa
open Go.ChangeShapes Go.WideShapes Go.ChangeAt Go.RowKit Go.Deep Num
set_option linter.unusedVariables false
set_option maxHeartbeats 8000000
set_option maxRecDepth 100000

theorem lay_meas {q : Pk} (hw : Wf q) (h : rightP q = true) : gt (lay6 q) 0 / 16 = 6 ∧ wd (lay6 q) 4 = ((lay6 q).length : Int) - 40 := by
  have hp := parse_lay6 hw h
  obtain ⟨hm, -⟩ := parse6_ok (b := lay6 q) (by rw [hp])
  obtain ⟨_, h2, h3, _⟩ := meas_ok hm
  exact ⟨h2, h3⟩
theorem meas_cut {q : Pk} (hw : Wf q) (h : rightP q = true) (b : List Int) (h40 : 40 ≤ b.length) (hb : ∀ i, i < 6 → gt b i = gt (lay6 q) i) (hl : b.length ≠ (lay6 q).length) : parse6 b = (zeroPk, 51) := by
  obtain ⟨h1, h2⟩ := lay_meas hw h
  have hm : measP b = 51 := by
    unfold measP
    rw [if_neg (by omega), if_neg (by rw [hb 0 (by omega)]; simp [h1]), if_pos]
    rw [show wd b 4 = wd (lay6 q) 4 from by unfold wd; rw [hb 4 (by omega), hb (4 + 1) (by omega)], h2]
    omega
  unfold parse6
  rw [if_pos (by rw [hm]; decide), hm]
theorem gt_take (l : List Int) (k i : Nat) (h : i < k) : gt (l.take k) i = gt l i := by unfold gt; rw [List.getElem?_take, if_pos h]
theorem gt_app (l m : List Int) (i : Nat) (h : i < l.length) : gt (l ++ m) i = gt l i := by unfold gt; rw [List.getElem?_append_left h]
theorem cut_parse {q : Pk} (hw : Wf q) (h : rightP q = true) (k : Nat) (hk : k < (lay6 q).length) : parse6 ((lay6 q).take k) = (zeroPk, if k < 40 then 20 else 51) := by
  by_cases h40 : k < 40
  · rw [if_pos h40]
    have hm : measP ((lay6 q).take k) = 20 := by unfold measP; rw [if_pos (by simp; omega)]
    unfold parse6
    rw [if_pos (by rw [hm]; decide), hm]
  · rw [if_neg h40]
    exact meas_cut hw h _ (by simp; omega) (fun i hi => gt_take _ _ _ (by omega)) (by simp; omega)
theorem tail_parse {q : Pk} (hw : Wf q) (h : rightP q = true) (t : List Int) (ht : t ≠ []) : parse6 (lay6 q ++ t) = (zeroPk, 51) := by
  have h40 := (lay6_bd hw ((right_iff q).1 h)).2.2
  have hp := List.length_pos_iff.2 ht
  exact meas_cut hw h _ (by simp; omega) (fun i hi => gt_app _ _ _ (by omega)) (by simp; omega)
namespace ip6Cuts
theorem walk (p : Pk) (ov dv : Value) (n : Int) (ta : Option Addr) (tl : List Int) (tcap : Nat) (W : World) (hp : Pkt W p ov dv) (hol : p.o.length ≤ 140737488351232) (hdl : p.d.length ≤ 140737488351232) (hn : (Lit.int .i64 n).wf = true) (htc : tl.length ≤ tcap) (htr : Row W ta tl) (htn : ta = none → tcap = 0) (htcc : tcap ≤ 140737488351232) (htu : tl.length ≤ 1048576) :
    Calls Try.prog 6 #[.agg (csP p ov dv), .int .i64 n, .slice ta tl.length tcap] W fun e W' => e = .returned (.bool true) ∧ Below W.heap.size W W' := by
  have HWF := Lib.hid hp.wf
  have HAD := Lib.hid hp.wf.ad
  have HP := Lib.hid hp
  have HTS : Hid (Sl W (.slice ta tl.length tcap) tl) := ⟨ta, tcap, rfl, htc, htn, htr⟩
  have HTR := Lib.hid htr
  have HA : Hid (Away [] W W) := Away.refl _ _
  obtain ⟨q, hq⟩ : ∃ q, q = fitP p := ⟨_, rfl⟩
  have HQW : Hid (Wf q) := by rw [hq]; exact fit_wf hp.wf
  have HQR : Hid (rightP q = true) := by rw [hq]; exact right_fit p
  have hcb := lay6_bd HQW.out ((right_iff q).1 HQR.out)
  have HCB := Lib.hid hcb.1
  have hc1 := hcb.2.1
  have hc2 := hcb.2.2
  have HCK : Hid (∀ k : Nat, k < (lay6 q).length → parse6 ((lay6 q).take k) = (zeroPk, if k < 40 then 20 else 51)) := fun k hk => cut_parse HQW.out HQR.out k hk
  have HTK : Hid (tl ≠ [] → parse6 (lay6 q ++ tl) = (zeroPk, 51)) := fun h => tail_parse HQW.out HQR.out tl h
  have HBQ : Hid (build6 q = (lay6 q, 0)) := build_ok HQR.out
  have HFIT : Hid (∀ w, Pkt w p ov dv → Calls Try.prog 10 #[.agg (csP p ov dv)] w fun E w' => OwnOut w q E w') := fun w h => by rw [hq]; exact fit_c p ov dv w h
  clear hp hcb hq htr htn
  generalize hc : lay6 q = c at HCB hc1 hc2 HCK HTK HBQ
  clear hc
  go_enter Try.func6, Try.ntmps6
  go_wp2_with (refine wpList_box28 rfl _ rfl p ov dv rfl ?_; refine Hid.out ?_)
  refine Lib.hid ?_
  intro g1 w1 hg_g1 hb haw
  replace HP := Lib.hid (HP.out.on haw)
  replace HA := Lib.hid (HA.out.on haw)
  replace HTS := Lib.hid (HTS.out.on haw)
  replace HTR := Lib.hid (HTR.out.on haw)
  clear haw
  have HB := Lib.hid hb
  have hl_g1 := hb.lt
  clear hb
  go_wp2_with fail
  refine (alive_c w1).mono ?_
  rintro E w2 ⟨rfl, haw⟩
  replace HP := Lib.hid (HP.out.on haw)
  replace HA := Lib.hid (HA.out.on haw)
  replace HTS := Lib.hid (HTS.out.on haw)
  replace HTR := Lib.hid (HTR.out.on haw)
  replace HB := Lib.hid (HB.out.on haw)
  clear haw
  go_wp2_with (first | (refine wpList_load28 rfl _ rfl g1 rfl p _ _ (by exact HB.out) HAD.out ?_))
  refine (HFIT.out _ (by exact HP.out)).mono ?_
  rintro E w3 ⟨oq, dq, rfl, hm, haw⟩
  replace HP := Lib.hid (HP.out.on haw)
  replace HA := Lib.hid (HA.out.on haw)
  replace HTS := Lib.hid (HTS.out.on haw)
  replace HTR := Lib.hid (HTR.out.on haw)
  replace HB := Lib.hid (HB.out.on haw)
  clear haw
  have HM := Lib.hid hm
  clear hm
  go_wp2_with fail
  refine (build_c q oq dq _ (by exact HM.out.pkt HQW.out)).mono ?_
  rintro E w4 ⟨bv, rfl, hown, hnew, haw⟩
  rw [HBQ.out] at hown ⊢
  have hs_bv := haw.size
  replace HP := Lib.hid (HP.out.on haw)
  replace HA := Lib.hid (HA.out.on haw)
  replace HTS := Lib.hid (HTS.out.on haw)
  replace HTR := Lib.hid (HTR.out.on haw)
  replace HB := Lib.hid (HB.out.on haw)
  replace HM := Lib.hid (HM.out.on haw)
  clear haw
  have HO := Lib.hid hown
  have hn_bv := Lib.hid hnew
  clear hown hnew
  clear HM HB HP
  obtain ⟨ba, bc, hbv, hbc⟩ := HO.out.slc
  rw [show ((c, (0 : Int)).1) = c from rfl] at hbv hbc HO
  subst hbv
  obtain ⟨k, hk, hke⟩ : ∃ k : Nat, k < c.length ∧ wrap64 ((IntKind.u64.wrap n).tmod (c.length : Int)) = (k : Int) := by
    refine ⟨((IntKind.u64.wrap n) % (c.length : Int)).toNat, ?_, ?_⟩
    · have h1 := Int.emod_lt_of_pos (IntKind.u64.wrap n) (show (0 : Int) < c.length by omega)
      have h2 := Int.emod_nonneg (IntKind.u64.wrap n) (show (c.length : Int) ≠ 0 by omega)
      omega
    · have h0 : 0 ≤ IntKind.u64.wrap n := by rw [IntKind.wrap_u64]; omega
      rw [Int.tmod_eq_emod_of_nonneg h0]
      have h1 := Int.emod_lt_of_pos (IntKind.u64.wrap n) (show (0 : Int) < c.length by omega)
      have h2 := Int.emod_nonneg (IntKind.u64.wrap n) (show (c.length : Int) ≠ 0 by omega)
      unfold wrap64
      omega
  have hc0 : ((c.length : Int) == 0) = false := beq_eq_false_iff_ne.2 (by omega)
  obtain ⟨f, hf⟩ : ∃ f : Int, f = if k < 40 then 20 else 51 := ⟨_, rfl⟩
  have HPC : Hid (parse6 (c.take k) = (zeroPk, f)) := by rw [hf]; exact HCK.out k hk
  have HF := Lib.hid hf
  clear hf
  have hslc := slice_h ba c.length bc k (k : Int) rfl (by omega)
  have HSC : Hid (Sl w4 (.slice ba k bc) (c.take k)) := by
    obtain ⟨h1, h2, h3, h4⟩ := (HO.out.sl HCB.out (by omega)).of
    exact ⟨ba, bc, by rw [List.length_take, Nat.min_eq_left (by omega)], by simp; omega, h3, h4.head k⟩
  go_upto_region 8 with fail
  have hA0 := (Away.refl [] w4).alloc (.cells #[] 5)
  go_wp2_with (at_builtin; refine wpList_appS rfl _ _ rfl _ [] (c.take k) rfl (owns_lit0 w4 _ rfl) _ rfl (HSC.out.on hA0) (by simpa using HSC.out.bytes.2) ?_; refine Hid.out ?_)
  refine Lib.hid ?_
  intro v1 w5 hown hawx hmvx
  obtain ⟨haw, hnew⟩ := fresh hawx hmvx
  clear hawx hmvx hA0
  replace HA := Lib.hid (HA.out.on haw)
  replace HTS := Lib.hid (HTS.out.on haw)
  replace HTR := Lib.hid (HTR.out.on haw)
  replace HO := Lib.hid (HO.out.on haw)
  replace HSC := Lib.hid (HSC.out.on haw)
  clear haw
  have HV1 := Lib.hid hown
  have hn_v1 := Lib.hid hnew
  clear hown hnew

  obtain ⟨a1, c1, hv1, hc1'⟩ := HV1.out.slc
  have hlk : (c.take k).length = k := by simp; omega
  rw [hlk] at hv1 hc1'
  subst hv1
  have HRW := Lib.hid (HV1.out.row' (by simp; omega) (HCB.out.take k))
  have hnn : a1 = none → c1 = 0 := by obtain ⟨_, _, hx, _, h3, _⟩ := HV1.out.row (by simp; omega) (HCB.out.take k); simp only [Value.slice.injEq] at hx; obtain ⟨rfl, _, rfl⟩ := hx; exact h3
  go_wp2_with fail
  refine (parse_c a1 (c.take k) k c1 _ hlk hc1' hnn (by exact HRW.out)).mono ?_
  rintro E w6 ⟨ox, dx, rfl, hou, hdu, hno, hnd, hap, haw⟩
  rw [HPC.out] at hou hdu ⊢
  replace HA := Lib.hid (HA.out.on haw)
  replace HTS := Lib.hid (HTS.out.on haw)
  replace HTR := Lib.hid (HTR.out.on haw)
  replace HO := Lib.hid (HO.out.on haw)
  replace HSC := Lib.hid (HSC.out.on haw)
  replace HV1 := Lib.hid (HV1.out.on haw)
  clear haw
  have HX : Hid (Mine w6 w5.heap.size _ ox dx) := ⟨hou, hdu, hno, hnd, hap⟩
  clear hou hdu hno hnd hap
  have kx1 := HX.out.ov; have kx2 := HX.out.dv
  go_wp2_with (first | (refine wpList_new28 rfl rfl rfl _ _ rfl zeroPk ox dx (fun _ => rfl) (fun _ => rfl) ⟨rfl, rfl⟩ kx1 kx2 ?_; refine Hid.out ?_))
  refine Lib.hid ?_
  intro g2 w7 hg_g2 hb haw
  replace HA := Lib.hid (HA.out.on haw)
  replace HTS := Lib.hid (HTS.out.on haw)
  replace HTR := Lib.hid (HTR.out.on haw)
  replace HO := Lib.hid (HO.out.on haw)
  replace HSC := Lib.hid (HSC.out.on haw)
  replace HV1 := Lib.hid (HV1.out.on haw)
  replace HX := Lib.hid (HX.out.on haw)
  clear haw
  have HBX := Lib.hid hb
  have hl_g2 := hb.lt
  clear hb
  go_wp2_with (first | (refine wpList_load28 rfl _ rfl g2 rfl zeroPk _ _ (by exact HBX.out) ⟨rfl, rfl⟩ ?_))
  refine (sameP_yes zeroPk zeroPk ox dx (.slice none 0 0) (.slice none 0 0) _ (by exact HX.out.pkt zero_wf) (Pkt.zero _) rfl).mono ?_
  rintro E w8 ⟨rfl, haw⟩
  replace HA := Lib.hid (HA.out.on haw)
  replace HTS := Lib.hid (HTS.out.on haw)
  replace HTR := Lib.hid (HTR.out.on haw)
  replace HO := Lib.hid (HO.out.on haw)
  replace HSC := Lib.hid (HSC.out.on haw)
  replace HV1 := Lib.hid (HV1.out.on haw)
  replace HX := Lib.hid (HX.out.on haw)
  replace HBX := Lib.hid (HBX.out.on haw)
  clear haw
  clear HBX HX HV1 HSC
  clear HRW hnn
  by_cases h40 : k < 40
  · obtain rfl : f = 20 := by rw [HF.out, if_pos h40]
    go_upto_region 11 with fail
    have hsA := HA.out.size
    by_cases ht0 : tl = []
    · have k9 : ((tl.length : Int) == 0) = true := by simp [ht0]
      clear ht0
      go_wp2_with fail
      go_ret
      exact ⟨rfl, HA.out.to_below⟩
    have k9 : ((tl.length : Int) == 0) = false := by simp [ht0]
    have HPT := Lib.hid (HTK.out ht0)
    clear ht0
    have HOS : Hid (Sl w8 (.slice ba c.length bc) c) := HO.out.sl HCB.out (by omega)
    go_upto_region 13 with fail
    have hA0 := (Away.refl [] w8).alloc (.cells #[] 5)
    go_wp2_with (at_builtin; refine wpList_appS rfl _ _ rfl _ [] c rfl (owns_lit0 w8 _ rfl) _ rfl (HOS.out.on hA0) (by simpa using HOS.out.bytes.2) ?_; refine Hid.out ?_)
    refine Lib.hid ?_
    intro v2 w9 hown hawx hmvx
    obtain ⟨haw, hnew⟩ := fresh hawx hmvx
    clear hawx hmvx hA0
    replace HA := Lib.hid (HA.out.on haw)
    replace HTS := Lib.hid (HTS.out.on haw)
    replace HTR := Lib.hid (HTR.out.on haw)
    replace HO := Lib.hid (HO.out.on haw)
    replace HOS := Lib.hid (HOS.out.on haw)
    clear haw
    have HV2 := Lib.hid hown
    have hn_v2 := Lib.hid hnew
    clear hown hnew
    go_wp2_with (at_builtin; refine wpList_appS rfl _ _ rfl _ c tl rfl (by exact HV2.out) _ rfl (by exact HTS.out) (by omega) ?_; refine Hid.out ?_)
    refine Lib.hid ?_
    intro v3 w10 hown hawx hmvx
    have HA3 : Hid (Away [] W w10) := HA.out.next hawx (fun x hx => .inr (by simp at hx; have := hn_v2.out x hx; have := hsA; omega))
    have HV3 := Lib.hid hown
    clear hawx hmvx hown
    obtain ⟨a3, c3, hv3, hc3⟩ := HV3.out.slc
    have hcl : (c ++ tl).length ≤ 140737488355328 := by simp; omega
    have hcb3 : Bytes (c ++ tl) := HCB.out.app HTR.out.2.1
    have HRW3 := Lib.hid (HV3.out.sl hcb3 hcl)
    obtain ⟨N, hN⟩ : ∃ N, (c ++ tl).length = N := ⟨_, rfl⟩
    rw [hN] at hv3 hc3 hcl
    subst hv3
    obtain ⟨_, hz1, hz2, hz3⟩ := HRW3.out.of
    have HN := Lib.hid hN
    clear hN HRW3 HV3 hcb3
    have HZ3 := Lib.hid hz3
    clear hz3
    clear HA
    have HA := HA3
    clear HA3
    go_wp2_with fail
    refine (parse_c a3 (c ++ tl) N c3 _ HN.out hz1 hz2 (by exact HZ3.out)).mono ?_
    rintro E w11 ⟨oy, dy, rfl, hou, hdu, hno, hnd, hap, haw⟩
    rw [HPT.out] at hou hdu ⊢
    replace HA := Lib.hid (HA.out.on haw)
    clear haw
    have HY : Hid (Mine w11 w10.heap.size _ oy dy) := ⟨hou, hdu, hno, hnd, hap⟩
    clear hou hdu hno hnd hap
    have ky1 := HY.out.ov; have ky2 := HY.out.dv
    go_wp2_with (first | (refine wpList_new28 rfl rfl rfl _ _ rfl zeroPk oy dy (fun _ => rfl) (fun _ => rfl) ⟨rfl, rfl⟩ ky1 ky2 ?_; refine Hid.out ?_))
    refine Lib.hid ?_
    intro g3 w12 hg_g3 hb haw
    replace HA := Lib.hid (HA.out.on haw)
    replace HY := Lib.hid (HY.out.on haw)
    clear haw
    have HBY := Lib.hid hb
    have hl_g3 := hb.lt
    clear hb
    go_wp2_with (first | (refine wpList_load28 rfl _ rfl g3 rfl zeroPk _ _ (by exact HBY.out) ⟨rfl, rfl⟩ ?_))
    refine (sameP_yes zeroPk zeroPk oy dy (.slice none 0 0) (.slice none 0 0) _ (by exact HY.out.pkt zero_wf) (Pkt.zero _) rfl).mono ?_
    rintro E w13 ⟨rfl, haw⟩
    replace HA := Lib.hid (HA.out.on haw)
    replace HY := Lib.hid (HY.out.on haw)
    replace HBY := Lib.hid (HBY.out.on haw)
    clear haw
    go_wp2_with fail
    go_ret
    exact ⟨rfl, HA.out.to_below⟩
  · obtain rfl : f = 51 := by rw [HF.out, if_neg h40]
    go_upto_region 11 with fail
    have hsA := HA.out.size
    by_cases ht0 : tl = []
    · have k9 : ((tl.length : Int) == 0) = true := by simp [ht0]
      clear ht0
      go_wp2_with fail
      go_ret
      exact ⟨rfl, HA.out.to_below⟩
    have k9 : ((tl.length : Int) == 0) = false := by simp [ht0]
    have HPT := Lib.hid (HTK.out ht0)
    clear ht0
    have HOS : Hid (Sl w8 (.slice ba c.length bc) c) := HO.out.sl HCB.out (by omega)
    go_upto_region 13 with fail
    have hA0 := (Away.refl [] w8).alloc (.cells #[] 5)
    go_wp2_with (at_builtin; refine wpList_appS rfl _ _ rfl _ [] c rfl (owns_lit0 w8 _ rfl) _ rfl (HOS.out.on hA0) (by simpa using HOS.out.bytes.2) ?_; refine Hid.out ?_)
    refine Lib.hid ?_
    intro v2 w9 hown hawx hmvx
    obtain ⟨haw, hnew⟩ := fresh hawx hmvx
    clear hawx hmvx hA0
    replace HA := Lib.hid (HA.out.on haw)
    replace HTS := Lib.hid (HTS.out.on haw)
    replace HTR := Lib.hid (HTR.out.on haw)
    replace HO := Lib.hid (HO.out.on haw)
    replace HOS := Lib.hid (HOS.out.on haw)
    clear haw
    have HV2 := Lib.hid hown
    have hn_v2 := Lib.hid hnew
    clear hown hnew
    go_wp2_with (at_builtin; refine wpList_appS rfl _ _ rfl _ c tl rfl (by exact HV2.out) _ rfl (by exact HTS.out) (by omega) ?_; refine Hid.out ?_)
    refine Lib.hid ?_
    intro v3 w10 hown hawx hmvx
    have HA3 : Hid (Away [] W w10) := HA.out.next hawx (fun x hx => .inr (by simp at hx; have := hn_v2.out x hx; have := hsA; omega))
    have HV3 := Lib.hid hown
    clear hawx hmvx hown
    obtain ⟨a3, c3, hv3, hc3⟩ := HV3.out.slc
    have hcl : (c ++ tl).length ≤ 140737488355328 := by simp; omega
    have hcb3 : Bytes (c ++ tl) := HCB.out.app HTR.out.2.1
    have HRW3 := Lib.hid (HV3.out.sl hcb3 hcl)
    obtain ⟨N, hN⟩ : ∃ N, (c ++ tl).length = N := ⟨_, rfl⟩
    rw [hN] at hv3 hc3 hcl
    subst hv3
    obtain ⟨_, hz1, hz2, hz3⟩ := HRW3.out.of
    have HN := Lib.hid hN
    clear hN HRW3 HV3 hcb3
    have HZ3 := Lib.hid hz3
    clear hz3
    clear HA
    have HA := HA3
    clear HA3
    go_wp2_with fail
    refine (parse_c a3 (c ++ tl) N c3 _ HN.out hz1 hz2 (by exact HZ3.out)).mono ?_
    rintro E w11 ⟨oy, dy, rfl, hou, hdu, hno, hnd, hap, haw⟩
    rw [HPT.out] at hou hdu ⊢
    replace HA := Lib.hid (HA.out.on haw)
    clear haw
    have HY : Hid (Mine w11 w10.heap.size _ oy dy) := ⟨hou, hdu, hno, hnd, hap⟩
    clear hou hdu hno hnd hap
    have ky1 := HY.out.ov; have ky2 := HY.out.dv
    go_wp2_with (first | (refine wpList_new28 rfl rfl rfl _ _ rfl zeroPk oy dy (fun _ => rfl) (fun _ => rfl) ⟨rfl, rfl⟩ ky1 ky2 ?_; refine Hid.out ?_))
    refine Lib.hid ?_
    intro g3 w12 hg_g3 hb haw
    replace HA := Lib.hid (HA.out.on haw)
    replace HY := Lib.hid (HY.out.on haw)
    clear haw
    have HBY := Lib.hid hb
    have hl_g3 := hb.lt
    clear hb
    go_wp2_with (first | (refine wpList_load28 rfl _ rfl g3 rfl zeroPk _ _ (by exact HBY.out) ⟨rfl, rfl⟩ ?_))
    refine (sameP_yes zeroPk zeroPk oy dy (.slice none 0 0) (.slice none 0 0) _ (by exact HY.out.pkt zero_wf) (Pkt.zero _) rfl).mono ?_
    rintro E w13 ⟨rfl, haw⟩
    replace HA := Lib.hid (HA.out.on haw)
    replace HY := Lib.hid (HY.out.on haw)
    replace HBY := Lib.hid (HBY.out.on haw)
    clear haw
    go_wp2_with fail
    go_ret
    exact ⟨rfl, HA.out.to_below⟩
end ip6Cuts
namespace ip6Cuts
theorem lifted (os : Os) (started : os.Started) (H : Type) (enc : TypeId × Value → H) (F : Stop.Interp) :
    ReturnsInHanded {} Try.checked os 6 .any ((Rows.OpenSpec.upto Rows.ip6CutsSpec).pre6 enc Try.prog Try.f6 Rows.ip6CutsUptoRow.domain false) (((Rows.OpenSpec.upto Rows.ip6CutsSpec).at F).post enc Try.prog Try.f6 false true false false) := by
  refine returnsInHanded_of_cond_sized (C := Try.checked) (s := Rows.OpenSpec.upto Rows.ip6CutsSpec) (k := Rows.uptoSmall) rfl ownKn started (by kernel_rfl) Try.func6
    (OpenSpec.witness (enc := enc) (C := Try.checked) (s := Rows.OpenSpec.upto Rows.ip6CutsSpec) (k := Rows.uptoSmall) rfl false ⟨#[], #[.agg (csP zeroPk (.slice none 0 0) (.slice none 0 0)), .int .i64 0, .slice none 0 0], []⟩ 8 (by kernel_rfl) (by kernel_rfl) (by kernel_rfl)
      (x := ([.agg [.lit (.int .i64 0), .lit (.int .i64 0), .lit (.int .i64 0), .agg [.lit (.int .i64 0), .agg [.lit (.int .u8 0), .lit (.int .u8 0), .lit (.int .u8 0), .lit (.int .u8 0), .lit (.int .u8 0), .lit (.int .u8 0), .lit (.int .u8 0), .lit (.int .u8 0), .lit (.int .u8 0), .lit (.int .u8 0), .lit (.int .u8 0), .lit (.int .u8 0), .lit (.int .u8 0), .lit (.int .u8 0), .lit (.int .u8 0), .lit (.int .u8 0)]], .agg [.lit (.int .i64 0), .agg [.lit (.int .u8 0), .lit (.int .u8 0), .lit (.int .u8 0), .lit (.int .u8 0), .lit (.int .u8 0), .lit (.int .u8 0), .lit (.int .u8 0), .lit (.int .u8 0), .lit (.int .u8 0), .lit (.int .u8 0), .lit (.int .u8 0), .lit (.int .u8 0), .lit (.int .u8 0), .lit (.int .u8 0), .lit (.int .u8 0), .lit (.int .u8 0)]], .lit (.int .i64 0), .lit (.int .i64 0), .lit (.int .u32 0), .lit (.bool false), .lit (.bool false), .lit (.bool false), .lit (.int .i64 0), .nil, .nil], .lit (.int .i64 0), .nil], [], [])) (by kernel_rfl) (by kernel_rfl) (by kernel_rfl)) ?_
  intro W base args ds gs before hval0 hW _ hk hsz0 _
  have hsz : (DataW.weightsEach Try.prog (Try.f6.params.toList ++ Rows.ip6CutsSpec.plain.varTypes Try.prog) (ds ++ gs)).all (· ≤ reachBytes) = true := hsz0
  clear hsz0
  have hval : ∀ (j : Nat) t v, Try.f6.params[j]? = some t → args[j]? = some v → Value.okWide Try.prog W .any base t v := hval0
  have hW' := hW
  obtain ⟨p, q, hA0, hV, rfl, hfz, hnd⟩ := hW
  have hA : DataW.TrodAll enc Try.prog W 0 (fun _ => true) true Try.f6.params.toList args.toList ds p := hA0
  rw [Try.params6] at hA hval hsz
  obtain ⟨v0, vs0, d0, ds0, p0, q0, hargs, rfl, rfl, h0, r0⟩ := trodAll_cons hA
  obtain ⟨v1, vs1, d1, ds1, p1, q1, rfl, rfl, rfl, h1, r1⟩ := trodAll_cons r0
  obtain ⟨v2, vs2, d2, ds2, p2, q2, rfl, rfl, rfl, h2, r2⟩ := trodAll_cons r1
  obtain ⟨rfl, rfl, rfl⟩ := trodAll_nil r2
  obtain rfl : args = #[v0, v1, v2] := by cases args; simp_all
  have hV2 : DataW.TrodVars enc Try.prog W (fun _ => true) Rows.ip6CutsSpec.vars gs q := hV
  obtain ⟨rfl, rfl⟩ := trodVars_none hV2
  have k0 := h0
  have lt0 : ∀ x ∈ p0, x.block < W.heap.size := by obtain ⟨m, hm⟩ := k0; exact DataW.trod_lt m _ _ _ hm
  have z0 : ∀ m ∈ d0.weights Try.prog 28, m ≤ reachBytes := fun m hm => by
    have := List.all_eq_true.1 hsz m (DataW.weights_mem_each (j := 0) (t := 28) rfl rfl m hm)
    simpa using this
  obtain ⟨x0, ov0, dv0, rfl, w0, ol0, dl0⟩ := open_pkt (hval 0 28 v0 rfl rfl) h0 z0
  obtain ⟨a1, rfl, rfl, rfl, w1⟩ := open_int Try.underlying3 (hval 1 3 v1 rfl rfl) h1
  have k2 := h2
  have lt2 : ∀ x ∈ p2, x.block < W.heap.size := by obtain ⟨m, hm⟩ := k2; exact DataW.trod_lt m _ _ _ hm
  have z2 : ∀ m ∈ d2.weights Try.prog 26, m ≤ reachBytes := fun m hm => by
    have := List.all_eq_true.1 hsz m (DataW.weights_mem_each (j := 2) (t := 26) rfl rfl m hm)
    simpa using this
  obtain ⟨a2, len2, cap2, rfl⟩ := okWide_slice Try.underlying26 (hval 2 26 v2 rfl rfl)
  obtain ⟨l2, rfl, c2, cc2, w2, n2, u2⟩ := open_bytes h2 z2
  clear hA0 hval0
  refine (walk x0 ov0 dv0 a1 a2 l2 cap2 W w0 ol0 dl0 w1 c2 w2 n2 cc2 (Nat.le_trans u2 (small_mem hk (by simp)))).mono fun e W' ⟨he, bel⟩ => ?_
  subst he
  exact ⟨_, rfl, _, _, _, [], _, [], hW', trodAll_mk1 (shut_bool Try.underlying4 _), (trodAll_cons_mk (Below.trod laidOut (by kernel_rfl) (of_decide_eq_true (by kernel_rfl)) k0 bel lt0) (trodAll_cons_mk (shut_int Try.underlying3 w1) (trodAll_cons_mk (Below.trod laidOut (by kernel_rfl) (of_decide_eq_true (by kernel_rfl)) k2 bel lt2) trodAll_mk0))), rfl, bel.frame _, fun h => by cases h⟩
theorem over : Rows.ip6CutsUptoRow.holds Try.pinned (Rows.OpenSpec.upto Rows.ip6CutsSpec) :=
  OpenClaim.holds_of_cond 6 Try.f6 rfl rfl rfl rfl rfl rfl rfl ⟨rfl, rfl, rfl, rfl, rfl⟩ rfl rfl rfl rfl rfl (by kernel_rfl) Try.func6 (by kernel_rfl)
    (of_decide_eq_true (by kernel_rfl)) (by unfold Func.isWrapper; first | (rw [if_pos (by decide +kernel)]; kernel_rfl) | (rw [if_neg (by decide +kernel)]; exact ⟨rfl, rfl⟩))
    (fun os started H enc _ F => lifted os started H enc F)
end ip6Cuts
theorem ip6CutsUpto_holds : Rows.Ip6CutsUptoSaid := ip6Cuts.over
#print axioms ip6CutsUpto_holds
end Go.Proofs.Ytbmppdihceaacaa
