/-
  Ip4Back: P5.2, there and back.
-/
import Derived.Test.YtkfbhofbajejiaaDoorStp
namespace Go.Proofs.YtkfbhofbajejiaaDoor
open Go.ChangeShapes Go.WideShapes Go.ChangeAt Go.RowKit Go.Deep Num
set_option linter.unusedVariables false
set_option maxHeartbeats 4000000
set_option maxRecDepth 100000

theorem walk (p : Pk) (ov dv : Value) (a : Option Addr) (l : List Int) (cap : Nat) (W : World) (hg : Glob W) (hp : Pkt W p ov dv) (_ : p.o.length ≤ 140737488351232) (_ : p.d.length ≤ 140737488351232) (hc : l.length ≤ cap) (hr : Row W a l) (hn : a = none → cap = 0) (_ : cap ≤ 140737488351232) :
    Calls Tryd.prog 3 #[.agg (csP p ov dv), .slice a l.length cap] W fun e W' => e = .returned (.bool true) ∧ Below W.heap.size W W' := by
  have HG := Lib.hid hg
  have HP := Lib.hid hp
  have HA := Lib.hid (Away.refl [] W)
  have HAP := Lib.hid hp.wf.ad
  have hwf := Lib.hid hp.wf
  obtain ⟨q, hq⟩ : ∃ q, q = mendP p := ⟨_, rfl⟩
  have HQE := Lib.hid hq
  have HQW : Hid (Wf q) := by rw [hq]; exact mend_wf hwf.out
  have HQR : Hid (rightP q = true) := by rw [hq]; exact mend_right hwf.out
  have HQA := Lib.hid HQW.out.ad
  have HR := Lib.hid hr
  have HBY := Lib.hid hr.2.1
  have hln0 := hr.1
  clear hg hp hr
  go_enter Tryd.func3, Tryd.ntmps3
  go_wp2_with (refine wpList_box28 rfl _ rfl p _ _ rfl ?_; refine Hid.out ?_)
  refine Lib.hid ?_
  intro g2 w1 hg_g2 hb haw
  replace HG := Lib.hid (HG.out.on haw)
  replace HP := Lib.hid (HP.out.on haw)
  replace HA := Lib.hid (HA.out.on haw)
  replace HR := Lib.hid (HR.out.on haw)
  clear haw
  have HB2 := Lib.hid hb
  clear hb
  go_wp2_with fail
  refine (alive_c _ HG.out).mono ?_
  rintro E w2 ⟨rfl, haw⟩
  replace HG := Lib.hid (HG.out.on haw)
  replace HP := Lib.hid (HP.out.on haw)
  replace HA := Lib.hid (HA.out.on haw)
  replace HR := Lib.hid (HR.out.on haw)
  replace HB2 := Lib.hid (HB2.out.on haw)
  clear haw
  go_wp2_with (first | (refine wpList_load28 rfl _ rfl _ rfl p _ _ (by exact HB2.out) HAP.out ?_))
  refine (mended_c p _ _ _ HP.out).mono ?_
  rw [← hq]
  rintro E w3 ⟨ou, du, rfl, hmi, haw⟩
  replace HG := Lib.hid (HG.out.on haw)
  replace HP := Lib.hid (HP.out.on haw)
  replace HA := Lib.hid (HA.out.on haw)
  replace HR := Lib.hid (HR.out.on haw)
  replace HB2 := Lib.hid (HB2.out.on haw)
  clear haw
  have HQ := Lib.hid (hmi.pkt HQW.out)
  have h1 := HQ.out.ov
  have h2 := HQ.out.dv
  clear hmi hq
  clear HB2 HP
  go_wp2_with (first | (refine wpList_new28 rfl rfl rfl _ _ rfl q ou du (fun _ => rfl) (fun _ => rfl) HQA.out h1 h2 ?_; refine Hid.out ?_))
  refine Lib.hid ?_
  intro g5 w4 hg_g5 hb haw
  replace HG := Lib.hid (HG.out.on haw)
  replace HA := Lib.hid (HA.out.on haw)
  replace HR := Lib.hid (HR.out.on haw)
  replace HQ := Lib.hid (HQ.out.on haw)
  clear haw
  have HB5 := Lib.hid hb
  clear hb
  go_wp2_with (first | (refine wpList_load28 rfl _ rfl _ rfl q _ _ (by exact HB5.out) HQA.out ?_))
  refine (ownP_c q _ _ _ HQ.out).mono ?_
  rintro E w5 ⟨o1, d1, rfl, hmi, haw⟩
  replace HG := Lib.hid (HG.out.on haw)
  replace HA := Lib.hid (HA.out.on haw)
  replace HR := Lib.hid (HR.out.on haw)
  replace HQ := Lib.hid (HQ.out.on haw)
  replace HB5 := Lib.hid (HB5.out.on haw)
  clear haw
  have HQ1 := Lib.hid (hmi.pkt HQW.out)
  clear hmi
  go_wp2_with fail
  refine (build_c q _ _ _ HQ1.out HG.out).mono ?_
  rintro E w6 ⟨v6, rfl, hown, hnew, haw⟩
  replace HG := Lib.hid (HG.out.on haw)
  replace HA := Lib.hid (HA.out.on haw)
  replace HR := Lib.hid (HR.out.on haw)
  replace HQ := Lib.hid (HQ.out.on haw)
  replace HB5 := Lib.hid (HB5.out.on haw)
  replace HQ1 := Lib.hid (HQ1.out.on haw)
  clear haw
  clear HQ1
  obtain ⟨c, hc4⟩ : ∃ c, c = lay4 q := ⟨_, rfl⟩
  rw [build_ok HQR.out] at hown
  rw [build_ok HQR.out]
  replace hown : Owns w6 v6 c := by rw [hc4]; exact hown
  have hbd := lay4_bd HQW.out HQR.out
  rw [← hc4] at hbd
  have HCP : Hid (parse4 c = (q, 0)) := by rw [hc4]; exact parse_lay4 HQW.out HQR.out
  obtain ⟨a6, c6, hv6, hcap6, hn6, hrow, -⟩ := hown.row (by omega) hbd.1
  subst hv6
  have HRC := Lib.hid hrow
  have hcl := hbd.2.1
  have HCB := Lib.hid hbd.1
  clear hown hnew hrow hbd hc4
  go_wp2_with fail
  refine (own_any a6 c _ c6 _ rfl HRC.out).mono ?_
  rintro E w7 ⟨v7, rfl, hown, hnew, haw, -, -⟩
  replace HG := Lib.hid (HG.out.on haw)
  replace HA := Lib.hid (HA.out.on haw)
  replace HR := Lib.hid (HR.out.on haw)
  replace HQ := Lib.hid (HQ.out.on haw)
  replace HB5 := Lib.hid (HB5.out.on haw)
  replace HRC := Lib.hid (HRC.out.on haw)
  clear haw
  clear HRC
  obtain ⟨a7, c7, hv7, hcap7, hn7, hrow, -⟩ := hown.row (by omega) HCB.out
  subst hv7
  have HRC := Lib.hid hrow
  clear hown hnew hrow
  go_wp2_with fail
  refine (parse_c a7 c _ c7 _ rfl hcap7 hn7 HRC.out HG.out).mono ?_
  rintro E w8 ⟨o2, d2, rfl, ho, hd, -, -, -, haw⟩
  replace HG := Lib.hid (HG.out.on haw)
  replace HA := Lib.hid (HA.out.on haw)
  replace HR := Lib.hid (HR.out.on haw)
  replace HQ := Lib.hid (HQ.out.on haw)
  replace HB5 := Lib.hid (HB5.out.on haw)
  replace HRC := Lib.hid (HRC.out.on haw)
  clear haw
  clear HRC
  rw [HCP.out] at ho hd ⊢
  have HQ2 := Lib.hid (pkt_of HQW.out ho hd)
  have h3 := HQ2.out.ov
  have h4 := HQ2.out.dv
  clear ho hd
  go_wp2_with (first | (refine wpList_new28 rfl rfl rfl _ _ rfl q o2 d2 (fun _ => rfl) (fun _ => rfl) HQA.out h3 h4 ?_; refine Hid.out ?_))
  refine Lib.hid ?_
  intro g8 w9 hg_g8 hb haw
  replace HG := Lib.hid (HG.out.on haw)
  replace HA := Lib.hid (HA.out.on haw)
  replace HR := Lib.hid (HR.out.on haw)
  replace HQ := Lib.hid (HQ.out.on haw)
  replace HB5 := Lib.hid (HB5.out.on haw)
  replace HQ2 := Lib.hid (HQ2.out.on haw)
  clear haw
  have HB8 := Lib.hid hb
  clear hb
  go_wp2_with (first | (refine wpList_load28 rfl _ rfl _ rfl q _ _ (by exact HB5.out) HQA.out ?_; refine Hid.out ?_))
  refine Lib.hid ?_
  go_wp2_with (first | (refine wpList_load28 rfl _ rfl _ rfl q _ _ (by exact HB8.out) HQA.out ?_; refine Hid.out ?_))
  refine Lib.hid ?_
  go_wp2_with fail
  refine (sameP_yes q q ou du o2 d2 _ HQ.out HQ2.out rfl).mono ?_
  rintro E w10 ⟨rfl, haw⟩
  replace HG := Lib.hid (HG.out.on haw)
  replace HA := Lib.hid (HA.out.on haw)
  replace HR := Lib.hid (HR.out.on haw)
  replace HQ := Lib.hid (HQ.out.on haw)
  replace HB5 := Lib.hid (HB5.out.on haw)
  replace HQ2 := Lib.hid (HQ2.out.on haw)
  replace HB8 := Lib.hid (HB8.out.on haw)
  clear haw
  clear HQ2 HB8
  go_wp2_with (first | (refine wpList_load28 rfl _ rfl _ rfl q _ _ (by exact HB5.out) HQA.out ?_))
  refine (right_c q _ _ _ HQ.out HG.out).mono ?_
  rintro E w11 ⟨rfl, haw⟩
  replace HG := Lib.hid (HG.out.on haw)
  replace HA := Lib.hid (HA.out.on haw)
  replace HR := Lib.hid (HR.out.on haw)
  replace HQ := Lib.hid (HQ.out.on haw)
  replace HB5 := Lib.hid (HB5.out.on haw)
  clear haw
  rw [HQR.out]
  clear HQ HB5
  go_wp2_with fail
  refine (own_any a l _ cap _ rfl HR.out).mono ?_
  rintro E w12 ⟨v12, rfl, hown, hnew, haw, -, -⟩
  replace HG := Lib.hid (HG.out.on haw)
  replace HA := Lib.hid (HA.out.on haw)
  replace HR := Lib.hid (HR.out.on haw)
  clear haw
  obtain ⟨a12, c12, hv12, hcap12, hn12, hrow, -⟩ := hown.row hln0 HBY.out
  subst hv12
  have HRC := Lib.hid hrow
  clear hown hnew hrow
  go_wp2_with fail
  refine (parse_c a12 l _ c12 _ rfl hcap12 hn12 HRC.out HG.out).mono ?_
  rintro E w13 ⟨ot, dt, rfl, ho, hd, -, -, -, haw⟩
  replace HG := Lib.hid (HG.out.on haw)
  replace HA := Lib.hid (HA.out.on haw)
  replace HR := Lib.hid (HR.out.on haw)
  replace HRC := Lib.hid (HRC.out.on haw)
  clear haw
  clear HRC
  have HTW := Lib.hid (parse4_wf HBY.out hln0)
  have HTA := Lib.hid HTW.out.ad
  have HT := Lib.hid (pkt_of HTW.out ho hd)
  have h5 := HT.out.ov
  have h6 := HT.out.dv
  have HTZ : Hid ((parse4 l).2 ≠ 0 → (parse4 l).1 = zeroPk) := parse4_no
  have HTL : Hid ((parse4 l).2 = 0 → rightP (parse4 l).1 = true ∧ lay4 (parse4 l).1 = l) := fun h => (lay_parse4 HBY.out hln0 (p := (parse4 l).1) (by rw [← h])).2
  clear ho hd
  generalize (parse4 l).1 = t at *
  generalize (parse4 l).2 = e at *
  go_wp2_with (first | (refine wpList_new28 rfl rfl rfl _ _ rfl t ot dt (fun _ => rfl) (fun _ => rfl) HTA.out h5 h6 ?_; refine Hid.out ?_))
  refine Lib.hid ?_
  intro g10 w14 hg_g10 hb haw
  replace HG := Lib.hid (HG.out.on haw)
  replace HA := Lib.hid (HA.out.on haw)
  replace HR := Lib.hid (HR.out.on haw)
  replace HT := Lib.hid (HT.out.on haw)
  clear haw
  have HB10 := Lib.hid hb
  clear hb
  by_cases he : e = 0
  · subst he
    obtain ⟨htr, htl⟩ := HTL.out rfl
    have HTR := Lib.hid htr
    have HTE := Lib.hid htl
    clear htr htl
    go_wp2_with (first | (refine wpList_load28 rfl _ rfl _ rfl t _ _ (by exact HB10.out) HTA.out ?_))
    refine (ownP_c t _ _ _ HT.out).mono ?_
    rintro E w15 ⟨o5, d5, rfl, hmi, haw⟩
    replace HG := Lib.hid (HG.out.on haw)
    replace HA := Lib.hid (HA.out.on haw)
    replace HR := Lib.hid (HR.out.on haw)
    replace HT := Lib.hid (HT.out.on haw)
    replace HB10 := Lib.hid (HB10.out.on haw)
    clear haw
    have HT1 := Lib.hid (hmi.pkt HTW.out)
    clear hmi
    go_wp2_with fail
    refine (build_c t _ _ _ HT1.out HG.out).mono ?_
    rintro E w16 ⟨v16, rfl, hown, hnew, haw⟩
    replace HG := Lib.hid (HG.out.on haw)
    replace HA := Lib.hid (HA.out.on haw)
    replace HR := Lib.hid (HR.out.on haw)
    replace HT := Lib.hid (HT.out.on haw)
    replace HB10 := Lib.hid (HB10.out.on haw)
    replace HT1 := Lib.hid (HT1.out.on haw)
    clear haw
    rw [build_ok HTR.out] at hown ⊢
    replace hown : Owns w16 v16 l := by have h := hown; rw [HTE.out] at h; exact h
    obtain ⟨a16, c16, hv16, hcap16, hn16, hrow, -⟩ := hown.row hln0 HBY.out
    subst hv16
    have HRC := Lib.hid hrow
    clear hown hnew hrow
    go_wp2_with fail
    refine (same_yes a16 a l l _ _ c16 cap _ rfl rfl hn16 hn HRC.out HR.out rfl).mono ?_
    rintro E w17 ⟨rfl, rfl⟩
    go_wp2_with (first | (refine wpList_load28 rfl _ rfl _ rfl t _ _ (by exact HB10.out) HTA.out ?_))
    refine (right_c t _ _ _ HT.out HG.out).mono ?_
    rintro E w18 ⟨rfl, haw⟩
    replace HG := Lib.hid (HG.out.on haw)
    replace HA := Lib.hid (HA.out.on haw)
    replace HR := Lib.hid (HR.out.on haw)
    replace HT := Lib.hid (HT.out.on haw)
    replace HB10 := Lib.hid (HB10.out.on haw)
    replace HT1 := Lib.hid (HT1.out.on haw)
    replace HRC := Lib.hid (HRC.out.on haw)
    clear haw
    rw [HTR.out]
    go_wp2_with fail
    go_ret
    exact ⟨rfl, HA.out.to_below⟩
  · have be : (e == 0) = false := by simp [he]
    have be2 : (e != 0) = true := by simp [he]
    obtain rfl := HTZ.out he
    go_wp2_with (first | (refine wpList_load28 rfl _ rfl _ rfl zeroPk _ _ (by exact HB10.out) HTA.out ?_))
    refine (sameP_yes zeroPk zeroPk ot dt (.slice none 0 0) (.slice none 0 0) _ HT.out (Pkt.zero _) rfl).mono ?_
    rintro E w15 ⟨rfl, haw⟩
    replace HG := Lib.hid (HG.out.on haw)
    replace HA := Lib.hid (HA.out.on haw)
    replace HR := Lib.hid (HR.out.on haw)
    replace HT := Lib.hid (HT.out.on haw)
    replace HB10 := Lib.hid (HB10.out.on haw)
    clear haw
    go_wp2_with fail
    go_ret
    exact ⟨rfl, HA.out.to_below⟩
namespace ip4Back
theorem contract (H : Type) (enc : TypeId × Value → H) (W : World) (base : Nat) (args : Array Value) (ds gs : List (DataW H)) (before : List MemPlace)
    (hval0 : ∀ (j : Nat) t v, Tryd.f3.params[j]? = some t → args[j]? = some v → Value.okWide Tryd.prog W .any base t v)
    (hW : DataW.Whole enc Tryd.prog Tryd.f3.params.toList Rows.ip4BackSpec.vars false W args.toList ds gs before)
    (hsz0 : (DataW.weightsEach Tryd.prog (Tryd.f3.params.toList ++ Rows.ip4BackSpec.plain.varTypes Tryd.prog) (ds ++ gs)).all (· ≤ reachBytes) = true)
    (hL : laidMetH Tryd.prog Rows.ip4BackRow.laid W) :
    Calls Tryd.prog 3 args W fun e W' => ∃ v, e = .returned v ∧ Rows.ip4BackSpec.post enc Tryd.prog Tryd.f3 false true false false W args v W' := by
  have hval := hval0
  have hsz := hsz0
  have hW' := hW
  obtain ⟨p, q, hA0, hV, rfl, hfz, hnd⟩ := hW
  have hA : DataW.TrodAll enc Tryd.prog W 0 (fun _ => true) true Tryd.f3.params.toList args.toList ds p := hA0
  rw [Tryd.params3] at hA hval hsz
  obtain ⟨v0, vs0, d0, ds0, p0, q0, hargs, rfl, rfl, h0, r0⟩ := trodAll_cons hA
  obtain ⟨v1, vs1, d1, ds1, p1, q1, rfl, rfl, rfl, h1, r1⟩ := trodAll_cons r0
  obtain ⟨rfl, rfl, rfl⟩ := trodAll_nil r1
  obtain rfl : args = #[v0, v1] := by cases args; simp_all
  obtain ⟨rfl, rfl⟩ := trodVars_none hV
  have k0 := h0
  have lt0 : ∀ x ∈ p0, x.block < W.heap.size := by obtain ⟨m, hm⟩ := k0; exact DataW.trod_lt m _ _ _ hm
  have z0 : ∀ m ∈ d0.weights Tryd.prog 28, m ≤ reachBytes := fun m hm => by
    have := List.all_eq_true.1 hsz m (DataW.weights_mem_each (j := 0) (t := 28) rfl rfl m hm)
    simpa using this
  obtain ⟨x0, ov0, dv0, rfl, w0, ol0, dl0⟩ := open_pkt (hval 0 28 v0 rfl rfl) h0 z0
  have k1 := h1
  have lt1 : ∀ x ∈ p1, x.block < W.heap.size := by obtain ⟨m, hm⟩ := k1; exact DataW.trod_lt m _ _ _ hm
  have z1 : ∀ m ∈ d1.weights Tryd.prog 26, m ≤ reachBytes := fun m hm => by
    have := List.all_eq_true.1 hsz m (DataW.weights_mem_each (j := 1) (t := 26) rfl rfl m hm)
    simpa using this
  obtain ⟨a1, len1, cap1, rfl⟩ := okWide_slice Tryd.underlying26 (hval 1 26 v1 rfl rfl)
  obtain ⟨l1, rfl, c1, cc1, w1, n1, u1⟩ := open_bytes h1 z1
  clear hA0 hval0
  refine (walk x0 ov0 dv0 a1 l1 cap1 W (glob_of hL) w0 ol0 dl0 c1 w1 n1 cc1).mono fun e W' ⟨he, bel⟩ => ?_
  subst he
  exact ⟨_, rfl, _, _, _, [], _, [], hW', trodAll_mk1 (shut_bool Tryd.underlying4 _), (trodAll_cons_mk (Below.trod laidOut (by kernel_rfl) (of_decide_eq_true (by kernel_rfl)) k0 bel lt0) (trodAll_cons_mk (Below.trod laidOut (by kernel_rfl) (of_decide_eq_true (by kernel_rfl)) k1 bel lt1) trodAll_mk0)), rfl, bel.frame _, fun h => by cases h⟩
theorem laid_met (os : Os) : laidMet Tryd.prog Rows.ip4BackRow.laid ((laidWorld Tryd.prog os).forCall (fun _ _ => 0) ⟨#[], #[.agg (csP zeroPk (.slice none 0 0) (.slice none 0 0)), .slice none 0 0], []⟩).memory :=
  laidMet_of_run' 8 (by kernel_rfl) (by kernel_rfl)
theorem reads (os : Os) {H : Type} (enc : TypeId × Value → H) : ∃ places, DataW.whole enc Tryd.prog ((laidWorld Tryd.prog os).forCall (fun _ _ => 0) ⟨#[], #[.agg (csP zeroPk (.slice none 0 0) (.slice none 0 0)), .slice none 0 0], []⟩).memory Tryd.f3.params.toList Rows.ip4BackSpec.vars false #[.agg (csP zeroPk (.slice none 0 0) (.slice none 0 0)), .slice none 0 0].toList 8 = some ([.agg [.lit (.int .i64 0), .lit (.int .i64 0), .lit (.int .i64 0), .agg [.lit (.int .i64 0), .agg [.lit (.int .u8 0), .lit (.int .u8 0), .lit (.int .u8 0), .lit (.int .u8 0), .lit (.int .u8 0), .lit (.int .u8 0), .lit (.int .u8 0), .lit (.int .u8 0), .lit (.int .u8 0), .lit (.int .u8 0), .lit (.int .u8 0), .lit (.int .u8 0), .lit (.int .u8 0), .lit (.int .u8 0), .lit (.int .u8 0), .lit (.int .u8 0)]], .agg [.lit (.int .i64 0), .agg [.lit (.int .u8 0), .lit (.int .u8 0), .lit (.int .u8 0), .lit (.int .u8 0), .lit (.int .u8 0), .lit (.int .u8 0), .lit (.int .u8 0), .lit (.int .u8 0), .lit (.int .u8 0), .lit (.int .u8 0), .lit (.int .u8 0), .lit (.int .u8 0), .lit (.int .u8 0), .lit (.int .u8 0), .lit (.int .u8 0), .lit (.int .u8 0)]], .lit (.int .i64 0), .lit (.int .i64 0), .lit (.int .u32 0), .lit (.bool false), .lit (.bool false), .lit (.bool false), .lit (.int .i64 0), .nil, .nil], .nil], [], places) :=
  ⟨[], by kernel_rfl⟩
theorem lifted (os : Os) (started : os.Started) (H : Type) (enc : TypeId × Value → H) (F : Stop.Interp) :
    ReturnsInHanded {} Tryd.checked os 3 .any ((OpenSpec.ofChange Rows.ip4BackSpec).preRow enc Tryd.prog Tryd.f3 Rows.ip4BackRow.domain false Rows.ip4BackRow.laid) (((OpenSpec.ofChange Rows.ip4BackSpec).at F).post enc Tryd.prog Tryd.f3 false true false false) := by
  obtain ⟨places, hx⟩ := reads os enc
  refine returnsInHanded_of_row (C := Tryd.checked) (s := OpenSpec.ofChange Rows.ip4BackSpec) ownKn started (by kernel_rfl) Tryd.func3
    (witness_row_at (enc := enc) (C := Tryd.checked) false (laidWorld Tryd.prog os) #[.agg (csP zeroPk (.slice none 0 0) (.slice none 0 0)), .slice none 0 0] rfl (by kernel_rfl) (by kernel_rfl) (by kernel_rfl)
      (OpenSpec.preRow_of_cond 8 hx (by kernel_rfl) (fun k hk => by cases hk) (by kernel_rfl) (laid_met os))) ?_
  intro W base args ds gs before hval hW _ hcond hsz hL hS _
  exact contract H enc W base args ds gs before hval hW hsz hL
theorem said : Rows.Ip4BackSaid :=
  OpenClaim.holds_of_cond 3 Tryd.f3 rfl rfl rfl rfl rfl rfl rfl ⟨rfl, rfl, rfl, rfl, rfl⟩ rfl rfl rfl rfl rfl (by kernel_rfl) Tryd.func3 (by kernel_rfl)
    (of_decide_eq_true (by kernel_rfl)) (by unfold Func.isWrapper; first | (rw [if_pos (by decide +kernel)]; kernel_rfl) | (rw [if_neg (by decide +kernel)]; exact ⟨rfl, rfl⟩))
    (fun os started H enc _ F => by rw [OpenClaim.pre_eq_preRow]; exact lifted os started H enc F)
theorem plain (f : FuncId) (fn : Func) (hf : Tryd.pinned.checked.prog.funcNamed "mosaic/mosaiclaw05.Ip4Back" = some f) (hfn : Tryd.pinned.checked.prog.funcs[f]? = some fn) :
    false = Tryd.pinned.checked.prog.looks [] ∧ ∀ (j : Nat) t, fn.params[j]? = some t → Tryd.pinned.checked.prog.wantsStandIn t = false := by
  obtain rfl : f = 3 := Option.some.inj ((show Tryd.prog.funcNamed "mosaic/mosaiclaw05.Ip4Back" = some 3 by kernel_rfl).symm.trans hf) |>.symm
  obtain rfl : fn = Tryd.f3 := (Option.some.inj (Tryd.func3.symm.trans hfn)).symm
  refine ⟨by kernel_rfl, fun j t ht => ?_⟩
  rw [Tryd.params3] at ht
  have hm := Array.mem_of_getElem? ht
  simp only [List.mem_toArray, List.mem_cons, List.not_mem_nil, or_false] at hm
  have h28 : Tryd.prog.wantsStandIn 28 = false := by kernel_rfl
  have h26 : Tryd.prog.wantsStandIn 26 = false := by kernel_rfl
  have h3 : Tryd.prog.wantsStandIn 3 = false := by kernel_rfl
  rcases hm with rfl | rfl
  all_goals first | exact h28 | exact h26 | exact h3
theorem card : Rows.Ip4BackCardSaid :=
  Claim7.holds_tied_plain_at .later [] _ _ _ _ said (fun _ h => by cases h) (by kernel_rfl) (fun _ h => by cases h) ip4Back_row_tie rfl ⟨rfl, rfl⟩ (by kernel_rfl) rfl plain (by kernel_rfl)
end ip4Back
theorem ip4Back_holds : Rows.Ip4BackCardSaid := ip4Back.card
#print axioms ip4Back_holds
end Go.Proofs.YtkfbhofbajejiaaDoor
