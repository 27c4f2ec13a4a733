/-
  The law's about.
-/
import Derived.Test.YtbgpjhekohabiabDoorSnA
import Derived.Test.YtbgpjhekohabiabDoorOwnP
import Derived.Test.YtbgpjhekohabiabDoorLm
import Derived.Test.YtbgpjhekohabiabDoorKit
import Derived.Lib.MinMax
import Derived.BigQuiet
import Derived.Deep.Cut
namespace Go.Proofs.YtbgpjhekohabiabDoor
open Go.ChangeShapes Go.WideShapes Go.ChangeAt Go.RowKit Go.Deep Num
set_option linter.unusedVariables false
set_option maxHeartbeats 8000000
set_option maxRecDepth 100000

theorem and65535 (n : Int) : 0 ≤ bits .and .i64 n 65535 ∧ bits .and .i64 n 65535 ≤ 65535 := by
  have h : (BitVec.ofInt 64 65535).toNat = 65535 := by decide
  have key : (BitVec.ofInt 64 n &&& BitVec.ofInt 64 65535).toNat ≤ 65535 := by rw [BitVec.toNat_and, h]; exact Nat.and_le_right
  have e : bits .and .i64 n 65535 = IntKind.i64.wrap ((BitVec.ofInt 64 n &&& BitVec.ofInt 64 65535).toNat : Nat) := rfl
  generalize (BitVec.ofInt 64 n &&& BitVec.ofInt 64 65535).toNat = m at *
  rw [e, IntKind.wrap_i64]; omega
theorem errs_bytes {b : List Int} (hb : Bytes b) (hn : b.length ≤ 65575) {p : Pk} {n : Nat} {t : Int} {k : Nat} {m : Mg} (h : Seen p b n t k m) (h0 : 0 ≤ t) (h1 : t ≤ 65535) (hp : i64ok p.v) (hk : k < 5) : WfM m := by
  have hm : m = (errsP b t k).1 := by rw [h.e]
  have hre := h.re
  refine ⟨by rw [h.v]; exact hp, ?_, ?_, ?_, ?_, by rw [h.d]; exact hb.take _, by have := h.dl; omega⟩
  · rw [hm]; unfold errsP bigP aboutP
    obtain rfl | rfl | rfl | rfl | rfl : k = 0 ∨ k = 1 ∨ k = 2 ∨ k = 3 ∨ k = 4 := by omega
    all_goals (simp only [ty4, ty6, zeroMg]; repeat' split)
    all_goals simp [i64ok]
  · rw [hm]; unfold errsP bigP aboutP
    obtain rfl | rfl | rfl | rfl | rfl : k = 0 ∨ k = 1 ∨ k = 2 ∨ k = 3 ∨ k = 4 := by omega
    all_goals (simp only [co4, co6, zeroMg]; repeat' split)
    all_goals simp [i64ok]
  · rw [hre]; split <;> omega
  · rw [hre]; split <;> omega
theorem pk_cut_wf {p : Pk} (h : Wf p) (n : Nat) : Wf { p with d := p.d.take n } := by
  obtain ⟨a1, a2, a3, a4, a5, a6, a7, a8, a9, a10, a11, a12, a13, a14, a15, a16, a17, a18⟩ := h
  exact ⟨a1, a2, a3, a4, a5, a6, a7, a8, a9, a10, a11, a12, a13, a14, a15, a16, a17.take n, by simp; omega⟩
theorem labout_c (p : Pk) (ov dv : Value) (b : List Int) (ba : Option Addr) (bl bc n : Nat) (mtu t : Int) (W : World) (hg : Glob W) (hp : Pkt W p ov dv) (hrow : Row W ba b) (hbl : b.length = bl) (hcap : bl ≤ bc) (hbn : ba = none → bc = 0) (hb5 : b.length ≤ 65575) (hn : n ≤ 100000) (ht : t = bits .and .i64 mtu 65535) (hs : ∀ k, k < 5 → ∃ m, Seen p b n t k m) :
    Calls Tryd.prog 14 #[.agg (csP p ov dv), .slice ba bl bc, .int .i64 (n : Int), .int .i64 mtu] W fun E w' => E = .returned (.bool true) ∧ Away [] W w' := by
  have HT0 := and65535 mtu
  rw [← ht] at HT0
  have HT := Lib.hid ht
  have HAD := Lib.hid hp.wf.ad
  have HWF := Lib.hid hp.wf
  have HP := Lib.hid hp
  have HG := Lib.hid hg
  have HR := Lib.hid hrow
  have HBL := Lib.hid hbl
  have HBN := Lib.hid hbn
  have HSN := Lib.hid hs
  have HBY := Lib.hid hrow.2.1
  have HA : Hid (Away [] W W) := Away.refl _ _
  have hcd := hp.wf.dn
  clear hp hg hrow hbl hbn hs ht
  go_enter Tryd.func14, Tryd.ntmps14
  go_wp2_with (refine wpList_box28 rfl _ rfl p ov dv rfl ?_; refine Hid.out ?_)
  refine Lib.hid ?_
  intro g4 w1 hg_g4 hb haw
  replace HA := Lib.hid (HA.out.on haw)
  replace HP := Lib.hid (HP.out.on haw)
  clear haw
  have H4 := Lib.hid hb
  have hl_g4 := hb.lt
  clear hb
  go_wp2_with (first | (refine wpList_load28 rfl _ rfl g4 rfl p _ _ (by exact H4.out) HAD.out ?_))
  refine (ownP_c p ov dv _ (by exact HP.out)).mono ?_
  rintro E w2 ⟨o1, d1, rfl, hmine, haw⟩
  replace HA := Lib.hid (HA.out.on haw)
  replace HP := Lib.hid (HP.out.on haw)
  replace H4 := Lib.hid (H4.out.on haw)
  clear haw
  have HM1 := Lib.hid hmine
  clear hmine
  obtain ⟨da, dc, hd1, hdc, hdn⟩ := HM1.out.d.slc
  subst hd1
  have HO1 : Hid (o1.oneCell' = true) := (HM1.out.o.sl HWF.out.o HWF.out.ol).one
  have HSO : Hid (Sl w2 o1 p.o) := HM1.out.o.sl HWF.out.o HWF.out.ol
  have HRD : Hid (Row w2 da p.d) := (HM1.out.d.row' HWF.out.dn HWF.out.d)
  clear HM1
  go_wp2_with (refine wpList_new28 rfl rfl rfl _ _ rfl p o1 (.slice da p.d.length dc) (fun _ => rfl) (fun _ => rfl) HAD.out HO1.out rfl ?_; refine Hid.out ?_)
  refine Lib.hid ?_
  intro g9 w3 hg_g9 hb haw
  have H9 := Lib.hid hb
  have HAW9 := Lib.hid haw
  clear hb haw
  obtain ⟨z, hz⟩ : ∃ z, z = min n p.d.length := ⟨_, rfl⟩
  have hz1 : z ≤ p.d.length := by omega
  have HZ : Hid (p.d.take z = p.d.take n) := by
    show _ = _
    rcases Nat.le_total n p.d.length with h | h
    · rw [show z = n from by omega]
    · rw [List.take_of_length_le (by omega), List.take_of_length_le (by omega)]
  have c45 : w3.cell? ⟨g9, 45, none⟩ = some (.slice da p.d.length dc) := (H9.out.cells HAD.out).d
  have f45 := H9.out.free 45
  have s1 := slice_h da p.d.length dc z (z : Int) rfl (by omega)
  have HSZ : Hid (Sl w2 (.slice da z dc) (p.d.take n)) := by
    show Sl _ _ _
    rw [← HZ.out]
    exact ⟨da, dc, by rw [List.length_take, Nat.min_eq_left hz1], by rw [List.length_take]; omega, hdc, HRD.out.head z⟩
  clear HRD
  have HDN := Lib.hid hdc
  clear hdc
  have hmn : min (n : Int) (p.d.length : Int) = (z : Int) := by omega
  clear hz
  go_upto_region 3 with fail
  have hB := H9.out.put 45 (.slice da z dc) ((csP_set HAD.out _ _).2.2.2.2.2.2.2.2.2.2.2.2.2 (p.d.take z) (.slice da z dc))
  have haw : Away [] w2 (w3.setCell ⟨g9, 45, none⟩ (.slice da z dc)) := HAW9.out.setCell (.inr hg_g9) _
  clear c45 f45 s1 HAW9 H9 hmn
  generalize w3.setCell ⟨g9, 45, none⟩ (.slice da z dc) = wz at *
  replace HA := Lib.hid (HA.out.on haw)
  replace HP := Lib.hid (HP.out.on haw)
  replace H4 := Lib.hid (H4.out.on haw)
  replace HSO := Lib.hid (HSO.out.on haw)
  replace HSZ := Lib.hid (HSZ.out.on haw)
  clear haw
  rw [HZ.out] at hB
  have H9 := Lib.hid hB
  clear hB
  have HR := Lib.hid (HR.out.on HA.out)
  go_wp2_with fail
  go_loopw [10] (fun i wr => ∃ k : Nat, k ≤ 5 ∧ i = .int .i64 (k : Int) ∧ Away [] wz wr) (fun i _ => 5 - (intOf i).toNat)
  case atStart => exact ⟨0, by omega, rfl, Away.refl _ _⟩
  case round =>
    obtain ⟨k, hk, rfl, haw0⟩ := hrel
    have haw := haw0
    have HAWX := Lib.hid haw0
    clear haw0
    replace HA := Lib.hid (HA.out.on haw)
    replace HP := Lib.hid (HP.out.on haw)
    replace H4 := Lib.hid (H4.out.on haw)
    replace HSO := Lib.hid (HSO.out.on haw)
    replace HSZ := Lib.hid (HSZ.out.on haw)
    replace H9 := Lib.hid (H9.out.on haw)
    replace HR := Lib.hid (HR.out.on haw)
    clear haw
    by_cases hlt5 : k < 5
    · obtain ⟨m, hsn⟩ := HSN.out k hlt5
      have HE := Lib.hid hsn.e
      have HV := Lib.hid hsn.v
      have HER := Lib.hid hsn.er
      have HLK := Lib.hid hsn.lk
      have HRE := Lib.hid hsn.re
      have HMD := Lib.hid hsn.d
      have hdl := hsn.dl
      have hd1 := hsn.d1
      have HD4 := Lib.hid hsn.d4
      have HWM := Lib.hid (errs_bytes HBY.out hb5 hsn HT0.1 HT0.2 HWF.out.v hlt5)
      clear hsn
      have t1 : (k : Int) < 5 := by omega
      go_wp2_with fail
      refine (own_any ba b bl bc _ HBL.out (by exact HR.out)).mono ?_
      rintro E w4 ⟨vo, rfl, hown, hnew, haw, -, -⟩
      replace HA := Lib.hid (HA.out.on haw)
      replace HP := Lib.hid (HP.out.on haw)
      replace H4 := Lib.hid (H4.out.on haw)
      replace HSO := Lib.hid (HSO.out.on haw)
      replace HSZ := Lib.hid (HSZ.out.on haw)
      replace H9 := Lib.hid (H9.out.on haw)
      replace HR := Lib.hid (HR.out.on haw)
      replace HAWX := Lib.hid (HAWX.out.on haw)
      clear haw
      have HOO := Lib.hid hown
      clear hown
      obtain ⟨oa, oc, hvo, ho1, ho2⟩ := HOO.out.slc
      subst hvo
      go_wp2_with fail
      rw [← HT.out]
      refine (errors_c k oa b oc t _ hlt5 (by exact HOO.out.row' (by omega) HBY.out) ho2 ho1 (by exact HG.out.on HA.out)).mono ?_
      rw [HE.out]
      rintro E w5 ⟨vm, rfl, hown, hnew2, haw⟩
      replace HA := Lib.hid (HA.out.on haw)
      replace HP := Lib.hid (HP.out.on haw)
      replace H4 := Lib.hid (H4.out.on haw)
      replace HSO := Lib.hid (HSO.out.on haw)
      replace HSZ := Lib.hid (HSZ.out.on haw)
      replace H9 := Lib.hid (H9.out.on haw)
      replace HR := Lib.hid (HR.out.on haw)
      replace HAWX := Lib.hid (HAWX.out.on haw)
      replace HOO := Lib.hid (HOO.out.on haw)
      clear haw
      have HVM := Lib.hid hown
      clear hown
      clear HOO
      obtain ⟨ma, mc, hvm, hm1, hm2⟩ := HVM.out.slc
      subst hvm
      go_wp2_with (refine wpList_newM rfl rfl rfl _ _ rfl m (.slice ma m.d.length mc) (fun _ => rfl) (fun _ => rfl) rfl ?_; refine Hid.out ?_)
      refine Lib.hid ?_
      intro g11 w6 hg_g11 hb haw
      replace HA := Lib.hid (HA.out.on haw)
      replace HP := Lib.hid (HP.out.on haw)
      replace H4 := Lib.hid (H4.out.on haw)
      replace HSO := Lib.hid (HSO.out.on haw)
      replace HSZ := Lib.hid (HSZ.out.on haw)
      replace H9 := Lib.hid (H9.out.on haw)
      replace HR := Lib.hid (HR.out.on haw)
      replace HAWX := Lib.hid (HAWX.out.on haw)
      replace HVM := Lib.hid (HVM.out.on haw)
      clear haw
      have H11 := Lib.hid hb
      have hl_g11 := hb.lt
      clear hb
      have HSM : Hid (Sl w6 (.slice ma m.d.length mc) m.d) := HVM.out.sl HWM.out.d HWM.out.dn
      clear HVM
      go_wp2_with (first | (refine wpList_loadM rfl _ rfl g11 rfl m _ (by exact H11.out) ?_))
      refine (look_c m (.slice ma m.d.length mc) _ (by exact ⟨HWM.out, HSM.out⟩) (by exact HG.out.on HA.out)).mono ?_
      rw [HLK.out]
      rintro E w7 ⟨qo, qd, rfl, hqo, hqd, -, -, -, haw⟩
      replace HA := Lib.hid (HA.out.on haw)
      replace HP := Lib.hid (HP.out.on haw)
      replace H4 := Lib.hid (H4.out.on haw)
      replace HSO := Lib.hid (HSO.out.on haw)
      replace HSZ := Lib.hid (HSZ.out.on haw)
      replace H9 := Lib.hid (H9.out.on haw)
      replace HR := Lib.hid (HR.out.on haw)
      replace HAWX := Lib.hid (HAWX.out.on haw)
      replace H11 := Lib.hid (H11.out.on haw)
      replace HSM := Lib.hid (HSM.out.on haw)
      clear haw
      have HQO := Lib.hid hqo
      have HQD := Lib.hid hqd
      clear hqo hqd
      obtain ⟨qp, hqp⟩ : ∃ qp : Pk, qp = { p with d := p.d.take n } := ⟨_, rfl⟩
      have HQA : Hid (Ad qp) := by rw [hqp]; exact ⟨HAD.out.1, HAD.out.2⟩
      have HQW : Hid (Wf qp) := by rw [hqp]; exact pk_cut_wf HWF.out n
      have HQP : Hid (Pkt w7 qp qo qd) := by rw [hqp]; exact ⟨pk_cut_wf HWF.out n, HQO.out.sl HWF.out.o HWF.out.ol, HQD.out.sl (HWF.out.d.take n) (by have := HWF.out.dn; simp only [List.length_take]; omega)⟩
      have HWP : Hid (Pkt w7 qp o1 (.slice da z dc)) := by rw [hqp]; exact ⟨pk_cut_wf HWF.out n, HSO.out, HSZ.out⟩
      have H9B : Hid (BoxP w7 g9 qp o1 (.slice da z dc)) := by rw [hqp]; exact H9.out
      rw [← hqp]
      clear HQO HQD H9
      clear hqp
      obtain ⟨q1, q2⟩ : qo.oneCell' = true ∧ qd.oneCell' = true := ⟨HQP.out.ov, HQP.out.dv⟩
      go_wp2_with (refine wpList_new28 rfl rfl rfl _ _ rfl qp qo qd (fun _ => rfl) (fun _ => rfl) HQA.out q1 q2 ?_; refine Hid.out ?_)
      refine Lib.hid ?_
      intro g13 w8 hg_g13 hb haw
      replace HA := Lib.hid (HA.out.on haw)
      replace HP := Lib.hid (HP.out.on haw)
      replace H4 := Lib.hid (H4.out.on haw)
      replace HSO := Lib.hid (HSO.out.on haw)
      replace HSZ := Lib.hid (HSZ.out.on haw)
      replace HR := Lib.hid (HR.out.on haw)
      replace HAWX := Lib.hid (HAWX.out.on haw)
      replace H11 := Lib.hid (H11.out.on haw)
      replace HSM := Lib.hid (HSM.out.on haw)
      replace HQP := Lib.hid (HQP.out.on haw)
      replace HWP := Lib.hid (HWP.out.on haw)
      replace H9B := Lib.hid (H9B.out.on haw)
      clear haw
      have H13 := Lib.hid hb
      have hl_g13 := hb.lt
      clear hb
      clear q1 q2
      have hb1 : (m.v != p.v) = false := by rw [HV.out]; simp
      have k0 := H11.out.c0
      have k4 := (H4.out.cells HAD.out).v
      go_wp2_with (first | (refine wpList_loadM rfl _ rfl g11 rfl m _ (by exact H11.out) ?_))
      refine (isError_c m (.slice ma m.d.length mc) _).mono ?_
      rw [HER.out]
      rintro E w9 ⟨rfl, haw⟩
      replace HA := Lib.hid (HA.out.on haw)
      replace HP := Lib.hid (HP.out.on haw)
      replace H4 := Lib.hid (H4.out.on haw)
      replace HSO := Lib.hid (HSO.out.on haw)
      replace HSZ := Lib.hid (HSZ.out.on haw)
      replace HR := Lib.hid (HR.out.on haw)
      replace HAWX := Lib.hid (HAWX.out.on haw)
      replace H11 := Lib.hid (H11.out.on haw)
      replace HSM := Lib.hid (HSM.out.on haw)
      replace HQP := Lib.hid (HQP.out.on haw)
      replace HWP := Lib.hid (HWP.out.on haw)
      replace H9B := Lib.hid (H9B.out.on haw)
      replace H13 := Lib.hid (H13.out.on haw)
      clear haw
      clear k0 k4
      go_wp2_with (first | (refine wpList_load28 rfl _ rfl g13 rfl qp qo qd (by exact H13.out) HQA.out ?_) | (refine wpList_load28 rfl _ rfl g9 rfl qp o1 (.slice da z dc) (by exact H9B.out) HQA.out ?_))
      refine (sameP_yes qp qp qo qd o1 (.slice da z dc) _ (by exact HQP.out) (by exact HWP.out) rfl).mono ?_
      rintro E w10 ⟨rfl, haw⟩
      replace HA := Lib.hid (HA.out.on haw)
      replace HP := Lib.hid (HP.out.on haw)
      replace H4 := Lib.hid (H4.out.on haw)
      replace HSO := Lib.hid (HSO.out.on haw)
      replace HSZ := Lib.hid (HSZ.out.on haw)
      replace HR := Lib.hid (HR.out.on haw)
      replace HAWX := Lib.hid (HAWX.out.on haw)
      replace H11 := Lib.hid (H11.out.on haw)
      replace HSM := Lib.hid (HSM.out.on haw)
      replace HQP := Lib.hid (HQP.out.on haw)
      replace HWP := Lib.hid (HWP.out.on haw)
      replace H9B := Lib.hid (H9B.out.on haw)
      replace H13 := Lib.hid (H13.out.on haw)
      clear haw
      clear HQP H13 H9B HWP
      have HLB : Hid ((b.length : Int) = (bl : Int)) := by show _ = _; rw [HBL.out]
      have bq : bits .and .i64 mtu 65535 = t := HT.out.symm
      have bl1 : ((b.length : Int) != (bl : Int)) = false := by rw [HBL.out]; simp
      have k3 := H11.out.c3
      have k4 := H11.out.c4
      have kv := (H4.out.cells HAD.out).v
      have e1 : decide (1232 < (m.d.length : Int)) = false := decide_eq_false (by omega)
      by_cases hk0 : k = 0
      · have HRZ : Hid (m.re = t) := by show _ = _; rw [HRE.out, if_pos hk0]
        have HK0 := Lib.hid hk0
        have z1 : ((k : Int) == 0) = true := by rw [hk0]; rfl
        have z2 : decide (0 < (k : Int)) = false := decide_eq_false (by omega)
        have z3 : decide (0 < k) = false := decide_eq_false (by omega)
        clear hk0
        rw [HRZ.out] at k3
        have cv : IntKind.i64.wrap t = t := by rw [IntKind.wrap_i64]; have := HT0; omega
        by_cases hv4 : p.v = 4
        · have v1 : (p.v == 4) = true := by rw [hv4]; rfl
          have e2 : decide (68 < (m.d.length : Int)) = false := decide_eq_false (by have := HD4.out hv4; omega)
          have HV4 := Lib.hid hv4
          clear hv4
          go_upto_region 12 with fail
          clear k3 kv
          have g1 : decide ((bl : Int) < (m.d.length : Int)) = false := decide_eq_false (by have := HBL.out; omega)
          have g2 : decide (bl < m.d.length) = false := decide_eq_false (by have := HBL.out; omega)
          have s2 := slice_h ba bl bc m.d.length (m.d.length : Int) rfl (by have := HBL.out; omega)
          have KS : Hid (∀ V, Away [] w10 V → Calls Tryd.prog 18 #[.slice ma m.d.length mc, .slice ba m.d.length bc] V fun E w' => E = .returned (.bool true) ∧ Away [] w10 w') := fun V hV => (same_yes ma ba m.d (b.take m.d.length) _ _ mc bc _ rfl (by rw [List.length_take]; omega) hm1 HBN.out (by obtain ⟨_, _, _, x⟩ := (HSM.out.on hV).of; exact x) ((HR.out.on hV).head _) HMD.out).mono (fun _ _ h => ⟨h.1, by rw [h.2]; exact hV⟩)
          refine S6.wp_region_cls (C := fun V => Away [] w10 V) (by kernel_rfl) (by kernel_rfl) ((Away.refl [] _).drew) ?_
          go_big_quiet_want; (refine S6.quiet_val ?_ ?_ ?_; rotate_left; (intro w; go_simp; rfl); go_simp; go_big_quiet_on)
          go_big_quiet_want; refine S6.quiet_ld _ rfl (ad := ⟨g11, 4, none⟩) rfl (fun w' h => S6.ld26 (h.cell (by simp) k4)) ?_; go_simp; go_big_quiet_on
          go_big_quiet_want; (refine S6.quiet_val ?_ ?_ ?_; rotate_left; (intro w; go_simp; rfl); go_simp; go_big_quiet_on)
          go_big_quiet_want; (refine S6.quiet_val ?_ ?_ ?_; rotate_left; (intro w; go_simp; rfl); go_simp; go_big_quiet_on)
          go_big_quiet_want; (refine S6.quiet_val ?_ ?_ ?_; rotate_left; (intro w; go_simp; rfl); go_simp; go_big_quiet_on)
          go_big_quiet_want; (refine S6.quiet_val ?_ ?_ ?_; rotate_left; (intro w; go_simp; rfl); go_simp; go_big_quiet_on)
          go_big_quiet_want; (refine S6.quiet_val ?_ ?_ ?_; rotate_left; (intro w; go_simp; rfl); go_simp; go_big_quiet_on)
          go_big_quiet_want; (refine S6.quiet_val ?_ ?_ ?_; rotate_left; (intro w; go_simp; rfl); go_simp; go_big_quiet_on)
          go_big_quiet_want; refine S6.quiet_ld _ rfl (ad := ⟨g11, 4, none⟩) rfl (fun w' h => S6.ld26 (h.cell (by simp) k4)) ?_; go_simp; go_big_quiet_on
          go_big_quiet_want; (refine S6.quiet_val ?_ ?_ ?_; rotate_left; (intro w; go_simp; rfl); go_simp; go_big_quiet_on)
          go_big_quiet_want; (refine S6.quiet_val ?_ ?_ ?_; rotate_left; (intro w; go_simp; rfl); go_simp; go_big_quiet_on)
          go_big_quiet_want; refine S6.quiet_ld _ rfl (ad := ⟨g11, 4, none⟩) rfl (fun w' h => S6.ld26 (h.cell (by simp) k4)) ?_; go_simp; go_big_quiet_on
          go_big_quiet_want; (refine S6.quiet_val ?_ ?_ ?_; rotate_left; (intro w; go_simp; rfl); go_simp; go_big_quiet_on)
          go_big_quiet_want; (refine S6.quiet_val ?_ ?_ ?_; rotate_left; (intro w; go_simp; rfl); go_simp; go_big_quiet_on)
          go_big_quiet_want; refine S6.quiet_call 18 #[.slice ma m.d.length mc, .slice ba m.d.length bc] (.bool true) ?_ KS.out ?_
          · intro w; go_simp; done
          go_simp; go_big_quiet_on
          go_big_quiet_want; (refine S6.quiet_val ?_ ?_ ?_; rotate_left; (intro w; go_simp; rfl); go_simp; go_big_quiet_on)
          go_big_quiet_want; (refine S6.quiet_val ?_ ?_ ?_; rotate_left; (intro w; go_simp; rfl); go_simp; go_big_quiet_on)
          refine wpQuiet_nil ?_
          intro V hV
          go_wp2_with fail
          go_roundw
          case rel => exact ⟨k + 1, by omega, by go_num, HAWX.out.on hV⟩
          case measure => simp [intOf]; omega
        · have v1 : (p.v == 4) = false := beq_eq_false_iff_ne.2 hv4
          have HV4 := Lib.hid hv4
          clear hv4
          go_upto_region 12 with fail
          clear k3 kv
          have g1 : decide ((bl : Int) < (m.d.length : Int)) = false := decide_eq_false (by have := HBL.out; omega)
          have g2 : decide (bl < m.d.length) = false := decide_eq_false (by have := HBL.out; omega)
          have s2 := slice_h ba bl bc m.d.length (m.d.length : Int) rfl (by have := HBL.out; omega)
          have KS : Hid (∀ V, Away [] w10 V → Calls Tryd.prog 18 #[.slice ma m.d.length mc, .slice ba m.d.length bc] V fun E w' => E = .returned (.bool true) ∧ Away [] w10 w') := fun V hV => (same_yes ma ba m.d (b.take m.d.length) _ _ mc bc _ rfl (by rw [List.length_take]; omega) hm1 HBN.out (by obtain ⟨_, _, _, x⟩ := (HSM.out.on hV).of; exact x) ((HR.out.on hV).head _) HMD.out).mono (fun _ _ h => ⟨h.1, by rw [h.2]; exact hV⟩)
          refine S6.wp_region_cls (C := fun V => Away [] w10 V) (by kernel_rfl) (by kernel_rfl) ((Away.refl [] _).drew) ?_
          go_big_quiet_want; (refine S6.quiet_val ?_ ?_ ?_; rotate_left; (intro w; go_simp; rfl); go_simp; go_big_quiet_on)
          go_big_quiet_want; refine S6.quiet_ld _ rfl (ad := ⟨g11, 4, none⟩) rfl (fun w' h => S6.ld26 (h.cell (by simp) k4)) ?_; go_simp; go_big_quiet_on
          go_big_quiet_want; (refine S6.quiet_val ?_ ?_ ?_; rotate_left; (intro w; go_simp; rfl); go_simp; go_big_quiet_on)
          go_big_quiet_want; (refine S6.quiet_val ?_ ?_ ?_; rotate_left; (intro w; go_simp; rfl); go_simp; go_big_quiet_on)
          go_big_quiet_want; (refine S6.quiet_val ?_ ?_ ?_; rotate_left; (intro w; go_simp; rfl); go_simp; go_big_quiet_on)
          go_big_quiet_want; (refine S6.quiet_val ?_ ?_ ?_; rotate_left; (intro w; go_simp; rfl); go_simp; go_big_quiet_on)
          go_big_quiet_want; (refine S6.quiet_val ?_ ?_ ?_; rotate_left; (intro w; go_simp; rfl); go_simp; go_big_quiet_on)
          go_big_quiet_want; (refine S6.quiet_val ?_ ?_ ?_; rotate_left; (intro w; go_simp; rfl); go_simp; go_big_quiet_on)
          go_big_quiet_want; refine S6.quiet_ld _ rfl (ad := ⟨g11, 4, none⟩) rfl (fun w' h => S6.ld26 (h.cell (by simp) k4)) ?_; go_simp; go_big_quiet_on
          go_big_quiet_want; (refine S6.quiet_val ?_ ?_ ?_; rotate_left; (intro w; go_simp; rfl); go_simp; go_big_quiet_on)
          go_big_quiet_want; (refine S6.quiet_val ?_ ?_ ?_; rotate_left; (intro w; go_simp; rfl); go_simp; go_big_quiet_on)
          go_big_quiet_want; refine S6.quiet_ld _ rfl (ad := ⟨g11, 4, none⟩) rfl (fun w' h => S6.ld26 (h.cell (by simp) k4)) ?_; go_simp; go_big_quiet_on
          go_big_quiet_want; (refine S6.quiet_val ?_ ?_ ?_; rotate_left; (intro w; go_simp; rfl); go_simp; go_big_quiet_on)
          go_big_quiet_want; (refine S6.quiet_val ?_ ?_ ?_; rotate_left; (intro w; go_simp; rfl); go_simp; go_big_quiet_on)
          go_big_quiet_want; refine S6.quiet_call 18 #[.slice ma m.d.length mc, .slice ba m.d.length bc] (.bool true) ?_ KS.out ?_
          · intro w; go_simp; done
          go_simp; go_big_quiet_on
          go_big_quiet_want; (refine S6.quiet_val ?_ ?_ ?_; rotate_left; (intro w; go_simp; rfl); go_simp; go_big_quiet_on)
          go_big_quiet_want; (refine S6.quiet_val ?_ ?_ ?_; rotate_left; (intro w; go_simp; rfl); go_simp; go_big_quiet_on)
          refine wpQuiet_nil ?_
          intro V hV
          go_wp2_with fail
          go_roundw
          case rel => exact ⟨k + 1, by omega, by go_num, HAWX.out.on hV⟩
          case measure => simp [intOf]; omega
      · have HRZ : Hid (m.re = 0) := by show _ = _; rw [HRE.out, if_neg hk0]
        have z1 : ((k : Int) == 0) = false := beq_eq_false_iff_ne.2 (by omega)
        have z2 : decide (0 < (k : Int)) = true := decide_eq_true (by omega)
        have z3 : decide (0 < k) = true := decide_eq_true (by omega)
        rw [HRZ.out] at k3
        have HK0 := Lib.hid hk0
        clear hk0
        by_cases hv4 : p.v = 4
        · have v1 : (p.v == 4) = true := by rw [hv4]; rfl
          have e2 : decide (68 < (m.d.length : Int)) = false := decide_eq_false (by have := HD4.out hv4; omega)
          have HV4 := Lib.hid hv4
          clear hv4
          go_upto_region 12 with fail
          clear k3 kv
          have g1 : decide ((bl : Int) < (m.d.length : Int)) = false := decide_eq_false (by have := HBL.out; omega)
          have g2 : decide (bl < m.d.length) = false := decide_eq_false (by have := HBL.out; omega)
          have s2 := slice_h ba bl bc m.d.length (m.d.length : Int) rfl (by have := HBL.out; omega)
          have KS : Hid (∀ V, Away [] w10 V → Calls Tryd.prog 18 #[.slice ma m.d.length mc, .slice ba m.d.length bc] V fun E w' => E = .returned (.bool true) ∧ Away [] w10 w') := fun V hV => (same_yes ma ba m.d (b.take m.d.length) _ _ mc bc _ rfl (by rw [List.length_take]; omega) hm1 HBN.out (by obtain ⟨_, _, _, x⟩ := (HSM.out.on hV).of; exact x) ((HR.out.on hV).head _) HMD.out).mono (fun _ _ h => ⟨h.1, by rw [h.2]; exact hV⟩)
          refine S6.wp_region_cls (C := fun V => Away [] w10 V) (by kernel_rfl) (by kernel_rfl) ((Away.refl [] _).drew) ?_
          go_big_quiet_want; (refine S6.quiet_val ?_ ?_ ?_; rotate_left; (intro w; go_simp; rfl); go_simp; go_big_quiet_on)
          go_big_quiet_want; refine S6.quiet_ld _ rfl (ad := ⟨g11, 4, none⟩) rfl (fun w' h => S6.ld26 (h.cell (by simp) k4)) ?_; go_simp; go_big_quiet_on
          go_big_quiet_want; (refine S6.quiet_val ?_ ?_ ?_; rotate_left; (intro w; go_simp; rfl); go_simp; go_big_quiet_on)
          go_big_quiet_want; (refine S6.quiet_val ?_ ?_ ?_; rotate_left; (intro w; go_simp; rfl); go_simp; go_big_quiet_on)
          go_big_quiet_want; (refine S6.quiet_val ?_ ?_ ?_; rotate_left; (intro w; go_simp; rfl); go_simp; go_big_quiet_on)
          go_big_quiet_want; (refine S6.quiet_val ?_ ?_ ?_; rotate_left; (intro w; go_simp; rfl); go_simp; go_big_quiet_on)
          go_big_quiet_want; (refine S6.quiet_val ?_ ?_ ?_; rotate_left; (intro w; go_simp; rfl); go_simp; go_big_quiet_on)
          go_big_quiet_want; (refine S6.quiet_val ?_ ?_ ?_; rotate_left; (intro w; go_simp; rfl); go_simp; go_big_quiet_on)
          go_big_quiet_want; refine S6.quiet_ld _ rfl (ad := ⟨g11, 4, none⟩) rfl (fun w' h => S6.ld26 (h.cell (by simp) k4)) ?_; go_simp; go_big_quiet_on
          go_big_quiet_want; (refine S6.quiet_val ?_ ?_ ?_; rotate_left; (intro w; go_simp; rfl); go_simp; go_big_quiet_on)
          go_big_quiet_want; (refine S6.quiet_val ?_ ?_ ?_; rotate_left; (intro w; go_simp; rfl); go_simp; go_big_quiet_on)
          go_big_quiet_want; refine S6.quiet_ld _ rfl (ad := ⟨g11, 4, none⟩) rfl (fun w' h => S6.ld26 (h.cell (by simp) k4)) ?_; go_simp; go_big_quiet_on
          go_big_quiet_want; (refine S6.quiet_val ?_ ?_ ?_; rotate_left; (intro w; go_simp; rfl); go_simp; go_big_quiet_on)
          go_big_quiet_want; (refine S6.quiet_val ?_ ?_ ?_; rotate_left; (intro w; go_simp; rfl); go_simp; go_big_quiet_on)
          go_big_quiet_want; refine S6.quiet_call 18 #[.slice ma m.d.length mc, .slice ba m.d.length bc] (.bool true) ?_ KS.out ?_
          · intro w; go_simp; done
          go_simp; go_big_quiet_on
          go_big_quiet_want; (refine S6.quiet_val ?_ ?_ ?_; rotate_left; (intro w; go_simp; rfl); go_simp; go_big_quiet_on)
          go_big_quiet_want; (refine S6.quiet_val ?_ ?_ ?_; rotate_left; (intro w; go_simp; rfl); go_simp; go_big_quiet_on)
          refine wpQuiet_nil ?_
          intro V hV
          go_wp2_with fail
          go_roundw
          case rel => exact ⟨k + 1, by omega, by go_num, HAWX.out.on hV⟩
          case measure => simp [intOf]; omega
        · have v1 : (p.v == 4) = false := beq_eq_false_iff_ne.2 hv4
          have HV4 := Lib.hid hv4
          clear hv4
          go_upto_region 12 with fail
          clear k3 kv
          have g1 : decide ((bl : Int) < (m.d.length : Int)) = false := decide_eq_false (by have := HBL.out; omega)
          have g2 : decide (bl < m.d.length) = false := decide_eq_false (by have := HBL.out; omega)
          have s2 := slice_h ba bl bc m.d.length (m.d.length : Int) rfl (by have := HBL.out; omega)
          have KS : Hid (∀ V, Away [] w10 V → Calls Tryd.prog 18 #[.slice ma m.d.length mc, .slice ba m.d.length bc] V fun E w' => E = .returned (.bool true) ∧ Away [] w10 w') := fun V hV => (same_yes ma ba m.d (b.take m.d.length) _ _ mc bc _ rfl (by rw [List.length_take]; omega) hm1 HBN.out (by obtain ⟨_, _, _, x⟩ := (HSM.out.on hV).of; exact x) ((HR.out.on hV).head _) HMD.out).mono (fun _ _ h => ⟨h.1, by rw [h.2]; exact hV⟩)
          refine S6.wp_region_cls (C := fun V => Away [] w10 V) (by kernel_rfl) (by kernel_rfl) ((Away.refl [] _).drew) ?_
          go_big_quiet_want; (refine S6.quiet_val ?_ ?_ ?_; rotate_left; (intro w; go_simp; rfl); go_simp; go_big_quiet_on)
          go_big_quiet_want; refine S6.quiet_ld _ rfl (ad := ⟨g11, 4, none⟩) rfl (fun w' h => S6.ld26 (h.cell (by simp) k4)) ?_; go_simp; go_big_quiet_on
          go_big_quiet_want; (refine S6.quiet_val ?_ ?_ ?_; rotate_left; (intro w; go_simp; rfl); go_simp; go_big_quiet_on)
          go_big_quiet_want; (refine S6.quiet_val ?_ ?_ ?_; rotate_left; (intro w; go_simp; rfl); go_simp; go_big_quiet_on)
          go_big_quiet_want; (refine S6.quiet_val ?_ ?_ ?_; rotate_left; (intro w; go_simp; rfl); go_simp; go_big_quiet_on)
          go_big_quiet_want; (refine S6.quiet_val ?_ ?_ ?_; rotate_left; (intro w; go_simp; rfl); go_simp; go_big_quiet_on)
          go_big_quiet_want; (refine S6.quiet_val ?_ ?_ ?_; rotate_left; (intro w; go_simp; rfl); go_simp; go_big_quiet_on)
          go_big_quiet_want; (refine S6.quiet_val ?_ ?_ ?_; rotate_left; (intro w; go_simp; rfl); go_simp; go_big_quiet_on)
          go_big_quiet_want; refine S6.quiet_ld _ rfl (ad := ⟨g11, 4, none⟩) rfl (fun w' h => S6.ld26 (h.cell (by simp) k4)) ?_; go_simp; go_big_quiet_on
          go_big_quiet_want; (refine S6.quiet_val ?_ ?_ ?_; rotate_left; (intro w; go_simp; rfl); go_simp; go_big_quiet_on)
          go_big_quiet_want; (refine S6.quiet_val ?_ ?_ ?_; rotate_left; (intro w; go_simp; rfl); go_simp; go_big_quiet_on)
          go_big_quiet_want; refine S6.quiet_ld _ rfl (ad := ⟨g11, 4, none⟩) rfl (fun w' h => S6.ld26 (h.cell (by simp) k4)) ?_; go_simp; go_big_quiet_on
          go_big_quiet_want; (refine S6.quiet_val ?_ ?_ ?_; rotate_left; (intro w; go_simp; rfl); go_simp; go_big_quiet_on)
          go_big_quiet_want; (refine S6.quiet_val ?_ ?_ ?_; rotate_left; (intro w; go_simp; rfl); go_simp; go_big_quiet_on)
          go_big_quiet_want; refine S6.quiet_call 18 #[.slice ma m.d.length mc, .slice ba m.d.length bc] (.bool true) ?_ KS.out ?_
          · intro w; go_simp; done
          go_simp; go_big_quiet_on
          go_big_quiet_want; (refine S6.quiet_val ?_ ?_ ?_; rotate_left; (intro w; go_simp; rfl); go_simp; go_big_quiet_on)
          go_big_quiet_want; (refine S6.quiet_val ?_ ?_ ?_; rotate_left; (intro w; go_simp; rfl); go_simp; go_big_quiet_on)
          refine wpQuiet_nil ?_
          intro V hV
          go_wp2_with fail
          go_roundw
          case rel => exact ⟨k + 1, by omega, by go_num, HAWX.out.on hV⟩
          case measure => simp [intOf]; omega
    · obtain rfl : k = 5 := by omega
      go_wp2_with fail
      go_ret
      exact ⟨rfl, HA.out⟩
#print axioms labout_c
end Go.Proofs.YtbgpjhekohabiabDoor
