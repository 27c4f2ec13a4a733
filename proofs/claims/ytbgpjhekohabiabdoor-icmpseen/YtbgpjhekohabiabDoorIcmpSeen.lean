/-
  IcmpSeen: what is quoted is seen.
-/
import Derived.Test.YtbgpjhekohabiabDoorLAb
import Derived.Test.YtbgpjhekohabiabDoorStp
import Derived.Test.YtbgpjhekohabiabDoorBuild6
import Derived.Test.YtbgpjhekohabiabDoorKit
import Derived.Lib.SlBytesConst
import Derived.Deep.CondSized
namespace Go.Proofs.YtbgpjhekohabiabDoor
open Go.ChangeShapes Go.WideShapes Go.ChangeAt Go.RowKit Go.Deep Num
set_option linter.unusedVariables false
set_option maxHeartbeats 8000000
set_option maxRecDepth 100000

/-- The law's small packet. -/
def smP : Pk := ⟨4, 0, 0, 4, z16, 4, z16, 0, 0, 0, false, false, false, 0, [], [48, 49, 50, 51, 52, 53, 54, 55, 56, 57]⟩
theorem sm_bytes : Bytes smP.d := by unfold Bytes smP; decide
theorem sm_wf : Wf smP := by
  have hz : Bytes z16 := by unfold Bytes z16; decide
  exact ⟨by simp [smP, i64ok], by simp [smP, i64ok], by simp [smP, i64ok], by simp [smP, i64ok], rfl, hz, by simp [smP, i64ok], rfl, hz, by simp [smP, i64ok], by simp [smP, i64ok], by simp [smP], by simp [smP], by simp [smP, i64ok], Bytes.nil, by simp [smP], sm_bytes, by simp [smP]⟩
theorem sm_right : rightP smP = true := by decide +kernel
theorem r4_not6 {p : Pk} (h : rightP p = true) : S6.rightP p = false := by
  obtain ⟨hf, _⟩ := (right_iff p).1 h
  rw [Bool.eq_false_iff]
  intro h6
  have := ((S6.right_iff p).1 h6).v
  rw [hf.v] at this; exact absurd this (by decide)
namespace icmpSeen
theorem walk (p : Pk) (ov dv : Value) (mtu : Int) (W : World) (hg : Glob W) (hp : Pkt W p ov dv) (hol : p.o.length ≤ 140737488351232) (hdl : p.d.length ≤ 140737488351232) (hct : (Lit.int .i64 mtu).wf = true) :
    Calls Tryd.prog 4 #[.agg (csP p ov dv), .int .i64 mtu] W fun e W' => e = .returned (.bool true) ∧ Below W.heap.size W W' := by
  have HAD := Lib.hid hp.wf.ad
  have HWF := Lib.hid hp.wf
  have HP := Lib.hid hp
  have HG := Lib.hid hg
  have HA : Hid (Away [] W W) := Away.refl _ _
  have HT0 := Lib.hid (and65535 mtu)
  clear hp hg hct hol hdl
  go_enter Tryd.func4, Tryd.ntmps4
  go_wp2_with (refine wpList_box28 rfl _ rfl p ov dv rfl ?_; refine Hid.out ?_)
  refine Lib.hid ?_
  intro g2 w1 hg_g2 hb haw
  replace HA := Lib.hid (HA.out.on haw)
  replace HP := Lib.hid (HP.out.on haw)
  clear haw
  have H2 := Lib.hid hb
  have hl_g2 := hb.lt
  clear hb
  go_wp2_with fail
  refine (alive_c _).mono ?_
  rintro E w2 ⟨rfl, haw⟩
  replace HA := Lib.hid (HA.out.on haw)
  replace HP := Lib.hid (HP.out.on haw)
  replace H2 := Lib.hid (H2.out.on haw)
  clear haw
  go_wp2_with (first | (refine wpList_load28 rfl _ rfl g2 rfl p _ _ (by exact H2.out) HAD.out ?_))
  refine (ownP_c p ov dv _ (by exact HP.out)).mono ?_
  rintro E w3 ⟨o1, d1, rfl, hmine, haw⟩
  replace HA := Lib.hid (HA.out.on haw)
  replace HP := Lib.hid (HP.out.on haw)
  replace H2 := Lib.hid (H2.out.on haw)
  clear haw
  have HM1 := Lib.hid hmine
  clear hmine
  go_wp2_with fail
  by_cases hr4 : rightP p = true
  · have hr6 := r4_not6 hr4
    have HBE : Hid (build4 p = (lay4 p, 0)) := build_ok hr4
    have HB6 : Hid (S6.build6 p = ([], 1)) := S6.build_no hr6
    refine (build_c p o1 d1 _ (by exact HM1.out.pkt HWF.out) (by exact HG.out.on HA.out)).mono ?_
    rintro E w4 ⟨vb, hE, hown, hnew, haw⟩
    rw [HBE.out] at hE hown
    subst hE
    replace HA := Lib.hid (HA.out.on haw)
    replace HP := Lib.hid (HP.out.on haw)
    replace H2 := Lib.hid (H2.out.on haw)
    replace HM1 := Lib.hid (HM1.out.on haw)
    clear haw
    have HB := Lib.hid hown
    clear hown hnew
    clear HM1
    go_wp2_with (first | (refine wpList_load28 rfl _ rfl g2 rfl p _ _ (by exact H2.out) HAD.out ?_))
    refine (ownP_c p ov dv _ (by exact HP.out)).mono ?_
    rintro E w5 ⟨o2, d2, rfl, hmine, haw⟩
    replace HA := Lib.hid (HA.out.on haw)
    replace HP := Lib.hid (HP.out.on haw)
    replace H2 := Lib.hid (H2.out.on haw)
    replace HB := Lib.hid (HB.out.on haw)
    clear haw
    have HM2 := Lib.hid hmine
    clear hmine
    go_wp2_with fail
    refine (S6.build_c p o2 d2 _ (by exact ⟨HWF.out, HM2.out.o.sl HWF.out.o HWF.out.ol, HM2.out.d.sl HWF.out.d HWF.out.dn⟩)).mono ?_
    rintro E w6 ⟨vc, hE, hown, hnew, haw⟩
    rw [HB6.out] at hE hown
    subst hE
    replace HA := Lib.hid (HA.out.on haw)
    replace HP := Lib.hid (HP.out.on haw)
    replace H2 := Lib.hid (H2.out.on haw)
    replace HB := Lib.hid (HB.out.on haw)
    replace HM2 := Lib.hid (HM2.out.on haw)
    clear haw
    have HC := Lib.hid hown
    clear hown hnew
    clear HM2
    obtain ⟨b, hb⟩ : ∃ b, b = lay4 p := ⟨_, rfl⟩
    rw [← hb] at HB
    have hbd := lay4_bd HWF.out hr4
    rw [← hb] at hbd
    have HBY := Lib.hid hbd.1
    have hb5 : b.length ≤ 65575 := by omega
    have HSN : Hid (∀ k, k < 5 → ∃ m, Seen p b 8 (bits .and .i64 mtu 65535) k m) := fun k hk => by rw [hb]; exact seen4 HWF.out hr4 HT0.out.1 HT0.out.2 hk
    clear hbd hb hr4 hr6 HBE HB6
    obtain ⟨ba, bc, hvb, hbn, hbc⟩ := HB.out.slc
    subst hvb
    have HR : Hid (Row w6 ba b) := HB.out.row' (by omega) HBY.out
    clear HB
    go_wp2_with (first | (refine wpList_load28 rfl _ rfl g2 rfl p _ _ (by exact H2.out) HAD.out ?_))
    refine (labout_c p ov dv b ba _ bc 8 mtu _ _ (by exact HG.out.on HA.out) (by exact HP.out) (by exact HR.out) rfl hbc hbn hb5 (by decide) rfl HSN.out).mono ?_
    rintro E w7 ⟨rfl, haw⟩
    replace HA := Lib.hid (HA.out.on haw)
    replace HP := Lib.hid (HP.out.on haw)
    replace H2 := Lib.hid (H2.out.on haw)
    replace HC := Lib.hid (HC.out.on haw)
    replace HR := Lib.hid (HR.out.on haw)
    clear haw
    go_wp2_with fail
    go_ret
    exact ⟨rfl, HA.out.to_below⟩
  · have hr4 : rightP p = false := by simpa using hr4
    by_cases hr6 : S6.rightP p = true
    · have HBE : Hid (build4 p = ([], 1)) := build_no hr4
      have HB6 : Hid (S6.build6 p = (S6.lay6 p, 0)) := S6.build_ok hr6
      refine (build_c p o1 d1 _ (by exact HM1.out.pkt HWF.out) (by exact HG.out.on HA.out)).mono ?_
      rintro E w4 ⟨vb, hE, hown, hnew, haw⟩
      rw [HBE.out] at hE hown
      subst hE
      replace HA := Lib.hid (HA.out.on haw)
      replace HP := Lib.hid (HP.out.on haw)
      replace H2 := Lib.hid (H2.out.on haw)
      replace HM1 := Lib.hid (HM1.out.on haw)
      clear haw
      have HB := Lib.hid hown
      clear hown hnew
      clear HM1
      go_wp2_with (first | (refine wpList_load28 rfl _ rfl g2 rfl p _ _ (by exact H2.out) HAD.out ?_))
      refine (ownP_c p ov dv _ (by exact HP.out)).mono ?_
      rintro E w5 ⟨o2, d2, rfl, hmine, haw⟩
      replace HA := Lib.hid (HA.out.on haw)
      replace HP := Lib.hid (HP.out.on haw)
      replace H2 := Lib.hid (H2.out.on haw)
      replace HB := Lib.hid (HB.out.on haw)
      clear haw
      have HM2 := Lib.hid hmine
      clear hmine
      go_wp2_with fail
      refine (S6.build_c p o2 d2 _ (by exact ⟨HWF.out, HM2.out.o.sl HWF.out.o HWF.out.ol, HM2.out.d.sl HWF.out.d HWF.out.dn⟩)).mono ?_
      rintro E w6 ⟨vc, hE, hown, hnew, haw⟩
      rw [HB6.out] at hE hown
      subst hE
      replace HA := Lib.hid (HA.out.on haw)
      replace HP := Lib.hid (HP.out.on haw)
      replace H2 := Lib.hid (H2.out.on haw)
      replace HB := Lib.hid (HB.out.on haw)
      replace HM2 := Lib.hid (HM2.out.on haw)
      clear haw
      have HC := Lib.hid hown
      clear hown hnew
      clear HM2
      obtain ⟨b, hb⟩ : ∃ b, b = S6.lay6 p := ⟨_, rfl⟩
      rw [← hb] at HC
      have hbd := S6.lay6_bd HWF.out ((S6.right_iff p).1 hr6)
      rw [← hb] at hbd
      have HBY := Lib.hid hbd.1
      have hb5 : b.length ≤ 65575 := hbd.2.1
      obtain ⟨n, hn⟩ : ∃ n, n = 1232 - S6.hofP p := ⟨_, rfl⟩
      have hof : S6.hofP p = 40 ∨ S6.hofP p = 48 := by unfold S6.hofP; split <;> simp
      have HSN : Hid (∀ k, k < 5 → ∃ m, Seen p b n (bits .and .i64 mtu 65535) k m) := fun k hk => by rw [hb, hn]; exact seen6 HWF.out hr6 HT0.out.1 HT0.out.2 hk
      have hn1 : n ≤ 100000 := by omega
      have HHP : Hid (S6.headP p = (S6.hofP p : Int)) := by show _ = _; unfold S6.headP; rw [if_pos hr6]
      obtain ⟨h, hh⟩ : ∃ h, h = S6.hofP p := ⟨_, rfl⟩
      rw [← hh] at HHP hn hof
      have hsub : (1232 : Int) - (h : Int) = (n : Int) := by omega
      have hsw : IntKind.i64.wrap ((1232 : Int) - (h : Int)) = (n : Int) := by rw [IntKind.wrap_i64]; omega
      clear hbd hb hr4 hr6 HBE HB6 hn hh hof
      obtain ⟨ba, bc, hvb, hbn, hbc⟩ := HC.out.slc
      subst hvb
      have HC : Hid (Owns w6 (.slice ba b.length bc) b) := HC.out
      have hsw2 : IntKind.i64.wrap (n : Int) = (n : Int) := by rw [IntKind.wrap_i64]; omega
      have HR : Hid (Row w6 ba b) := HC.out.row' (by omega) HBY.out
      clear HC
      go_wp2_with fail
      have KH : Hid (∀ V, Away [] w6 V → Calls Tryd.prog 15 #[.agg (csP p ov dv)] V fun E w' => E = .returned (.int .i64 (h : Int)) ∧ Away [] w6 w') := fun V hV => (S6.head_c p ov dv V ⟨HWF.out, (HP.out.on hV).o, (HP.out.on hV).d⟩).mono (fun _ _ x => ⟨by rw [x.1, HHP.out], hV.on x.2⟩)
      have KL : Hid (∀ V, Away [] w6 V → Calls Tryd.prog 14 #[.agg (csP p ov dv), .slice ba b.length bc, .int .i64 (n : Int), .int .i64 mtu] V fun E w' => E = .returned (.bool true) ∧ Away [] w6 w') := fun V hV => (labout_c p ov dv b ba _ bc n mtu _ V (HG.out.on (HA.out.on hV)) (HP.out.on hV) (HR.out.on hV) rfl hbc hbn hb5 hn1 rfl HSN.out).mono (fun _ _ x => ⟨x.1, hV.on x.2⟩)
      refine S6.wp_region_cls (C := fun V => Away [] w6 V) (by kernel_rfl) (by kernel_rfl) ((Away.refl [] _).drew) ?_
      go_big_quiet_want; refine S6.quiet_ld _ rfl (ad := ⟨g2, 0, none⟩) rfl (fun w' h => S6.load28_run (H2.out.on h) HAD.out) ?_; go_simp; go_big_quiet_on
      go_big_quiet_want; (refine S6.quiet_val ?_ ?_ ?_; rotate_left; (intro w; go_simp; rfl); go_simp; go_big_quiet_on)
      go_big_quiet_want; refine S6.quiet_ld _ rfl (ad := ⟨g2, 0, none⟩) rfl (fun w' h => S6.load28_run (H2.out.on h) HAD.out) ?_; go_simp; go_big_quiet_on
      go_big_quiet_want; refine S6.quiet_call 15 #[.agg (csP p ov dv)] (.int .i64 (h : Int)) ?_ KH.out ?_
      · intro w; go_simp; done
      go_simp; go_big_quiet_on
      go_big_quiet_want; (refine S6.quiet_val ?_ ?_ ?_; rotate_left; (intro w; go_simp; rfl); go_simp; go_big_quiet_on)
      go_big_quiet_want; (refine S6.quiet_val ?_ ?_ ?_; rotate_left; (intro w; go_simp; rfl); go_simp; go_big_quiet_on)
      go_big_quiet_want; refine S6.quiet_call 14 #[.agg (csP p ov dv), .slice ba b.length bc, .int .i64 (n : Int), .int .i64 mtu] (.bool true) ?_ KL.out ?_
      · intro w; go_simp; done
      go_simp; go_big_quiet_on
      go_big_quiet_want; (refine S6.quiet_val ?_ ?_ ?_; rotate_left; (intro w; go_simp; rfl); go_simp; go_big_quiet_on)
      refine wpQuiet_nil ?_
      intro V haw
      replace HA := Lib.hid (HA.out.on haw)
      replace HP := Lib.hid (HP.out.on haw)
      replace H2 := Lib.hid (H2.out.on haw)
      replace HB := Lib.hid (HB.out.on haw)
      replace HR := Lib.hid (HR.out.on haw)
      clear haw
      go_wp2_with fail
      go_ret
      exact ⟨rfl, HA.out.to_below⟩
    · have hr6 : S6.rightP p = false := by simpa using hr6
      have HBE : Hid (build4 p = ([], 1)) := build_no hr4
      have HB6 : Hid (S6.build6 p = ([], 1)) := S6.build_no hr6
      refine (build_c p o1 d1 _ (by exact HM1.out.pkt HWF.out) (by exact HG.out.on HA.out)).mono ?_
      rintro E w4 ⟨vb, hE, hown, hnew, haw⟩
      rw [HBE.out] at hE hown
      subst hE
      replace HA := Lib.hid (HA.out.on haw)
      replace HP := Lib.hid (HP.out.on haw)
      replace H2 := Lib.hid (H2.out.on haw)
      replace HM1 := Lib.hid (HM1.out.on haw)
      clear haw
      have HB := Lib.hid hown
      clear hown hnew
      clear HM1
      go_wp2_with (first | (refine wpList_load28 rfl _ rfl g2 rfl p _ _ (by exact H2.out) HAD.out ?_))
      refine (ownP_c p ov dv _ (by exact HP.out)).mono ?_
      rintro E w5 ⟨o2, d2, rfl, hmine, haw⟩
      replace HA := Lib.hid (HA.out.on haw)
      replace HP := Lib.hid (HP.out.on haw)
      replace H2 := Lib.hid (H2.out.on haw)
      replace HB := Lib.hid (HB.out.on haw)
      clear haw
      have HM2 := Lib.hid hmine
      clear hmine
      go_wp2_with fail
      refine (S6.build_c p o2 d2 _ (by exact ⟨HWF.out, HM2.out.o.sl HWF.out.o HWF.out.ol, HM2.out.d.sl HWF.out.d HWF.out.dn⟩)).mono ?_
      rintro E w6 ⟨vc, hE, hown, hnew, haw⟩
      rw [HB6.out] at hE hown
      subst hE
      replace HA := Lib.hid (HA.out.on haw)
      replace HP := Lib.hid (HP.out.on haw)
      replace H2 := Lib.hid (H2.out.on haw)
      replace HB := Lib.hid (HB.out.on haw)
      replace HM2 := Lib.hid (HM2.out.on haw)
      clear haw
      have HC := Lib.hid hown
      clear hown hnew
      clear HM2
      clear HB HC
      clear HBE HB6 hr4 hr6
      go_upto_region 11 with fail
      have haw := (Away.refl [] w6).alloc (.cells #[.int .u8 48, .int .u8 49, .int .u8 50, .int .u8 51, .int .u8 52, .int .u8 53, .int .u8 54, .int .u8 55, .int .u8 56, .int .u8 57] 5 (10, 11))
      have HRL : Hid (Row (w6.alloc (.cells #[.int .u8 48, .int .u8 49, .int .u8 50, .int .u8 51, .int .u8 52, .int .u8 53, .int .u8 54, .int .u8 55, .int .u8 56, .int .u8 57] 5 (10, 11))) (some ⟨w6.heap.size, 0, none⟩) smP.d) := Row.litM w6 smP.d (10, 11) sm_bytes (by decide)
      have kc : (convert 26 26 (.slice (some ⟨w6.heap.size, 0, none⟩) 10 10)).run Tryd.prog (w6.alloc (.cells #[.int .u8 48, .int .u8 49, .int .u8 50, .int .u8 51, .int .u8 52, .int .u8 53, .int .u8 54, .int .u8 55, .int .u8 56, .int .u8 57] 5)) = .ok (.slice (some ⟨w6.heap.size, 0, none⟩) 10 10) (w6.alloc (.cells #[.int .u8 48, .int .u8 49, .int .u8 50, .int .u8 51, .int .u8 52, .int .u8 53, .int .u8 54, .int .u8 55, .int .u8 56, .int .u8 57] 5 (10, 11))) := Lib.run_convert_bytes_const (P := Tryd.prog) w6 26 5 #[.int .u8 48, .int .u8 49, .int .u8 50, .int .u8 51, .int .u8 52, .int .u8 53, .int .u8 54, .int .u8 55, .int .u8 56, .int .u8 57] 10 10 Tryd.underlying26 under5
      replace HA := Lib.hid (HA.out.on haw)
      replace HP := Lib.hid (HP.out.on haw)
      replace H2 := Lib.hid (H2.out.on haw)
      clear haw
      go_wp2_with (refine wpList_new28 rfl rfl rfl _ _ rfl smP (.slice none 0 0) (.slice (some ⟨w6.heap.size, 0, none⟩) 10 10) (fun _ => rfl) (fun _ => rfl) ⟨rfl, rfl⟩ rfl rfl ?_; refine Hid.out ?_)
      refine Lib.hid ?_
      clear kc
      intro g9 w7 hg_g9 hb haw
      replace HA := Lib.hid (HA.out.on haw)
      replace HP := Lib.hid (HP.out.on haw)
      replace H2 := Lib.hid (H2.out.on haw)
      replace HRL := Lib.hid (HRL.out.on haw)
      clear haw
      have H9 := Lib.hid hb
      have hl_g9 := hb.lt
      clear hb
      generalize w6.heap.size = s0 at *
      have HPS : Hid (Pkt w7 smP (.slice none 0 0) (.slice (some ⟨s0, 0, none⟩) 10 10)) := ⟨sm_wf, Sl.nil _, ⟨_, _, rfl, by decide, by simp, HRL.out⟩⟩
      clear HRL HP
      go_wp2_with (first | (refine wpList_load28 rfl _ rfl g9 rfl smP _ _ (by exact H9.out) ⟨rfl, rfl⟩ ?_))
      have HBS : Hid (build4 smP = (lay4 smP, 0)) := build_ok sm_right
      refine (build_c smP (.slice none 0 0) (.slice (some ⟨s0, 0, none⟩) 10 10) _ (by exact HPS.out) (by exact HG.out.on HA.out)).mono ?_
      rintro E w8 ⟨vs, hE, hown, hnew, haw⟩
      rw [HBS.out] at hE hown
      subst hE
      replace HA := Lib.hid (HA.out.on haw)
      replace H2 := Lib.hid (H2.out.on haw)
      replace H9 := Lib.hid (H9.out.on haw)
      replace HPS := Lib.hid (HPS.out.on haw)
      clear haw
      have HS := Lib.hid hown
      clear hown hnew
      obtain ⟨b, hb⟩ : ∃ b, b = lay4 smP := ⟨_, rfl⟩
      rw [← hb] at HS
      have hbd := lay4_bd sm_wf sm_right
      rw [← hb] at hbd
      have HBY := Lib.hid hbd.1
      have hb5 : b.length ≤ 65575 := by omega
      have HSN : Hid (∀ k, k < 5 → ∃ m, Seen smP b 8 (bits .and .i64 mtu 65535) k m) := fun k hk => by rw [hb]; exact seen4 sm_wf sm_right HT0.out.1 HT0.out.2 hk
      clear hbd hb HBS
      obtain ⟨ba, bc, hvb, hbn, hbc⟩ := HS.out.slc
      subst hvb
      have HS : Hid (Owns w8 (.slice ba b.length bc) b) := HS.out
      have HR : Hid (Row w8 ba b) := HS.out.row' (by omega) HBY.out
      clear HS
      go_wp2_with (first | (refine wpList_load28 rfl _ rfl g9 rfl smP _ _ (by exact H9.out) ⟨rfl, rfl⟩ ?_))
      refine (labout_c smP (.slice none 0 0) (.slice (some ⟨s0, 0, none⟩) 10 10) b ba _ bc 8 mtu _ _ (by exact HG.out.on HA.out) (by exact HPS.out) (by exact HR.out) rfl hbc hbn hb5 (by decide) rfl HSN.out).mono ?_
      rintro E w9 ⟨rfl, haw⟩
      replace HA := Lib.hid (HA.out.on haw)
      replace H2 := Lib.hid (H2.out.on haw)
      replace H9 := Lib.hid (H9.out.on haw)
      replace HPS := Lib.hid (HPS.out.on haw)
      replace HR := Lib.hid (HR.out.on haw)
      clear haw
      go_wp2_with fail
      go_ret
      exact ⟨rfl, HA.out.to_below⟩
end icmpSeen
namespace icmpSeen
theorem contract (H : Type) (enc : TypeId × Value → H) (W : World) (base : Nat) (args : Array Value) (ds gs : List (DataW H)) (before : List MemPlace)
    (hval0 : ∀ (j : Nat) t v, Tryd.f4.params[j]? = some t → args[j]? = some v → Value.okWide Tryd.prog W .any base t v)
    (hW : DataW.Whole enc Tryd.prog Tryd.f4.params.toList Rows.icmpSeenSpec.vars false W args.toList ds gs before)
    (hsz0 : (DataW.weightsEach Tryd.prog (Tryd.f4.params.toList ++ Rows.icmpSeenSpec.plain.varTypes Tryd.prog) (ds ++ gs)).all (· ≤ reachBytes) = true)
    (hL : laidMetH Tryd.prog Rows.icmpSeenRow.laid W) :
    Calls Tryd.prog 4 args W fun e W' => ∃ v, e = .returned v ∧ Rows.icmpSeenSpec.post enc Tryd.prog Tryd.f4 false true false false W args v W' := by
  have hval := hval0
  have hsz := hsz0
  have hW' := hW
  obtain ⟨p, q, hA0, hV, rfl, hfz, hnd⟩ := hW
  have hA : DataW.TrodAll enc Tryd.prog W 0 (fun _ => true) true Tryd.f4.params.toList args.toList ds p := hA0
  rw [Tryd.params4] at hA hval hsz
  obtain ⟨v0, vs0, d0, ds0, p0, q0, hargs, rfl, rfl, h0, r0⟩ := trodAll_cons hA
  obtain ⟨v1, vs1, d1, ds1, p1, q1, rfl, rfl, rfl, h1, r1⟩ := trodAll_cons r0
  obtain ⟨rfl, rfl, rfl⟩ := trodAll_nil r1
  obtain rfl : args = #[v0, v1] := by cases args; simp_all
  obtain ⟨rfl, rfl⟩ := trodVars_none hV
  have k0 := h0
  have lt0 : ∀ x ∈ p0, x.block < W.heap.size := by obtain ⟨m, hm⟩ := k0; exact DataW.trod_lt m _ _ _ hm
  have z0 : ∀ m ∈ d0.weights Tryd.prog 28, m ≤ reachBytes := fun m hm => by
    have := List.all_eq_true.1 hsz m (DataW.weights_mem_each (j := 0) (t := 28) rfl rfl m hm)
    simpa using this
  obtain ⟨x0, ov0, dv0, rfl, w0, ol0, dl0⟩ := open_pkt (hval 0 28 v0 rfl rfl) h0 z0
  obtain ⟨a1, rfl, rfl, rfl, w1⟩ := open_int Tryd.underlying3 (hval 1 3 v1 rfl rfl) h1
  clear hA0 hval0
  refine (walk x0 ov0 dv0 a1 W (glob_of hL) w0 ol0 dl0 w1).mono fun e W' ⟨he, bel⟩ => ?_
  subst he
  exact ⟨_, rfl, _, _, _, [], _, [], hW', trodAll_mk1 (shut_bool Tryd.underlying4 _), (trodAll_cons_mk (Below.trod laidOut (by kernel_rfl) (of_decide_eq_true (by kernel_rfl)) k0 bel lt0) (trodAll_cons_mk (shut_int Tryd.underlying3 w1) trodAll_mk0)), rfl, bel.frame _, fun h => by cases h⟩
theorem laid_met (os : Os) : laidMet Tryd.prog Rows.icmpSeenRow.laid ((laidWorld Tryd.prog os).forCall (fun _ _ => 0) ⟨#[], #[.agg (csP zeroPk (.slice none 0 0) (.slice none 0 0)), .int .i64 0], []⟩).memory :=
  laidMet_of_run' 8 (by kernel_rfl) (by kernel_rfl)
theorem reads (os : Os) {H : Type} (enc : TypeId × Value → H) : ∃ places, DataW.whole enc Tryd.prog ((laidWorld Tryd.prog os).forCall (fun _ _ => 0) ⟨#[], #[.agg (csP zeroPk (.slice none 0 0) (.slice none 0 0)), .int .i64 0], []⟩).memory Tryd.f4.params.toList Rows.icmpSeenSpec.vars false #[.agg (csP zeroPk (.slice none 0 0) (.slice none 0 0)), .int .i64 0].toList 8 = some ([.agg [.lit (.int .i64 0), .lit (.int .i64 0), .lit (.int .i64 0), .agg [.lit (.int .i64 0), .agg [.lit (.int .u8 0), .lit (.int .u8 0), .lit (.int .u8 0), .lit (.int .u8 0), .lit (.int .u8 0), .lit (.int .u8 0), .lit (.int .u8 0), .lit (.int .u8 0), .lit (.int .u8 0), .lit (.int .u8 0), .lit (.int .u8 0), .lit (.int .u8 0), .lit (.int .u8 0), .lit (.int .u8 0), .lit (.int .u8 0), .lit (.int .u8 0)]], .agg [.lit (.int .i64 0), .agg [.lit (.int .u8 0), .lit (.int .u8 0), .lit (.int .u8 0), .lit (.int .u8 0), .lit (.int .u8 0), .lit (.int .u8 0), .lit (.int .u8 0), .lit (.int .u8 0), .lit (.int .u8 0), .lit (.int .u8 0), .lit (.int .u8 0), .lit (.int .u8 0), .lit (.int .u8 0), .lit (.int .u8 0), .lit (.int .u8 0), .lit (.int .u8 0)]], .lit (.int .i64 0), .lit (.int .i64 0), .lit (.int .u32 0), .lit (.bool false), .lit (.bool false), .lit (.bool false), .lit (.int .i64 0), .nil, .nil], .lit (.int .i64 0)], [], places) :=
  ⟨[], by kernel_rfl⟩
theorem lifted (os : Os) (started : os.Started) (H : Type) (enc : TypeId × Value → H) (F : Stop.Interp) :
    ReturnsInHanded {} Tryd.checked os 4 .any ((OpenSpec.ofChange Rows.icmpSeenSpec).preRow enc Tryd.prog Tryd.f4 Rows.icmpSeenRow.domain false Rows.icmpSeenRow.laid) (((OpenSpec.ofChange Rows.icmpSeenSpec).at F).post enc Tryd.prog Tryd.f4 false true false false) := by
  obtain ⟨places, hx⟩ := reads os enc
  refine returnsInHanded_of_row (C := Tryd.checked) (s := OpenSpec.ofChange Rows.icmpSeenSpec) ownKn started (by kernel_rfl) Tryd.func4
    (witness_row_at (enc := enc) (C := Tryd.checked) false (laidWorld Tryd.prog os) #[.agg (csP zeroPk (.slice none 0 0) (.slice none 0 0)), .int .i64 0] rfl (by kernel_rfl) (by kernel_rfl) (by kernel_rfl)
      (OpenSpec.preRow_of_cond 8 hx (by kernel_rfl) (fun k hk => by cases hk) (by kernel_rfl) (laid_met os))) ?_
  intro W base args ds gs before hval hW _ hcond hsz hL hS _
  exact contract H enc W base args ds gs before hval hW hsz hL
theorem said : Rows.IcmpSeenSaid :=
  OpenClaim.holds_of_cond 4 Tryd.f4 rfl rfl rfl rfl rfl rfl rfl ⟨rfl, rfl, rfl, rfl, rfl⟩ rfl rfl rfl rfl rfl (by kernel_rfl) Tryd.func4 (by kernel_rfl)
    (of_decide_eq_true (by kernel_rfl)) (by unfold Func.isWrapper; first | (rw [if_pos (by decide +kernel)]; kernel_rfl) | (rw [if_neg (by decide +kernel)]; exact ⟨rfl, rfl⟩))
    (fun os started H enc _ F => by rw [OpenClaim.pre_eq_preRow]; exact lifted os started H enc F)
theorem plain (f : FuncId) (fn : Func) (hf : Tryd.pinned.checked.prog.funcNamed "mosaic/mosaiclaw08.IcmpSeen" = some f) (hfn : Tryd.pinned.checked.prog.funcs[f]? = some fn) :
    false = Tryd.pinned.checked.prog.looks [] ∧ ∀ (j : Nat) t, fn.params[j]? = some t → Tryd.pinned.checked.prog.wantsStandIn t = false := by
  obtain rfl : f = 4 := Option.some.inj ((show Tryd.prog.funcNamed "mosaic/mosaiclaw08.IcmpSeen" = some 4 by kernel_rfl).symm.trans hf) |>.symm
  obtain rfl : fn = Tryd.f4 := (Option.some.inj (Tryd.func4.symm.trans hfn)).symm
  refine ⟨by kernel_rfl, fun j t ht => ?_⟩
  rw [Tryd.params4] at ht
  have hm := Array.mem_of_getElem? ht
  simp only [List.mem_toArray, List.mem_cons, List.not_mem_nil, or_false] at hm
  have h28 : Tryd.prog.wantsStandIn 28 = false := by kernel_rfl
  have h26 : Tryd.prog.wantsStandIn 26 = false := by kernel_rfl
  have h3 : Tryd.prog.wantsStandIn 3 = false := by kernel_rfl
  rcases hm with rfl | rfl
  all_goals first | exact h28 | exact h26 | exact h3
theorem card : Rows.IcmpSeenCardSaid :=
  Claim7.holds_tied_plain_at .later [] _ _ _ _ said (fun _ h => by cases h) (by kernel_rfl) (fun _ h => by cases h) icmpSeen_row_tie rfl ⟨rfl, rfl⟩ (by kernel_rfl) rfl plain (by kernel_rfl)
end icmpSeen
theorem icmpSeen_holds : Rows.IcmpSeenCardSaid := icmpSeen.card
#print axioms icmpSeen_holds
end Go.Proofs.YtbgpjhekohabiabDoor
