/-
  Ip6Back: a right packet is read again as it was; bytes that are taken are laid again as they were.
-/
import Derived.Test.YtbmppdihceaacaaAlive
import Derived.Deep.RegionHeld3
namespace Go.Proofs.Ytbmppdihceaacaa
open Go.ChangeShapes Go.WideShapes Go.ChangeAt Go.RowKit Go.Deep Num
set_option linter.unusedVariables false
set_option maxHeartbeats 8000000
set_option maxRecDepth 100000

namespace ip6Back
theorem walk (p : Pk) (ov dv : Value) (ba : Option Addr) (b : List Int) (bcap : Nat) (W : World) (hp : Pkt W p ov dv) (hol : p.o.length ≤ 140737488351232) (hdl : p.d.length ≤ 140737488351232) (hbc : b.length ≤ bcap) (hbr : Row W ba b) (hbn : ba = none → bcap = 0) (hbcc : bcap ≤ 140737488351232) :
    Calls Try.prog 3 #[.agg (csP p ov dv), .slice ba b.length bcap] W fun e W' => e = .returned (.bool true) ∧ Below W.heap.size W W' := by
  have HAD := Lib.hid hp.wf.ad
  have HP := Lib.hid hp
  have HBS : Hid (Sl W (.slice ba b.length bcap) b) := ⟨ba, bcap, rfl, hbc, hbn, hbr⟩
  have HBR := Lib.hid hbr
  have HA : Hid (Away [] W W) := Away.refl _ _
  have hbl := hbr.1
  have HBB := Lib.hid hbr.2.1
  obtain ⟨q, hq⟩ : ∃ q, q = fitP p := ⟨_, rfl⟩
  have HQW : Hid (Wf q) := by rw [hq]; exact fit_wf hp.wf
  have HQR : Hid (rightP q = true) := by rw [hq]; exact right_fit p
  have hcb := lay6_bd HQW.out ((right_iff q).1 HQR.out)
  have HCB := Lib.hid hcb.1
  have hc1 := hcb.2.1
  have hc2 := hcb.2.2
  have HBQ : Hid (build6 q = (lay6 q, 0)) := build_ok HQR.out
  have HPQ : Hid (parse6 (lay6 q) = (q, 0)) := parse_lay6 HQW.out HQR.out
  have HFIT : Hid (∀ w, Pkt w p ov dv → Calls Try.prog 10 #[.agg (csP p ov dv)] w fun E w' => OwnOut w q E w') := fun w h => by rw [hq]; exact fit_c p ov dv w h
  have HRQ : Hid (∀ w o d, Pkt w q o d → Calls Try.prog 15 #[.agg (csP q o d)] w fun E w' => E = .returned (.bool true) ∧ Away [] w w') := fun w o d h => by have := right_c q o d w h; rwa [HQR.out] at this
  obtain ⟨y, hy⟩ : ∃ y, y = (parse6 b).1 := ⟨_, rfl⟩
  obtain ⟨f, hf⟩ : ∃ f, f = (parse6 b).2 := ⟨_, rfl⟩
  have HYE : Hid (parse6 b = (y, f)) := by rw [hy, hf]; rfl
  have HYW : Hid (Wf y) := by rw [hy]; exact parse6_wf hbr.2.1 hbl
  have HYF : Hid (f = 0 ∨ f = 20 ∨ f = 50 ∨ f = 51) := by rw [hf]; exact parse6_cases b
  have HYN : Hid (f ≠ 0 → y = zeroPk) := by rw [hf, hy]; exact parse6_no
  have HYR : Hid (f = 0 → rightP y = true ∧ lay6 y = b) := by
    intro h
    rw [hf] at h
    rw [hy]
    exact (lay_parse6 hbr.2.1 hbl h).2
  clear hp hcb hq hbr hbn hy hf
  generalize hc : lay6 q = c at HCB hc1 hc2 HBQ HPQ
  clear hc
  go_enter Try.func3, Try.ntmps3
  go_wp2_with (refine wpList_box28 rfl _ rfl p ov dv rfl ?_; refine Hid.out ?_)
  refine Lib.hid ?_
  intro g1 w1 hg_g1 hb haw
  replace HP := Lib.hid (HP.out.on haw)
  replace HA := Lib.hid (HA.out.on haw)
  replace HBS := Lib.hid (HBS.out.on haw)
  replace HBR := Lib.hid (HBR.out.on haw)
  clear haw
  have HB := Lib.hid hb
  have hl_g1 := hb.lt
  clear hb
  go_wp2_with fail
  refine (alive_c w1).mono ?_
  rintro E w2 ⟨rfl, haw⟩
  replace HP := Lib.hid (HP.out.on haw)
  replace HA := Lib.hid (HA.out.on haw)
  replace HBS := Lib.hid (HBS.out.on haw)
  replace HBR := Lib.hid (HBR.out.on haw)
  replace HB := Lib.hid (HB.out.on haw)
  clear haw
  go_wp2_with (first | (refine wpList_load28 rfl _ rfl g1 rfl p _ _ (by exact HB.out) HAD.out ?_))
  refine (HFIT.out _ (by exact HP.out)).mono ?_
  rintro E w3 ⟨oq, dq, rfl, hm, haw⟩
  replace HP := Lib.hid (HP.out.on haw)
  replace HA := Lib.hid (HA.out.on haw)
  replace HBS := Lib.hid (HBS.out.on haw)
  replace HBR := Lib.hid (HBR.out.on haw)
  replace HB := Lib.hid (HB.out.on haw)
  clear haw
  have HM := Lib.hid hm
  clear hm
  clear HB HP
  have kq1 := HM.out.ov; have kq2 := HM.out.dv
  go_wp2_with (first | (refine wpList_new28 rfl rfl rfl _ _ rfl q oq dq (fun _ => rfl) (fun _ => rfl) HQW.out.ad kq1 kq2 ?_; refine Hid.out ?_))
  refine Lib.hid ?_
  intro g2 w4 hg_g2 hb haw
  replace HA := Lib.hid (HA.out.on haw)
  replace HBS := Lib.hid (HBS.out.on haw)
  replace HBR := Lib.hid (HBR.out.on haw)
  replace HM := Lib.hid (HM.out.on haw)
  clear haw
  have HBQ2 := Lib.hid hb
  have hl_g2 := hb.lt
  clear hb
  go_wp2_with (first | (refine wpList_load28 rfl _ rfl g2 rfl q _ _ (by exact HBQ2.out) HQW.out.ad ?_))
  refine (ownP_c q oq dq _ (by exact HM.out.pkt HQW.out)).mono ?_
  rintro E w5 ⟨o2, d2, rfl, hm, haw⟩
  replace HA := Lib.hid (HA.out.on haw)
  replace HBS := Lib.hid (HBS.out.on haw)
  replace HBR := Lib.hid (HBR.out.on haw)
  replace HM := Lib.hid (HM.out.on haw)
  replace HBQ2 := Lib.hid (HBQ2.out.on haw)
  clear haw
  have HM2 := Lib.hid hm
  clear hm
  go_wp2_with fail
  refine (build_c q o2 d2 _ (by exact HM2.out.pkt HQW.out)).mono ?_
  rintro E w6 ⟨cv, rfl, hown, hnew, haw⟩
  rw [HBQ.out] at hown ⊢
  have hs_cv := haw.size
  replace HA := Lib.hid (HA.out.on haw)
  replace HBS := Lib.hid (HBS.out.on haw)
  replace HBR := Lib.hid (HBR.out.on haw)
  replace HM := Lib.hid (HM.out.on haw)
  replace HBQ2 := Lib.hid (HBQ2.out.on haw)
  replace HM2 := Lib.hid (HM2.out.on haw)
  clear haw
  have HO := Lib.hid hown
  have hn_cv := Lib.hid hnew
  clear hown hnew
  clear HM2
  obtain ⟨ca, cc, hcv, hcc⟩ := HO.out.slc
  rw [show ((c, (0 : Int)).1) = c from rfl] at hcv hcc HO
  subst hcv
  have HSC : Hid (Sl w6 (.slice ca c.length cc) c) := HO.out.sl HCB.out (by omega)
  go_upto_region 6 with fail
  clear HO
  have hA0 := (Away.refl [] w6).alloc (.cells #[] 5)
  go_wp2_with (at_builtin; refine wpList_appS rfl _ _ rfl _ [] c rfl (owns_lit0 w6 _ rfl) _ rfl (HSC.out.on hA0) (by simpa using HSC.out.bytes.2) ?_; refine Hid.out ?_)
  refine Lib.hid ?_
  intro v1 w7 hown hawx hmvx
  obtain ⟨haw, hnew⟩ := fresh hawx hmvx
  clear hawx hmvx hA0
  replace HA := Lib.hid (HA.out.on haw)
  replace HBS := Lib.hid (HBS.out.on haw)
  replace HBR := Lib.hid (HBR.out.on haw)
  replace HM := Lib.hid (HM.out.on haw)
  replace HBQ2 := Lib.hid (HBQ2.out.on haw)
  replace HSC := Lib.hid (HSC.out.on haw)
  clear haw
  have HV1 := Lib.hid hown
  have hn_v1 := Lib.hid hnew
  clear hown hnew
  obtain ⟨a1, k1, hv1, hk1⟩ := HV1.out.slc
  subst hv1
  obtain ⟨_, hz1, hz2, hz3⟩ := (HV1.out.sl HCB.out (by omega)).of
  have HRW := Lib.hid hz3
  clear hz3
  go_wp2_with fail
  refine (parse_c a1 c _ k1 _ rfl hz1 hz2 (by exact HRW.out)).mono ?_
  rintro E w8 ⟨ox, dx, rfl, hou, hdu, hno, hnd, hap, haw⟩
  rw [HPQ.out] at hou hdu ⊢
  replace HA := Lib.hid (HA.out.on haw)
  replace HBS := Lib.hid (HBS.out.on haw)
  replace HBR := Lib.hid (HBR.out.on haw)
  replace HM := Lib.hid (HM.out.on haw)
  replace HBQ2 := Lib.hid (HBQ2.out.on haw)
  replace HSC := Lib.hid (HSC.out.on haw)
  replace HV1 := Lib.hid (HV1.out.on haw)
  clear haw
  have HX : Hid (Mine w8 w7.heap.size _ ox dx) := ⟨hou, hdu, hno, hnd, hap⟩
  clear hou hdu hno hnd hap
  clear HV1
  clear HRW
  have kx1 := HX.out.ov; have kx2 := HX.out.dv
  go_wp2_with (first | (refine wpList_new28 rfl rfl rfl _ _ rfl q ox dx (fun _ => rfl) (fun _ => rfl) HQW.out.ad kx1 kx2 ?_; refine Hid.out ?_))
  refine Lib.hid ?_
  intro g3 w9 hg_g3 hb haw
  replace HA := Lib.hid (HA.out.on haw)
  replace HBS := Lib.hid (HBS.out.on haw)
  replace HBR := Lib.hid (HBR.out.on haw)
  replace HM := Lib.hid (HM.out.on haw)
  replace HBQ2 := Lib.hid (HBQ2.out.on haw)
  replace HSC := Lib.hid (HSC.out.on haw)
  replace HX := Lib.hid (HX.out.on haw)
  clear haw
  have HBX := Lib.hid hb
  have hl_g3 := hb.lt
  clear hb
  go_wp2_with (first | (refine wpList_load28 rfl _ rfl g3 rfl q _ _ (by exact HBX.out) HQW.out.ad ?_) | (refine wpList_load28 rfl _ rfl g2 rfl q _ _ (by exact HBQ2.out) HQW.out.ad ?_))
  refine (sameP_yes q q ox dx oq dq _ (by exact HX.out.pkt HQW.out) (by exact HM.out.pkt HQW.out) rfl).mono ?_
  rintro E w10 ⟨rfl, haw⟩
  replace HA := Lib.hid (HA.out.on haw)
  replace HBS := Lib.hid (HBS.out.on haw)
  replace HBR := Lib.hid (HBR.out.on haw)
  replace HM := Lib.hid (HM.out.on haw)
  replace HBQ2 := Lib.hid (HBQ2.out.on haw)
  replace HSC := Lib.hid (HSC.out.on haw)
  replace HX := Lib.hid (HX.out.on haw)
  replace HBX := Lib.hid (HBX.out.on haw)
  clear haw
  go_wp2_with (first | (refine wpList_load28 rfl _ rfl g2 rfl q _ _ (by exact HBQ2.out) HQW.out.ad ?_))
  refine (ownP_c q oq dq _ (by exact HM.out.pkt HQW.out)).mono ?_
  rintro E w11 ⟨o3, d3, rfl, hm, haw⟩
  replace HA := Lib.hid (HA.out.on haw)
  replace HBS := Lib.hid (HBS.out.on haw)
  replace HBR := Lib.hid (HBR.out.on haw)
  replace HM := Lib.hid (HM.out.on haw)
  replace HBQ2 := Lib.hid (HBQ2.out.on haw)
  replace HSC := Lib.hid (HSC.out.on haw)
  replace HX := Lib.hid (HX.out.on haw)
  replace HBX := Lib.hid (HBX.out.on haw)
  clear haw
  have HM3 := Lib.hid hm
  clear hm
  go_wp2_with fail
  refine (HRQ.out _ o3 d3 (by exact HM3.out.pkt HQW.out)).mono ?_
  rintro E w12 ⟨rfl, haw⟩
  replace HA := Lib.hid (HA.out.on haw)
  replace HBS := Lib.hid (HBS.out.on haw)
  replace HBR := Lib.hid (HBR.out.on haw)
  replace HM := Lib.hid (HM.out.on haw)
  replace HBQ2 := Lib.hid (HBQ2.out.on haw)
  replace HSC := Lib.hid (HSC.out.on haw)
  replace HX := Lib.hid (HX.out.on haw)
  replace HBX := Lib.hid (HBX.out.on haw)
  replace HM3 := Lib.hid (HM3.out.on haw)
  clear haw
  clear HM3 HM HX HBX HBQ2 HSC
  go_upto_region 9 with fail
  have hA0 := (Away.refl [] w12).alloc (.cells #[] 5)
  go_wp2_with (at_builtin; refine wpList_appS rfl _ _ rfl _ [] b rfl (owns_lit0 w12 _ rfl) _ rfl (HBS.out.on hA0) (by simpa using HBS.out.bytes.2) ?_; refine Hid.out ?_)
  refine Lib.hid ?_
  intro v2 w13 hown hawx hmvx
  obtain ⟨haw, hnew⟩ := fresh hawx hmvx
  clear hawx hmvx hA0
  replace HA := Lib.hid (HA.out.on haw)
  replace HBS := Lib.hid (HBS.out.on haw)
  replace HBR := Lib.hid (HBR.out.on haw)
  clear haw
  have HV2 := Lib.hid hown
  have hn_v2 := Lib.hid hnew
  clear hown hnew
  obtain ⟨a2, k2, hv2, hk2⟩ := HV2.out.slc
  subst hv2
  obtain ⟨_, hz4, hz5, hz6⟩ := (HV2.out.sl HBB.out hbl).of
  have HRW := Lib.hid hz6
  clear hz6
  go_wp2_with fail
  refine (parse_c a2 b _ k2 _ rfl hz4 hz5 (by exact HRW.out)).mono ?_
  rintro E w14 ⟨oy, dy, rfl, hou, hdu, hno, hnd, hap, haw⟩
  rw [HYE.out] at hou hdu ⊢
  replace HA := Lib.hid (HA.out.on haw)
  replace HBS := Lib.hid (HBS.out.on haw)
  replace HBR := Lib.hid (HBR.out.on haw)
  replace HV2 := Lib.hid (HV2.out.on haw)
  clear haw
  have HY : Hid (Mine w14 w13.heap.size _ oy dy) := ⟨hou, hdu, hno, hnd, hap⟩
  clear hou hdu hno hnd hap
  clear HV2
  clear HRW
  have ky1 := HY.out.ov; have ky2 := HY.out.dv
  go_wp2_with (first | (refine wpList_new28 rfl rfl rfl _ _ rfl y oy dy (fun _ => rfl) (fun _ => rfl) HYW.out.ad ky1 ky2 ?_; refine Hid.out ?_))
  refine Lib.hid ?_
  intro g4 w15 hg_g4 hb haw
  replace HA := Lib.hid (HA.out.on haw)
  replace HBS := Lib.hid (HBS.out.on haw)
  replace HBR := Lib.hid (HBR.out.on haw)
  replace HY := Lib.hid (HY.out.on haw)
  clear haw
  have HBY := Lib.hid hb
  have hl_g4 := hb.lt
  clear hb
  by_cases hf0 : f = 0
  rotate_left
  · obtain rfl := HYN.out hf0
    have hf1 : (f == 0) = false := beq_eq_false_iff_ne.2 hf0
    have hf2 : (f != 0) = true := by simp [hf0]
    go_wp2_with (first | (refine wpList_load28 rfl _ rfl g4 rfl zeroPk _ _ (by exact HBY.out) ⟨rfl, rfl⟩ ?_))
    refine (sameP_yes zeroPk zeroPk oy dy (.slice none 0 0) (.slice none 0 0) _ (by exact HY.out.pkt zero_wf) (Pkt.zero _) rfl).mono ?_
    rintro E w16 ⟨rfl, haw⟩
    replace HA := Lib.hid (HA.out.on haw)
    replace HBS := Lib.hid (HBS.out.on haw)
    replace HBR := Lib.hid (HBR.out.on haw)
    replace HY := Lib.hid (HY.out.on haw)
    replace HBY := Lib.hid (HBY.out.on haw)
    clear haw
    rcases HYF.out with h | rfl | rfl | rfl
    · exact absurd h hf0
    · go_wp2_with fail
      go_ret
      exact ⟨rfl, HA.out.to_below⟩
    · go_wp2_with fail
      go_ret
      exact ⟨rfl, HA.out.to_below⟩
    · go_wp2_with fail
      go_ret
      exact ⟨rfl, HA.out.to_below⟩
  · subst hf0
    obtain ⟨hyr, hyl⟩ := HYR.out rfl
    have HBY2 : Hid (build6 y = (b, 0)) := by show _ = _; rw [build_ok hyr, hyl]
    have HYD : Hid (headP y + y.d.length = b.length) := by
      show _ = _
      unfold headP; rw [if_pos hyr, ← hyl, lay6_len HYW.out]; push_cast; rfl
    have HRY : Hid (∀ w o d, Pkt w y o d → Calls Try.prog 15 #[.agg (csP y o d)] w fun E w' => E = .returned (.bool true) ∧ Away [] w w') := fun w o d h => by have := right_c y o d w h; rwa [hyr] at this
    clear hyr hyl
    go_wp2_with (first | (refine wpList_load28 rfl _ rfl g4 rfl y _ _ (by exact HBY.out) HYW.out.ad ?_))
    refine (ownP_c y oy dy _ (by exact HY.out.pkt HYW.out)).mono ?_
    rintro E w16 ⟨o5, d5, rfl, hm, haw⟩
    replace HA := Lib.hid (HA.out.on haw)
    replace HBS := Lib.hid (HBS.out.on haw)
    replace HBR := Lib.hid (HBR.out.on haw)
    replace HY := Lib.hid (HY.out.on haw)
    replace HBY := Lib.hid (HBY.out.on haw)
    clear haw
    have HM5 := Lib.hid hm
    clear hm
    go_wp2_with fail
    refine (build_c y o5 d5 _ (by exact HM5.out.pkt HYW.out)).mono ?_
    rintro E w17 ⟨dv5, rfl, hown, hnew, haw⟩
    rw [HBY2.out] at hown ⊢
    have hs_dv5 := haw.size
    replace HA := Lib.hid (HA.out.on haw)
    replace HBS := Lib.hid (HBS.out.on haw)
    replace HBR := Lib.hid (HBR.out.on haw)
    replace HY := Lib.hid (HY.out.on haw)
    replace HBY := Lib.hid (HBY.out.on haw)
    replace HM5 := Lib.hid (HM5.out.on haw)
    clear haw
    have HO5 := Lib.hid hown
    have hn_dv5 := Lib.hid hnew
    clear hown hnew
    rw [show ((b, (0 : Int)).1) = b from rfl] at HO5
    obtain ⟨da, dc, hdv5, hdc5⟩ := HO5.out.slc
    subst hdv5
    have HSD : Hid (Sl w17 (.slice da b.length dc) b) := HO5.out.sl HBB.out hbl
    obtain ⟨ea, ec, hdy, hdy2⟩ := HY.out.d.slc
    subst hdy
    go_upto_region 13 with fail
    have hdn := HYW.out.dn
    have hhd : 0 ≤ headP y ∧ headP y ≤ 48 := by
      have h4 : hofP y = 48 ∨ hofP y = 40 := by unfold hofP; split <;> simp
      unfold headP; split <;> omega
    generalize hHP : headP y = H at HYD hhd
    have CLS : ∀ (F : FuncId) (args : Array Value) (v : Value), (∀ w', Away [] w17 w' → Calls Try.prog F args w' fun E w'' => E = .returned v ∧ Away [] w' w'') →
        ∀ X, (Away [] w17 X) → Calls Try.prog F args X fun E w'' => E = .returned v ∧ (Away [] w17 w'') :=
      fun F args v h X hX => (h X hX).mono fun E w'' hk => ⟨hk.1, hX.next hk.2 (by simp)⟩
    have K16 := Lib.hid (CLS 16 #[.slice da b.length dc, .slice ba b.length bcap] (.bool true) (fun w' h => (same_yes da ba b b _ _ dc bcap w' rfl rfl (HSD.out.of.2.2.1) (HBS.out.of.2.2.1) ((HSD.out.on h).of.2.2.2) ((HBS.out.on h).of.2.2.2) rfl).mono fun E w'' hk => ⟨hk.1, by rw [hk.2]; exact Away.refl _ _⟩))
    clear CLS
    have HCY : Hid (∀ X, Away [] w17 X → BoxP X g4 y oy (.slice ea y.d.length ec)) := fun X h => HBY.out.on h
    have HPY : Hid (∀ X, Away [] w17 X → Pkt X y oy (.slice ea y.d.length ec)) := fun X h => (HY.out.on h).pkt HYW.out
    have HC0 : Hid (Away [] w17 w17.drew) := (Away.refl [] _).drew
    refine wp_region_held_drew (S := fun w' => Away [] w17 w') (by kernel_rfl) HC0.out (fun hHeld => ?_)
    refine wpAnyH_take (i := 0) (v := ?_) (by simp only [List.getElem?_toArray, List.getElem?_cons_zero]; rfl) (by kernel_rfl) (by kernel_rfl) (by kernel_rfl) (by exact fun _ _ _ h => h) (Or.inl ⟨by rfl, ?_⟩) (by assumption) ?_
    rotate_left
    · intro wq hSw
      (try dsimp only at hSw)
      go_simp
      all_goals (with_reducible rfl)
    try simp only [Act.put, List.setIfInBounds_toArray, List.set_cons_zero, List.set_cons_succ]
    refine wpAnyH_take (i := 1) (v := ?_) (by simp only [List.getElem?_toArray, List.getElem?_cons_succ, List.getElem?_cons_zero]; rfl) (by kernel_rfl) (by kernel_rfl) (by kernel_rfl) (by exact fun _ _ _ h => h) (Or.inl ⟨by rfl, ?_⟩) (by assumption) ?_
    rotate_left
    · intro wq hSw
      (try dsimp only at hSw)
      go_simp
      all_goals (with_reducible rfl)
    try simp only [Act.put, List.setIfInBounds_toArray, List.set_cons_zero, List.set_cons_succ]
    refine wpAnyH_take (i := 2) (v := ?_) (by simp only [List.getElem?_toArray, List.getElem?_cons_succ, List.getElem?_cons_zero]; rfl) (by kernel_rfl) (by kernel_rfl) (by kernel_rfl) (by exact fun _ _ _ h => h) (Or.inl ⟨by rfl, ?_⟩) (by assumption) ?_
    rotate_left
    · intro wq hSw
      (try dsimp only at hSw)
      go_simp
      all_goals (with_reducible rfl)
    try simp only [Act.put, List.setIfInBounds_toArray, List.set_cons_zero, List.set_cons_succ]
    refine wpAnyH_take (i := 3) (v := ?_) (by simp only [List.getElem?_toArray, List.getElem?_cons_succ, List.getElem?_cons_zero]; rfl) (by kernel_rfl) (by kernel_rfl) (by kernel_rfl) (by exact fun _ _ _ h => h) (Or.inl ⟨by rfl, ?_⟩) (by assumption) ?_
    rotate_left
    · intro wq hSw
      (try dsimp only at hSw)
      go_simp
      all_goals (with_reducible rfl)
    try simp only [Act.put, List.setIfInBounds_toArray, List.set_cons_zero, List.set_cons_succ]
    refine wpAnyH_take (i := 4) (v := ?_) (by simp only [List.getElem?_toArray, List.getElem?_cons_succ, List.getElem?_cons_zero]; rfl) (by kernel_rfl) (by kernel_rfl) (by kernel_rfl) (by exact fun _ _ _ h => h) (Or.inl ⟨by rfl, ?_⟩) (by assumption) ?_
    rotate_left
    · intro wq hSw
      (try dsimp only at hSw)
      go_simp
      all_goals (with_reducible rfl)
    try simp only [Act.put, List.setIfInBounds_toArray, List.set_cons_zero, List.set_cons_succ]
    refine wpAnyH_ready (rs := [5]) (by kernel_rfl) (by simp) ?_
    refine AllReadyH.cons (by simp only [List.getElem?_toArray, List.getElem?_cons_succ, List.getElem?_cons_zero]; rfl) (fun K hK => ?_) AllReadyH.nil
    go_simp
    refine (K16.out _ HC0.out).mono ?_
    rintro E x1 ⟨rfl, haw⟩
    have HX1 := Lib.hid haw
    clear haw
    go_wp2_with fail
    refine hK.out _ _ HX1.out (fun hHeld => ?_)
    clear hK K
    try simp only [Act.put, List.setIfInBounds_toArray, List.set_cons_zero, List.set_cons_succ]
    refine wpAnyH_take (i := 6) (v := ?_) (by simp only [List.getElem?_toArray, List.getElem?_cons_succ, List.getElem?_cons_zero]; rfl) (by kernel_rfl) (by kernel_rfl) (by kernel_rfl) (by exact fun _ _ _ h => h) (Or.inl ⟨by rfl, ?_⟩) (by assumption) ?_
    rotate_left
    · intro wq hSw
      (try dsimp only at hSw)
      go_simp
      all_goals (with_reducible rfl)
    try simp only [Act.put, List.setIfInBounds_toArray, List.set_cons_zero, List.set_cons_succ]
    refine wpAnyH_take (i := 7) (v := ?_) (by simp only [List.getElem?_toArray, List.getElem?_cons_succ, List.getElem?_cons_zero]; rfl) (by kernel_rfl) (by kernel_rfl) (by kernel_rfl) (by exact fun _ _ _ h => h) (Or.inl ⟨by rfl, ?_⟩) (by assumption) ?_
    rotate_left
    · intro wq hSw
      (try dsimp only at hSw)
      go_simp
      all_goals (with_reducible rfl)
    try simp only [Act.put, List.setIfInBounds_toArray, List.set_cons_zero, List.set_cons_succ]
    refine wpAnyH_take (i := 8) (by simp only [List.getElem?_toArray, List.getElem?_cons_succ, List.getElem?_cons_zero]; rfl) (by kernel_rfl) (by kernel_rfl) (by kernel_rfl) (by exact fun _ _ _ h => h) (yields_ld (ad := ⟨g4, 0, none⟩) (by rfl) _ rfl rfl (fun w' h => load28_run (HCY.out _ h) HYW.out.ad)) (by assumption) ?_
    try simp only [Act.put, List.setIfInBounds_toArray, List.set_cons_zero, List.set_cons_succ]
    refine wpAnyH_ready (rs := [9]) (by kernel_rfl) (by simp) ?_
    refine AllReadyH.cons (by simp only [List.getElem?_toArray, List.getElem?_cons_succ, List.getElem?_cons_zero]; rfl) (fun K hK => ?_) AllReadyH.nil
    go_simp
    refine (ownP_c y oy (.slice ea y.d.length ec) _ (HPY.out _ HX1.out)).mono ?_
    rintro E x2 ⟨o6, d6, rfl, hm, haw⟩
    have HX2 := Lib.hid (HX1.out.on haw)
    have HM6 := Lib.hid hm
    clear haw hm
    go_wp2_with fail
    refine hK.out _ _ HX2.out (fun hHeld => ?_)
    clear hK K
    try simp only [Act.put, List.setIfInBounds_toArray, List.set_cons_zero, List.set_cons_succ]
    refine wpAnyH_ready (rs := [10]) (by kernel_rfl) (by simp) ?_
    refine AllReadyH.cons (by simp only [List.getElem?_toArray, List.getElem?_cons_succ, List.getElem?_cons_zero]; rfl) (fun K hK => ?_) AllReadyH.nil
    go_simp
    refine (HRY.out _ o6 d6 (HM6.out.pkt HYW.out)).mono ?_
    rintro E x3 ⟨rfl, haw⟩
    have HX3 := Lib.hid (HX2.out.on haw)
    clear haw
    go_wp2_with fail
    refine hK.out _ _ HX3.out (fun hHeld => ?_)
    clear hK K
    try simp only [Act.put, List.setIfInBounds_toArray, List.set_cons_zero, List.set_cons_succ]
    refine wpAnyH_take (i := 11) (v := ?_) (by simp only [List.getElem?_toArray, List.getElem?_cons_succ, List.getElem?_cons_zero]; rfl) (by kernel_rfl) (by kernel_rfl) (by kernel_rfl) (by exact fun _ _ _ h => h) (Or.inl ⟨by rfl, ?_⟩) (by assumption) ?_
    rotate_left
    · intro wq hSw
      (try dsimp only at hSw)
      go_simp
      all_goals (with_reducible rfl)
    try simp only [Act.put, List.setIfInBounds_toArray, List.set_cons_zero, List.set_cons_succ]
    refine wpAnyH_take (i := 12) (v := ?_) (by simp only [List.getElem?_toArray, List.getElem?_cons_succ, List.getElem?_cons_zero]; rfl) (by kernel_rfl) (by kernel_rfl) (by kernel_rfl) (by exact fun _ _ _ h => h) (Or.inl ⟨by rfl, ?_⟩) (by assumption) ?_
    rotate_left
    · intro wq hSw
      (try dsimp only at hSw)
      go_simp
      all_goals (with_reducible rfl)
    try simp only [Act.put, List.setIfInBounds_toArray, List.set_cons_zero, List.set_cons_succ]
    refine wpAnyH_take (i := 13) (by simp only [List.getElem?_toArray, List.getElem?_cons_succ, List.getElem?_cons_zero]; rfl) (by kernel_rfl) (by kernel_rfl) (by kernel_rfl) (by exact fun _ _ _ h => h) (yields_ld (ad := ⟨g4, 0, none⟩) (by rfl) _ rfl rfl (fun w' h => load28_run (HCY.out _ h) HYW.out.ad)) (by assumption) ?_
    try simp only [Act.put, List.setIfInBounds_toArray, List.set_cons_zero, List.set_cons_succ]
    refine wpAnyH_take (i := 16) (v := ?_) (by simp only [List.getElem?_toArray, List.getElem?_cons_succ, List.getElem?_cons_zero]; rfl) (by kernel_rfl) (by kernel_rfl) (by kernel_rfl) (by exact fun _ _ _ h => h) (Or.inl ⟨by rfl, ?_⟩) (by assumption) ?_
    rotate_left
    · intro wq hSw
      (try dsimp only at hSw)
      go_simp
      all_goals (with_reducible rfl)
    try simp only [Act.put, List.setIfInBounds_toArray, List.set_cons_zero, List.set_cons_succ]
    refine wpAnyH_take (i := 17) (by simp only [List.getElem?_toArray, List.getElem?_cons_succ, List.getElem?_cons_zero]; rfl) (by kernel_rfl) (by kernel_rfl) (by kernel_rfl) (by exact fun _ _ _ h => h) (yields_ld (ad := ⟨g4, 45, none⟩) (by rfl) _ rfl rfl (fun w' h => ld26 ((HCY.out _ h).cells HYW.out.ad).d)) (by assumption) ?_
    try simp only [Act.put, List.setIfInBounds_toArray, List.set_cons_zero, List.set_cons_succ]
    refine wpAnyH_take (i := 18) (v := ?_) (by simp only [List.getElem?_toArray, List.getElem?_cons_succ, List.getElem?_cons_zero]; rfl) (by kernel_rfl) (by kernel_rfl) (by kernel_rfl) (by exact fun _ _ _ h => h) (Or.inl ⟨by rfl, ?_⟩) (by assumption) ?_
    rotate_left
    · intro wq hSw
      (try dsimp only at hSw)
      go_simp
      all_goals (with_reducible rfl)
    try simp only [Act.put, List.setIfInBounds_toArray, List.set_cons_zero, List.set_cons_succ]
    refine wpAnyH_take (i := 20) (v := ?_) (by simp only [List.getElem?_toArray, List.getElem?_cons_succ, List.getElem?_cons_zero]; rfl) (by kernel_rfl) (by kernel_rfl) (by kernel_rfl) (by exact fun _ _ _ h => h) (Or.inl ⟨by rfl, ?_⟩) (by assumption) ?_
    rotate_left
    · intro wq hSw
      (try dsimp only at hSw)
      go_simp
      all_goals (with_reducible rfl)
    try simp only [Act.put, List.setIfInBounds_toArray, List.set_cons_zero, List.set_cons_succ]
    refine wpAnyH_take (i := 21) (v := ?_) (by simp only [List.getElem?_toArray, List.getElem?_cons_succ, List.getElem?_cons_zero]; rfl) (by kernel_rfl) (by kernel_rfl) (by kernel_rfl) (by exact fun _ _ _ h => h) (Or.inl ⟨by rfl, ?_⟩) (by assumption) ?_
    rotate_left
    · intro wq hSw
      (try dsimp only at hSw)
      go_simp
      all_goals (with_reducible rfl)
    try simp only [Act.put, List.setIfInBounds_toArray, List.set_cons_zero, List.set_cons_succ]
    refine wpAnyH_ready (rs := [14]) (by kernel_rfl) (by simp) ?_
    refine AllReadyH.cons (by simp only [List.getElem?_toArray, List.getElem?_cons_succ, List.getElem?_cons_zero]; rfl) (fun K hK => ?_) AllReadyH.nil
    go_simp
    refine (ownP_c y oy (.slice ea y.d.length ec) _ (HPY.out _ HX3.out)).mono ?_
    rintro E x4 ⟨o7, d7, rfl, hm, haw⟩
    have HX4 := Lib.hid (HX3.out.on haw)
    have HM7 := Lib.hid hm
    clear haw hm
    go_wp2_with fail
    refine hK.out _ _ HX4.out (fun hHeld => ?_)
    clear hK K
    try simp only [Act.put, List.setIfInBounds_toArray, List.set_cons_zero, List.set_cons_succ]
    refine wpAnyH_ready (rs := [15]) (by kernel_rfl) (by simp) ?_
    refine AllReadyH.cons (by simp only [List.getElem?_toArray, List.getElem?_cons_succ, List.getElem?_cons_zero]; rfl) (fun K hK => ?_) AllReadyH.nil
    go_simp
    refine (head_c y o7 d7 _ (HM7.out.pkt HYW.out)).mono ?_
    rw [hHP]
    rintro E x5 ⟨rfl, haw⟩
    have HX5 := Lib.hid (HX4.out.on haw)
    clear haw
    go_wp2_with fail
    refine hK.out _ _ HX5.out (fun hHeld => ?_)
    clear hK K
    try simp only [Act.put, List.setIfInBounds_toArray, List.set_cons_zero, List.set_cons_succ]
    refine wpAnyH_take (i := 19) (v := ?_) (by simp only [List.getElem?_toArray, List.getElem?_cons_succ, List.getElem?_cons_zero]; rfl) (by kernel_rfl) (by kernel_rfl) (by kernel_rfl) (by exact fun _ _ _ h => h) (Or.inl ⟨by rfl, ?_⟩) (by assumption) ?_
    rotate_left
    · intro wq hSw
      (try dsimp only at hSw)
      go_simp
      all_goals (with_reducible rfl)
    try simp only [Act.put, List.setIfInBounds_toArray, List.set_cons_zero, List.set_cons_succ]
    refine wpAnyH_take (i := 22) (v := ?_) (by simp only [List.getElem?_toArray, List.getElem?_cons_succ, List.getElem?_cons_zero]; rfl) (by kernel_rfl) (by kernel_rfl) (by kernel_rfl) (by exact fun _ _ _ h => h) (Or.inl ⟨by rfl, ?_⟩) (by assumption) ?_
    rotate_left
    · intro wq hSw
      (try dsimp only at hSw)
      go_simp
      all_goals (with_reducible rfl)
    try simp only [Act.put, List.setIfInBounds_toArray, List.set_cons_zero, List.set_cons_succ]
    refine wpAnyH_take (i := 23) (v := ?_) (by simp only [List.getElem?_toArray, List.getElem?_cons_succ, List.getElem?_cons_zero]; rfl) (by kernel_rfl) (by kernel_rfl) (by kernel_rfl) (by exact fun _ _ _ h => h) (Or.inl ⟨by rfl, ?_⟩) (by assumption) ?_
    rotate_left
    · intro wq hSw
      (try dsimp only at hSw)
      go_simp
      all_goals (with_reducible rfl)
    try simp only [Act.put, List.setIfInBounds_toArray, List.set_cons_zero, List.set_cons_succ]
    refine wpAnyH_take (i := 24) (v := ?_) (by simp only [List.getElem?_toArray, List.getElem?_cons_succ, List.getElem?_cons_zero]; rfl) (by kernel_rfl) (by kernel_rfl) (by kernel_rfl) (by exact fun _ _ _ h => h) (Or.inl ⟨by rfl, ?_⟩) (by assumption) ?_
    rotate_left
    · intro wq hSw
      (try dsimp only at hSw)
      go_simp
      all_goals (with_reducible rfl)
    try simp only [Act.put, List.setIfInBounds_toArray, List.set_cons_zero, List.set_cons_succ]
    refine wpAnyH_done (by kernel_rfl) ?_ _
    have hw1 : IntKind.i64.wrap (H + (y.d.length : Int)) = (b.length : Int) := by rw [HYD.out, IntKind.wrap_i64]; omega
    have hw2 : (IntKind.i64.wrap (H + (y.d.length : Int)) == (b.length : Int)) = true := by rw [hw1]; simp
    try simp only [hw2]
    go_wp2_with fail
    go_ret
    refine ⟨?_, (HA.out.next HX5.out (by simp)).to_below⟩
    first | rfl | (rw [hw2]; rfl) | (simp [hw1])
end ip6Back
namespace ip6Back
theorem lifted (os : Os) (started : os.Started) (H : Type) (enc : TypeId × Value → H) :
    ReturnsInHanded {} Try.checked os 3 .any (Rows.ip6BackSpec.pre6 enc Try.prog Try.f3 Rows.ip6BackRow.domain false) (Rows.ip6BackSpec.post enc Try.prog Try.f3 false true false false) := by
  refine returnsInHanded_of_change_sized (C := Try.checked) ownKn started (by kernel_rfl) Try.func3
    (ChangeSpec.witness6 (enc := enc) (C := Try.checked) false ⟨#[], #[.agg (csP zeroPk (.slice none 0 0) (.slice none 0 0)), .slice none 0 0], []⟩ 8 (by kernel_rfl) (by kernel_rfl) (by kernel_rfl) (by kernel_rfl)) ?_
  intro W base args ds gs before hval0 hW _ hsz0 _
  have hsz : (DataW.weightsEach Try.prog (Try.f3.params.toList ++ Rows.ip6BackSpec.plain.varTypes Try.prog) (ds ++ gs)).all (· ≤ reachBytes) = true := hsz0
  clear hsz0
  have hval : ∀ (j : Nat) t v, Try.f3.params[j]? = some t → args[j]? = some v → Value.okWide Try.prog W .any base t v := hval0
  have hW' := hW
  obtain ⟨p, q, hA0, hV, rfl, hfz, hnd⟩ := hW
  have hA : DataW.TrodAll enc Try.prog W 0 (fun _ => true) true Try.f3.params.toList args.toList ds p := hA0
  rw [Try.params3] at hA hval hsz
  obtain ⟨v0, vs0, d0, ds0, p0, q0, hargs, rfl, rfl, h0, r0⟩ := trodAll_cons hA
  obtain ⟨v1, vs1, d1, ds1, p1, q1, rfl, rfl, rfl, h1, r1⟩ := trodAll_cons r0
  obtain ⟨rfl, rfl, rfl⟩ := trodAll_nil r1
  obtain rfl : args = #[v0, v1] := by cases args; simp_all
  have hV2 : DataW.TrodVars enc Try.prog W (fun _ => true) Rows.ip6BackSpec.vars gs q := hV
  obtain ⟨rfl, rfl⟩ := trodVars_none hV2
  have k0 := h0
  have lt0 : ∀ x ∈ p0, x.block < W.heap.size := by obtain ⟨m, hm⟩ := k0; exact DataW.trod_lt m _ _ _ hm
  have z0 : ∀ m ∈ d0.weights Try.prog 28, m ≤ reachBytes := fun m hm => by
    have := List.all_eq_true.1 hsz m (DataW.weights_mem_each (j := 0) (t := 28) rfl rfl m hm)
    simpa using this
  obtain ⟨x0, ov0, dv0, rfl, w0, ol0, dl0⟩ := open_pkt (hval 0 28 v0 rfl rfl) h0 z0
  have k1 := h1
  have lt1 : ∀ x ∈ p1, x.block < W.heap.size := by obtain ⟨m, hm⟩ := k1; exact DataW.trod_lt m _ _ _ hm
  have z1 : ∀ m ∈ d1.weights Try.prog 26, m ≤ reachBytes := fun m hm => by
    have := List.all_eq_true.1 hsz m (DataW.weights_mem_each (j := 1) (t := 26) rfl rfl m hm)
    simpa using this
  obtain ⟨a1, len1, cap1, rfl⟩ := okWide_slice Try.underlying26 (hval 1 26 v1 rfl rfl)
  obtain ⟨l1, rfl, c1, cc1, w1, n1, u1⟩ := open_bytes h1 z1
  clear hA0 hval0
  refine (walk x0 ov0 dv0 a1 l1 cap1 W w0 ol0 dl0 c1 w1 n1 cc1).mono fun e W' ⟨he, bel⟩ => ?_
  subst he
  exact ⟨_, rfl, _, _, _, [], _, [], hW', trodAll_mk1 (shut_bool Try.underlying4 _), (trodAll_cons_mk (Below.trod laidOut (by kernel_rfl) (of_decide_eq_true (by kernel_rfl)) k0 bel lt0) (trodAll_cons_mk (Below.trod laidOut (by kernel_rfl) (of_decide_eq_true (by kernel_rfl)) k1 bel lt1) trodAll_mk0)), rfl, bel.frame _, fun h => by cases h⟩
theorem over : Rows.ip6BackRow.holds Try.pinned (OpenSpec.ofChange Rows.ip6BackSpec) :=
  OpenClaim.holds_of_wide 3 Try.f3 rfl rfl rfl rfl rfl rfl rfl ⟨rfl, rfl, rfl, rfl, rfl⟩ rfl rfl rfl rfl rfl (by kernel_rfl) Try.func3 (by kernel_rfl)
    (of_decide_eq_true (by kernel_rfl)) (by unfold Func.isWrapper; first | (rw [if_pos (by decide +kernel)]; kernel_rfl) | (rw [if_neg (by decide +kernel)]; exact ⟨rfl, rfl⟩))
    (fun os started H enc _ => lifted os started H enc)
end ip6Back
theorem ip6Back_holds : Rows.Ip6BackSaid := ip6Back.over
#print axioms ip6Back_holds
end Go.Proofs.Ytbmppdihceaacaa
