/-
  Ip4Turned: P5.4, one bit.
-/
import Derived.Test.YtkfbhofbajejiaaDoorTurn
import Derived.Deep.CutBlock
import Derived.Deep.DeepCutAuto
namespace Go.Proofs.YtkfbhofbajejiaaDoor
open Go.ChangeShapes Go.WideShapes Go.ChangeAt Go.RowKit Go.Deep Num
set_option linter.unusedVariables false
set_option maxHeartbeats 4000000
set_option maxRecDepth 100000

theorem Owns.some {w : World} {v : Value} {l : List Int} (h : Owns w v l) (hl : l ≠ []) : ∃ g cap, v = .slice (some ⟨g, 0, none⟩) l.length cap ∧ l.length ≤ cap := by
  rcases h.2 with ⟨rfl, h3⟩ | ⟨g, cap, cur, rfl, hg, hh, hn, -⟩
  · exact absurd (by simpa using h3) hl
  · simp only [List.length_map] at hn
    exact ⟨g, cap, by simp, hn⟩
theorem walk (p : Pk) (ov dv : Value) (n : Int) (W : World) (hg : Glob W) (hp : Pkt W p ov dv) (_ : p.o.length ≤ 140737488351232) (_ : p.d.length ≤ 140737488351232) (_ : (Lit.int .i64 n).wf = true) :
    Calls Tryd.prog 5 #[.agg (csP p ov dv), .int .i64 n] W fun e W' => e = .returned (.bool true) ∧ Below W.heap.size W W' := by
  have HG := Lib.hid hg
  have HP := Lib.hid hp
  have HA := Lib.hid (Away.refl [] W)
  have HAP := Lib.hid hp.wf.ad
  obtain ⟨q, hq⟩ : ∃ q, q = mendP p := ⟨_, rfl⟩
  have HQW : Hid (Wf q) := by rw [hq]; exact mend_wf hp.wf
  have HQR : Hid (rightP q = true) := by rw [hq]; exact mend_right hp.wf
  have HQA := Lib.hid HQW.out.ad
  obtain ⟨b, hb4⟩ : ∃ b, b = lay4 q := ⟨_, rfl⟩
  have hbd := lay4_bd HQW.out HQR.out
  rw [← hb4] at hbd
  have HBB := Lib.hid hbd.1
  have hbl := hbd.2.1
  have HBL := Lib.hid hbd.2.2
  have HB4 := Lib.hid hb4
  have hb0 : 20 ≤ b.length := by have := HBL.out; omega
  have hpos := Lib.hid hg.pos
  clear hg hp hbd
  go_enter Tryd.func5, Tryd.ntmps5
  go_wp2_with (refine wpList_box28 rfl _ rfl p _ _ rfl ?_; refine Hid.out ?_)
  refine Lib.hid ?_
  intro g2 w1 hg_g2 hb haw
  replace HG := Lib.hid (HG.out.on haw)
  replace HP := Lib.hid (HP.out.on haw)
  replace HA := Lib.hid (HA.out.on haw)
  clear haw
  have HB2 := Lib.hid hb
  clear hb
  go_wp2_with fail
  refine (alive_c _ HG.out).mono ?_
  rintro E w2 ⟨rfl, haw⟩
  replace HG := Lib.hid (HG.out.on haw)
  replace HP := Lib.hid (HP.out.on haw)
  replace HA := Lib.hid (HA.out.on haw)
  replace HB2 := Lib.hid (HB2.out.on haw)
  clear haw
  have hsz2 := HA.out.size
  go_wp2_with (first | (refine wpList_load28 rfl _ rfl _ rfl p _ _ (by exact HB2.out) HAP.out ?_))
  refine (mended_c p _ _ _ HP.out).mono ?_
  rw [← hq]
  rintro E w3 ⟨ou, du, rfl, hmi, haw⟩
  replace HG := Lib.hid (HG.out.on haw)
  replace HP := Lib.hid (HP.out.on haw)
  replace HA := Lib.hid (HA.out.on haw)
  replace HB2 := Lib.hid (HB2.out.on haw)
  clear haw
  have HQ := Lib.hid hmi
  obtain ⟨oa, on, oc, rfl⟩ := hmi.o.shp
  obtain ⟨da, dn, dc, rfl⟩ := hmi.d.shp
  have hlo := Lib.hid hmi.o.lt
  have hld := Lib.hid hmi.d.lt
  have HDN : Hid (q.d.length = dn) := (Sl.of (hmi.d.sl HQW.out.d HQW.out.dn)).1
  clear hmi hq
  clear HB2 HP
  go_wp2_with (first | (refine wpList_new28 rfl rfl rfl _ _ rfl q (.slice oa on oc) (.slice da dn dc) (fun _ => rfl) (fun _ => rfl) HQA.out rfl rfl ?_; refine Hid.out ?_))
  refine Lib.hid ?_
  intro g5 w4 hg_g5 hb haw
  replace HG := Lib.hid (HG.out.on haw)
  replace HA := Lib.hid (HA.out.on haw)
  replace HQ := Lib.hid (HQ.out.on haw)
  clear haw
  have HB5 := Lib.hid hb
  clear hb
  go_wp2_with (first | (refine wpList_load28 rfl _ rfl _ rfl q _ _ (by exact HB5.out) HQA.out ?_))
  refine (ownP_c q _ _ _ (HQ.out.pkt HQW.out)).mono ?_
  rintro E w5 ⟨o5, d5, rfl, hmi, haw⟩
  replace HG := Lib.hid (HG.out.on haw)
  replace HA := Lib.hid (HA.out.on haw)
  replace HQ := Lib.hid (HQ.out.on haw)
  replace HB5 := Lib.hid (HB5.out.on haw)
  clear haw
  have HQ1 := Lib.hid (hmi.pkt HQW.out)
  clear hmi
  go_wp2_with fail
  refine (build_c q _ _ _ HQ1.out HG.out).mono ?_
  rintro E w6 ⟨v6, rfl, hown, hnew, haw⟩
  replace HG := Lib.hid (HG.out.on haw)
  replace HA := Lib.hid (HA.out.on haw)
  replace HQ := Lib.hid (HQ.out.on haw)
  replace HB5 := Lib.hid (HB5.out.on haw)
  replace HQ1 := Lib.hid (HQ1.out.on haw)
  clear haw
  clear HQ1
  rw [build_ok HQR.out] at hown
  rw [build_ok HQR.out]
  replace hown : Owns w6 v6 b := by rw [hb4]; exact hown
  obtain ⟨a6, c6, hv6, hcap6, hn6, hrow, -⟩ := hown.row (by omega) HBB.out
  subst hv6
  have HRB := Lib.hid hrow
  clear hown hnew hrow hb4
  obtain ⟨R, hR⟩ : ∃ R, Int.tmod n (8 * (b.length : Int)) = R := ⟨_, rfl⟩
  have hRb : -(8 * (b.length : Int)) < R ∧ R < 8 * (b.length : Int) := by
    rw [← hR]
    have h1 := Int.tmod_lt_of_pos n (b := 8 * (b.length : Int)) (by omega)
    have h2 := Int.lt_tmod_of_pos n (b := 8 * (b.length : Int)) (by omega)
    omega
  have hne : ¬ (8 * (b.length : Int) = 0) := by omega
  have hne2 : ¬ ((b.length : Int) < 20) := by omega
  go_upto_if 36 with fail
  go_cut [8] (fun v wc => ∃ k : Nat, v = .int .i64 (k : Int) ∧ (k : Int) < 8 * (b.length : Int) ∧ wc = w6)
  case first =>
    by_cases h0 : R < 0
    · go_wp2_with fail
      go_meet
      exact ⟨(-R).toNat, by congr 1; omega, by omega, rfl⟩
    · go_wp2_with fail
      go_meet
      exact ⟨R.toNat, by congr 1; omega, by omega, rfl⟩
  case rest =>
  obtain ⟨k0, rfl, hk0, rfl⟩ := hcut
  go_upto_if 40 with fail
  go_cut [8] (fun v wc' => ∃ k : Nat, v = .int .i64 (k : Int) ∧ 8 ≤ k ∧ (k : Int) < 8 * (b.length : Int) ∧ wc' = wc)
  case first =>
    by_cases h0 : k0 < 8
    · have h0' : (k0 : Int) < 8 := by omega
      go_wp2_with fail
      go_meet
      exact ⟨k0 + 8, by go_num, by omega, by omega, rfl⟩
    · have h0' : ¬ (k0 : Int) < 8 := by omega
      go_wp2_with fail
      go_meet
      exact ⟨k0, rfl, by omega, by omega, rfl⟩
  case rest =>
  obtain ⟨k, rfl, hk8, hkL, rfl⟩ := hcut
  clear hR hRb hk0 k0
  obtain ⟨i, hi⟩ : ∃ i, i = k / 8 := ⟨_, rfl⟩
  obtain ⟨j, hj⟩ : ∃ j, j = k % 8 := ⟨_, rfl⟩
  have hi1 : 1 ≤ i := by omega
  have hiL : i < b.length := by omega
  have hj8 : j < 8 := by omega
  have hq : (k : Int) / 8 = (i : Int) := by omega
  have hm : (k : Int) % 8 = (j : Int) := by omega
  clear hi hj
  obtain ⟨old, hold⟩ : ∃ o, o = gt b i := ⟨_, rfl⟩
  have hob := gt_bd HBB.out i
  rw [← hold] at hob
  obtain ⟨X, hX⟩ : ∃ X, X = bits .xor .u8 old ((2 ^ j : Nat) : Int) := ⟨_, rfl⟩
  have hxb := xor_byte j old hj8 hob.1 hob.2
  rw [← hX] at hxb
  have HOLD := Lib.hid hold
  have HX := Lib.hid hX
  have HXB := Lib.hid hxb
  clear hold hX hxb
  go_wp2_with fail
  refine (own_any a6 b _ c6 _ rfl HRB.out).mono ?_
  rintro E w7 ⟨v7, rfl, hown7, hnew7, haw7, -, -⟩
  obtain ⟨gb, c7, rfl, hc7⟩ := hown7.some (by intro h; rw [h] at hb0; simp at hb0)
  have hgb := hnew7 gb rfl
  have hcell := hown7.cells i hiL
  have c1 : w7.cell? ⟨gb, i, none⟩ = some (.int .u8 old) := by rw [hcell.1]; show some (Value.int .u8 (gt b i)) = _; rw [← HOLD.out]
  have c2 := hcell.2
  have HOW := Lib.hid (hown7.set rfl i X)
  have HAW := Lib.hid (haw7.setCell (p := ⟨gb, i, none⟩) (.inr hgb) (.int .u8 X))
  clear hcell hown7 haw7
  go_upto_region 13 with fail
  go_cut [] (fun wc' => Owns wc' (.slice (some ⟨gb, 0, none⟩) b.length c7) (b.set i X) ∧ Away [] wc wc')
  case first =>
    obtain rfl | rfl | rfl | rfl | rfl | rfl | rfl | rfl : j = 0 ∨ j = 1 ∨ j = 2 ∨ j = 3 ∨ j = 4 ∨ j = 5 ∨ j = 6 ∨ j = 7 := by omega
    · have hX : bits .xor .u8 old 1 = X := by rw [HX.out]; rfl
      simp only [Int.cast_ofNat_Int] at hm
      go_wp2_with fail
      go_region
      go_wp2_with fail
      go_meet
      exact ⟨HOW.out, HAW.out.drew⟩
    · have hX : bits .xor .u8 old 2 = X := by rw [HX.out]; rfl
      simp only [Int.cast_ofNat_Int] at hm
      go_wp2_with fail
      go_region
      go_wp2_with fail
      go_meet
      exact ⟨HOW.out, HAW.out.drew⟩
    · have hX : bits .xor .u8 old 4 = X := by rw [HX.out]; rfl
      simp only [Int.cast_ofNat_Int] at hm
      go_wp2_with fail
      go_region
      go_wp2_with fail
      go_meet
      exact ⟨HOW.out, HAW.out.drew⟩
    · have hX : bits .xor .u8 old 8 = X := by rw [HX.out]; rfl
      simp only [Int.cast_ofNat_Int] at hm
      go_wp2_with fail
      go_region
      go_wp2_with fail
      go_meet
      exact ⟨HOW.out, HAW.out.drew⟩
    · have hX : bits .xor .u8 old 16 = X := by rw [HX.out]; rfl
      simp only [Int.cast_ofNat_Int] at hm
      go_wp2_with fail
      go_region
      go_wp2_with fail
      go_meet
      exact ⟨HOW.out, HAW.out.drew⟩
    · have hX : bits .xor .u8 old 32 = X := by rw [HX.out]; rfl
      simp only [Int.cast_ofNat_Int] at hm
      go_wp2_with fail
      go_region
      go_wp2_with fail
      go_meet
      exact ⟨HOW.out, HAW.out.drew⟩
    · have hX : bits .xor .u8 old 64 = X := by rw [HX.out]; rfl
      simp only [Int.cast_ofNat_Int] at hm
      go_wp2_with fail
      go_region
      go_wp2_with fail
      go_meet
      exact ⟨HOW.out, HAW.out.drew⟩
    · have hX : bits .xor .u8 old 128 = X := by rw [HX.out]; rfl
      simp only [Int.cast_ofNat_Int] at hm
      go_wp2_with fail
      go_region
      go_wp2_with fail
      go_meet
      exact ⟨HOW.out, HAW.out.drew⟩
  case rest =>
  obtain ⟨hown8, haw⟩ := hcut
  clear HOW HAW c1 c2 hnew7
  replace HG := Lib.hid (HG.out.on haw)
  replace HA := Lib.hid (HA.out.on haw)
  replace HQ := Lib.hid (HQ.out.on haw)
  replace HB5 := Lib.hid (HB5.out.on haw)
  replace HRB := Lib.hid (HRB.out.on haw)
  clear haw
  have hcl : (b.set i X).length = b.length := by simp
  have HCB : Hid (Bytes (b.set i X)) := HBB.out.set i HXB.out.1.1 HXB.out.1.2
  obtain ⟨c, hc⟩ : ∃ c, c = b.set i X := ⟨_, rfl⟩
  rw [← hc] at hown8 hcl HCB
  have HCE := Lib.hid hc
  have HCL := Lib.hid hcl
  clear hc hcl
  have HRC := Lib.hid (hown8.row' (by rw [HCL.out]; omega) HCB.out)
  clear hown8
  go_wp2_with fail
  refine (own_any (some ⟨gb, 0, none⟩) c _ c7 _ HCL.out HRC.out).mono ?_
  rintro E w8 ⟨v8, rfl, hown, hnew, haw, -, -⟩
  replace HG := Lib.hid (HG.out.on haw)
  replace HA := Lib.hid (HA.out.on haw)
  replace HQ := Lib.hid (HQ.out.on haw)
  replace HB5 := Lib.hid (HB5.out.on haw)
  replace HRB := Lib.hid (HRB.out.on haw)
  replace HRC := Lib.hid (HRC.out.on haw)
  clear haw
  clear HRC
  obtain ⟨a8, c8, hv8, hcap8, hn8, hrow, -⟩ := hown.row (by rw [HCL.out]; omega) HCB.out
  rw [HCL.out] at hv8 hcap8
  subst hv8
  have HRC := Lib.hid hrow
  clear hown hnew hrow
  go_wp2_with fail
  refine (parse_c a8 c _ c8 _ HCL.out hcap8 hn8 HRC.out HG.out).mono ?_
  rintro E w9 ⟨ot, dt, rfl, ho, hd, hno, hnd, -, haw⟩
  have hsz8 := HB5.out.lt
  replace HG := Lib.hid (HG.out.on haw)
  replace HA := Lib.hid (HA.out.on haw)
  replace HQ := Lib.hid (HQ.out.on haw)
  replace HB5 := Lib.hid (HB5.out.on haw)
  replace HRB := Lib.hid (HRB.out.on haw)
  replace HRC := Lib.hid (HRC.out.on haw)
  clear haw
  have hsz9 := HB5.out.lt
  clear HRC
  have HTW := Lib.hid (parse4_wf HCB.out (by rw [HCL.out]; omega))
  have HTA := Lib.hid HTW.out.ad
  have HT := Lib.hid (pkt_of HTW.out ho hd)
  have h5 := HT.out.ov
  have h6 := HT.out.dv
  clear ho hd
  obtain ⟨t, ht⟩ : ∃ t, t = (parse4 c).1 := ⟨_, rfl⟩
  obtain ⟨e, hte⟩ : ∃ t, t = (parse4 c).2 := ⟨_, rfl⟩
  rw [← ht] at HTW HTA HT
  rw [← ht, ← hte]
  have HTE := Lib.hid ht
  have HEE := Lib.hid hte
  clear ht hte
  go_wp2_with (first | (refine wpList_new28 rfl rfl rfl _ _ rfl t ot dt (fun _ => rfl) (fun _ => rfl) HTA.out h5 h6 ?_; refine Hid.out ?_))
  refine Lib.hid ?_
  intro g10 w10 hg_g10 hb haw
  replace HG := Lib.hid (HG.out.on haw)
  replace HA := Lib.hid (HA.out.on haw)
  replace HQ := Lib.hid (HQ.out.on haw)
  replace HB5 := Lib.hid (HB5.out.on haw)
  replace HRB := Lib.hid (HRB.out.on haw)
  replace HT := Lib.hid (HT.out.on haw)
  clear haw
  have HB10 := Lib.hid hb
  clear hb
  obtain ⟨hh, hhe⟩ : ∃ h : Nat, h = 20 + q.o.length := ⟨_, rfl⟩
  have hhd : (b.length : Int) - (dn : Int) = (hh : Int) := by have h1 := HBL.out; have h2 := HDN.out; omega
  have HHH := Lib.hid hhe
  clear hhe
  have c45 := (HB5.out.cells HQA.out).d
  by_cases hih : i < hh
  · have hih' : (i : Int) < (hh : Int) := by omega
    have hne3 := turn_head HQW.out HQR.out i hi1 (by rw [← HHH.out]; exact hih) X HXB.out.1 (by rw [← HB4.out, ← HOLD.out]; exact HXB.out.2)
    rw [← HB4.out, ← HCE.out] at hne3
    have hno3 := turn_no hne3
    rw [← HTE.out, ← HEE.out] at hno3
    obtain ⟨he, htz⟩ := hno3
    subst htz
    have be : (e == 0) = false := by simp [he]
    have be2 : (e != 0) = true := by simp [he]
    clear he hne3
    go_wp2_with (first | (refine wpList_load28 rfl _ rfl _ rfl zeroPk _ _ (by exact HB10.out) HTA.out ?_))
    refine (sameP_yes zeroPk zeroPk ot dt (.slice none 0 0) (.slice none 0 0) _ HT.out (Pkt.zero _) rfl).mono ?_
    rintro E w11 ⟨rfl, haw⟩
    replace HA := Lib.hid (HA.out.on haw)
    go_wp2_with fail
    go_ret
    exact ⟨rfl, HA.out.to_below⟩
  · have hih' : ¬ (i : Int) < (hh : Int) := by omega
    obtain ⟨m, hm2⟩ : ∃ m, m = i - hh := ⟨_, rfl⟩
    have hmi : (i : Int) - (hh : Int) = (m : Int) := by omega
    have him : i = 20 + q.o.length + m := by have := HHH.out; omega
    have hmd : m < q.d.length := by have := HBL.out; omega
    have hmn : m < dn := by have := HDN.out; omega
    have htd := turn_data HQW.out HQR.out m hmd X HXB.out.1
    rw [← him, ← HB4.out, ← HCE.out] at htd
    have ht2 : t = { q with d := q.d.set m X } := by rw [HTE.out, htd]
    have he2 : e = 0 := by rw [HEE.out, htd]
    have hod : gt q.d m = old := by rw [HOLD.out, HB4.out, him]; exact (gt_data HQW.out m hmd).symm
    subst he2
    have HT2 := Lib.hid ht2
    clear hm2 htd him ht2
    obtain ⟨gd, cd, hdv, hcd⟩ := HQ.out.d.some (by intro h; rw [h] at hmd; simp at hmd)
    rw [HDN.out] at hdv hcd
    simp only [Value.slice.injEq] at hdv
    obtain ⟨rfl, -, rfl⟩ := hdv
    have hcell := HQ.out.d.cells m hmd
    have c1 : w10.cell? ⟨gd, m, none⟩ = some (.int .u8 old) := by rw [hcell.1]; show some (Value.int .u8 (gt q.d m)) = _; rw [hod]
    have c2 := hcell.2
    have hgd := HQ.out.nd gd rfl
    have hgdl := hld.out gd rfl
    have HOW := Lib.hid (HQ.out.d.set HDN.out m X)
    have HAW := Lib.hid (away_put (w := w10) (g := gd) m (.int .u8 X))
    clear hcell hod
    go_upto_region 18 with fail
    go_cut [] (fun wc' => Owns wc' (.slice (some ⟨gd, 0, none⟩) dn dc) (q.d.set m X) ∧ Away [gd] w10 wc')
    case first =>
      obtain rfl | rfl | rfl | rfl | rfl | rfl | rfl | rfl : j = 0 ∨ j = 1 ∨ j = 2 ∨ j = 3 ∨ j = 4 ∨ j = 5 ∨ j = 6 ∨ j = 7 := by omega
      · have hX : bits .xor .u8 old 1 = X := by rw [HX.out]; rfl
        simp only [Int.cast_ofNat_Int] at hm
        go_wp2_with fail
        go_region
        go_wp2_with fail
        go_meet
        exact ⟨HOW.out, HAW.out.drew⟩
      · have hX : bits .xor .u8 old 2 = X := by rw [HX.out]; rfl
        simp only [Int.cast_ofNat_Int] at hm
        go_wp2_with fail
        go_region
        go_wp2_with fail
        go_meet
        exact ⟨HOW.out, HAW.out.drew⟩
      · have hX : bits .xor .u8 old 4 = X := by rw [HX.out]; rfl
        simp only [Int.cast_ofNat_Int] at hm
        go_wp2_with fail
        go_region
        go_wp2_with fail
        go_meet
        exact ⟨HOW.out, HAW.out.drew⟩
      · have hX : bits .xor .u8 old 8 = X := by rw [HX.out]; rfl
        simp only [Int.cast_ofNat_Int] at hm
        go_wp2_with fail
        go_region
        go_wp2_with fail
        go_meet
        exact ⟨HOW.out, HAW.out.drew⟩
      · have hX : bits .xor .u8 old 16 = X := by rw [HX.out]; rfl
        simp only [Int.cast_ofNat_Int] at hm
        go_wp2_with fail
        go_region
        go_wp2_with fail
        go_meet
        exact ⟨HOW.out, HAW.out.drew⟩
      · have hX : bits .xor .u8 old 32 = X := by rw [HX.out]; rfl
        simp only [Int.cast_ofNat_Int] at hm
        go_wp2_with fail
        go_region
        go_wp2_with fail
        go_meet
        exact ⟨HOW.out, HAW.out.drew⟩
      · have hX : bits .xor .u8 old 64 = X := by rw [HX.out]; rfl
        simp only [Int.cast_ofNat_Int] at hm
        go_wp2_with fail
        go_region
        go_wp2_with fail
        go_meet
        exact ⟨HOW.out, HAW.out.drew⟩
      · have hX : bits .xor .u8 old 128 = X := by rw [HX.out]; rfl
        simp only [Int.cast_ofNat_Int] at hm
        go_wp2_with fail
        go_region
        go_wp2_with fail
        go_meet
        exact ⟨HOW.out, HAW.out.drew⟩
    case rest =>
    obtain ⟨hown8, haw8⟩ := hcut
    have HA2 : Hid (Away [] W _) := HA.out.next haw8 (fun x hx => .inr (by simp at hx; omega))
    have HB5' := Lib.hid (HB5.out.away haw8 (by simp; omega))
    have HB10' := Lib.hid (HB10.out.away haw8 (by simp; omega))
    have HT' : Hid (Pkt _ t ot dt) := ⟨HT.out.wf, HT.out.o.away haw8 (fun _ k hk => by have := hno k hk; simp; omega), HT.out.d.away haw8 (fun _ k hk => by have := hnd k hk; simp; omega)⟩
    have HO' := Lib.hid (HQ.out.o.away haw8 (fun k hk hx => HQ.out.ap k hk (by simp at hx; rw [hx]; rfl)))
    have HQ' : Hid (Pkt _ { q with d := q.d.set m X } (.slice oa on oc) (.slice (some ⟨gd, 0, none⟩) dn dc)) := pkt_of (turn_wf HQW.out m X HXB.out.1) HO'.out hown8
    have HB5q : Hid (BoxP _ g5 { q with d := q.d.set m X } (.slice oa on oc) (.slice (some ⟨gd, 0, none⟩) dn dc)) := HB5'.out
    have HQA2 : Hid (Ad { q with d := q.d.set m X }) := HQA.out
    clear hown8 haw8 HA HB5 HB10 HT HQ HB5' HO' HOW HAW c1 c2
    go_wp2_with (first | (refine wpList_load28 rfl _ rfl _ rfl t _ _ (by exact HB10'.out) HTA.out ?_; refine Hid.out ?_))
    refine Lib.hid ?_
    go_wp2_with (first | (refine wpList_load28 rfl _ rfl _ rfl { q with d := q.d.set m X } _ _ (by exact HB5q.out) HQA2.out ?_; refine Hid.out ?_))
    refine Lib.hid ?_
    go_wp2_with fail
    refine (sameP_yes t { q with d := q.d.set m X } ot dt _ _ _ HT'.out HQ'.out HT2.out).mono ?_
    rintro E w11 ⟨rfl, haw⟩
    replace HA2 := Lib.hid (HA2.out.on haw)
    go_wp2_with fail
    go_ret
    exact ⟨rfl, HA2.out.to_below⟩
namespace ip4Turned
theorem contract (H : Type) (enc : TypeId × Value → H) (W : World) (base : Nat) (args : Array Value) (ds gs : List (DataW H)) (before : List MemPlace)
    (hval0 : ∀ (j : Nat) t v, Tryd.f5.params[j]? = some t → args[j]? = some v → Value.okWide Tryd.prog W .any base t v)
    (hW : DataW.Whole enc Tryd.prog Tryd.f5.params.toList Rows.ip4TurnedSpec.vars false W args.toList ds gs before)
    (hsz0 : (DataW.weightsEach Tryd.prog (Tryd.f5.params.toList ++ Rows.ip4TurnedSpec.plain.varTypes Tryd.prog) (ds ++ gs)).all (· ≤ reachBytes) = true)
    (hL : laidMetH Tryd.prog Rows.ip4TurnedRow.laid W) :
    Calls Tryd.prog 5 args W fun e W' => ∃ v, e = .returned v ∧ Rows.ip4TurnedSpec.post enc Tryd.prog Tryd.f5 false true false false W args v W' := by
  have hval := hval0
  have hsz := hsz0
  have hW' := hW
  obtain ⟨p, q, hA0, hV, rfl, hfz, hnd⟩ := hW
  have hA : DataW.TrodAll enc Tryd.prog W 0 (fun _ => true) true Tryd.f5.params.toList args.toList ds p := hA0
  rw [Tryd.params5] at hA hval hsz
  obtain ⟨v0, vs0, d0, ds0, p0, q0, hargs, rfl, rfl, h0, r0⟩ := trodAll_cons hA
  obtain ⟨v1, vs1, d1, ds1, p1, q1, rfl, rfl, rfl, h1, r1⟩ := trodAll_cons r0
  obtain ⟨rfl, rfl, rfl⟩ := trodAll_nil r1
  obtain rfl : args = #[v0, v1] := by cases args; simp_all
  obtain ⟨rfl, rfl⟩ := trodVars_none hV
  have k0 := h0
  have lt0 : ∀ x ∈ p0, x.block < W.heap.size := by obtain ⟨m, hm⟩ := k0; exact DataW.trod_lt m _ _ _ hm
  have z0 : ∀ m ∈ d0.weights Tryd.prog 28, m ≤ reachBytes := fun m hm => by
    have := List.all_eq_true.1 hsz m (DataW.weights_mem_each (j := 0) (t := 28) rfl rfl m hm)
    simpa using this
  obtain ⟨x0, ov0, dv0, rfl, w0, ol0, dl0⟩ := open_pkt (hval 0 28 v0 rfl rfl) h0 z0
  obtain ⟨a1, rfl, rfl, rfl, w1⟩ := open_int Tryd.underlying3 (hval 1 3 v1 rfl rfl) h1
  clear hA0 hval0
  refine (walk x0 ov0 dv0 a1 W (glob_of hL) w0 ol0 dl0 w1).mono fun e W' ⟨he, bel⟩ => ?_
  subst he
  exact ⟨_, rfl, _, _, _, [], _, [], hW', trodAll_mk1 (shut_bool Tryd.underlying4 _), (trodAll_cons_mk (Below.trod laidOut (by kernel_rfl) (of_decide_eq_true (by kernel_rfl)) k0 bel lt0) (trodAll_cons_mk (shut_int Tryd.underlying3 w1) trodAll_mk0)), rfl, bel.frame _, fun h => by cases h⟩
theorem laid_met (os : Os) : laidMet Tryd.prog Rows.ip4TurnedRow.laid ((laidWorld Tryd.prog os).forCall (fun _ _ => 0) ⟨#[], #[.agg (csP zeroPk (.slice none 0 0) (.slice none 0 0)), .int .i64 0], []⟩).memory :=
  laidMet_of_run' 8 (by kernel_rfl) (by kernel_rfl)
theorem reads (os : Os) {H : Type} (enc : TypeId × Value → H) : ∃ places, DataW.whole enc Tryd.prog ((laidWorld Tryd.prog os).forCall (fun _ _ => 0) ⟨#[], #[.agg (csP zeroPk (.slice none 0 0) (.slice none 0 0)), .int .i64 0], []⟩).memory Tryd.f5.params.toList Rows.ip4TurnedSpec.vars false #[.agg (csP zeroPk (.slice none 0 0) (.slice none 0 0)), .int .i64 0].toList 8 = some ([.agg [.lit (.int .i64 0), .lit (.int .i64 0), .lit (.int .i64 0), .agg [.lit (.int .i64 0), .agg [.lit (.int .u8 0), .lit (.int .u8 0), .lit (.int .u8 0), .lit (.int .u8 0), .lit (.int .u8 0), .lit (.int .u8 0), .lit (.int .u8 0), .lit (.int .u8 0), .lit (.int .u8 0), .lit (.int .u8 0), .lit (.int .u8 0), .lit (.int .u8 0), .lit (.int .u8 0), .lit (.int .u8 0), .lit (.int .u8 0), .lit (.int .u8 0)]], .agg [.lit (.int .i64 0), .agg [.lit (.int .u8 0), .lit (.int .u8 0), .lit (.int .u8 0), .lit (.int .u8 0), .lit (.int .u8 0), .lit (.int .u8 0), .lit (.int .u8 0), .lit (.int .u8 0), .lit (.int .u8 0), .lit (.int .u8 0), .lit (.int .u8 0), .lit (.int .u8 0), .lit (.int .u8 0), .lit (.int .u8 0), .lit (.int .u8 0), .lit (.int .u8 0)]], .lit (.int .i64 0), .lit (.int .i64 0), .lit (.int .u32 0), .lit (.bool false), .lit (.bool false), .lit (.bool false), .lit (.int .i64 0), .nil, .nil], .lit (.int .i64 0)], [], places) :=
  ⟨[], by kernel_rfl⟩
theorem lifted (os : Os) (started : os.Started) (H : Type) (enc : TypeId × Value → H) (F : Stop.Interp) :
    ReturnsInHanded {} Tryd.checked os 5 .any ((OpenSpec.ofChange Rows.ip4TurnedSpec).preRow enc Tryd.prog Tryd.f5 Rows.ip4TurnedRow.domain false Rows.ip4TurnedRow.laid) (((OpenSpec.ofChange Rows.ip4TurnedSpec).at F).post enc Tryd.prog Tryd.f5 false true false false) := by
  obtain ⟨places, hx⟩ := reads os enc
  refine returnsInHanded_of_row (C := Tryd.checked) (s := OpenSpec.ofChange Rows.ip4TurnedSpec) ownKn started (by kernel_rfl) Tryd.func5
    (witness_row_at (enc := enc) (C := Tryd.checked) false (laidWorld Tryd.prog os) #[.agg (csP zeroPk (.slice none 0 0) (.slice none 0 0)), .int .i64 0] rfl (by kernel_rfl) (by kernel_rfl) (by kernel_rfl)
      (OpenSpec.preRow_of_cond 8 hx (by kernel_rfl) (fun k hk => by cases hk) (by kernel_rfl) (laid_met os))) ?_
  intro W base args ds gs before hval hW _ hcond hsz hL hS _
  exact contract H enc W base args ds gs before hval hW hsz hL
theorem said : Rows.Ip4TurnedSaid :=
  OpenClaim.holds_of_cond 5 Tryd.f5 rfl rfl rfl rfl rfl rfl rfl ⟨rfl, rfl, rfl, rfl, rfl⟩ rfl rfl rfl rfl rfl (by kernel_rfl) Tryd.func5 (by kernel_rfl)
    (of_decide_eq_true (by kernel_rfl)) (by unfold Func.isWrapper; first | (rw [if_pos (by decide +kernel)]; kernel_rfl) | (rw [if_neg (by decide +kernel)]; exact ⟨rfl, rfl⟩))
    (fun os started H enc _ F => by rw [OpenClaim.pre_eq_preRow]; exact lifted os started H enc F)
theorem plain (f : FuncId) (fn : Func) (hf : Tryd.pinned.checked.prog.funcNamed "mosaic/mosaiclaw05.Ip4Turned" = some f) (hfn : Tryd.pinned.checked.prog.funcs[f]? = some fn) :
    false = Tryd.pinned.checked.prog.looks [] ∧ ∀ (j : Nat) t, fn.params[j]? = some t → Tryd.pinned.checked.prog.wantsStandIn t = false := by
  obtain rfl : f = 5 := Option.some.inj ((show Tryd.prog.funcNamed "mosaic/mosaiclaw05.Ip4Turned" = some 5 by kernel_rfl).symm.trans hf) |>.symm
  obtain rfl : fn = Tryd.f5 := (Option.some.inj (Tryd.func5.symm.trans hfn)).symm
  refine ⟨by kernel_rfl, fun j t ht => ?_⟩
  rw [Tryd.params5] at ht
  have hm := Array.mem_of_getElem? ht
  simp only [List.mem_toArray, List.mem_cons, List.not_mem_nil, or_false] at hm
  have h28 : Tryd.prog.wantsStandIn 28 = false := by kernel_rfl
  have h26 : Tryd.prog.wantsStandIn 26 = false := by kernel_rfl
  have h3 : Tryd.prog.wantsStandIn 3 = false := by kernel_rfl
  rcases hm with rfl | rfl
  all_goals first | exact h28 | exact h26 | exact h3
theorem card : Rows.Ip4TurnedCardSaid :=
  Claim7.holds_tied_plain_at .later [] _ _ _ _ said (fun _ h => by cases h) (by kernel_rfl) (fun _ h => by cases h) ip4Turned_row_tie rfl ⟨rfl, rfl⟩ (by kernel_rfl) rfl plain (by kernel_rfl)
end ip4Turned
theorem ip4Turned_holds : Rows.Ip4TurnedCardSaid := ip4Turned.card
#print axioms ip4Turned_holds
end Go.Proofs.YtkfbhofbajejiaaDoor
