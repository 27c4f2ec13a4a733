/-
  Ip4Differ: P5.2, the same bytes just if they are equal.
-/
import Derived.Test.YtkfbhofbajejiaaDoorStp2
import Derived.Deep.CutBlock
import Derived.Deep.DeepCutAuto
namespace Go.Proofs.YtkfbhofbajejiaaDoor
open Go.ChangeShapes Go.WideShapes Go.ChangeAt Go.RowKit Go.Deep Num
set_option linter.unusedVariables false
set_option maxHeartbeats 4000000
set_option maxRecDepth 100000

theorem walk (p : Pk) (ov dv : Value) (r : Pk) (ov2 dv2 : Value) (n : Int) (W : World) (hg : Glob W) (hp : Pkt W p ov dv) (_ : p.o.length ≤ 140737488351232) (_ : p.d.length ≤ 140737488351232) (hp2 : Pkt W r ov2 dv2) (_ : r.o.length ≤ 140737488351232) (_ : r.d.length ≤ 140737488351232) (_ : (Lit.int .i64 n).wf = true) :
    Calls Tryd.prog 6 #[.agg (csP p ov dv), .agg (csP r ov2 dv2), .int .i64 n] W fun e W' => e = .returned (.bool true) ∧ Below W.heap.size W W' := by
  have HG := Lib.hid hg
  have HP := Lib.hid hp
  have HP2 := Lib.hid hp2
  have HA := Lib.hid (Away.refl [] W)
  have HAP := Lib.hid hp.wf.ad
  have HAP2 := Lib.hid hp2.wf.ad
  obtain ⟨x, hx⟩ : ∃ q, q = mendP p := ⟨_, rfl⟩
  have HXW : Hid (Wf x) := by rw [hx]; exact mend_wf hp.wf
  have HXR : Hid (rightP x = true) := by rw [hx]; exact mend_right hp.wf
  have HXA := Lib.hid HXW.out.ad
  obtain ⟨y, hy⟩ : ∃ q, q = mendP r := ⟨_, rfl⟩
  have HYW : Hid (Wf y) := by rw [hy]; exact mend_wf hp2.wf
  have HYR : Hid (rightP y = true) := by rw [hy]; exact mend_right hp2.wf
  have HYA := Lib.hid HYW.out.ad
  obtain ⟨k, hk⟩ : ∃ k, bits .and .i64 n 7 = k := ⟨_, rfl⟩
  have hk7 := and7 n
  rw [hk] at hk7
  have hpos := Lib.hid hg.pos
  clear hg hp hp2
  go_enter Tryd.func6, Tryd.ntmps6
  go_wp2_with (refine wpList_box28 rfl _ rfl p _ _ rfl ?_; refine Hid.out ?_)
  refine Lib.hid ?_
  intro g3 w1 hg_g3 hb haw
  replace HG := Lib.hid (HG.out.on haw)
  replace HP := Lib.hid (HP.out.on haw)
  replace HP2 := Lib.hid (HP2.out.on haw)
  replace HA := Lib.hid (HA.out.on haw)
  clear haw
  have HB3 := Lib.hid hb
  clear hb
  go_wp2_with (refine wpList_box28 rfl _ rfl r _ _ rfl ?_; refine Hid.out ?_)
  refine Lib.hid ?_
  intro g4 w1b hg_g4 hb haw
  replace HG := Lib.hid (HG.out.on haw)
  replace HP := Lib.hid (HP.out.on haw)
  replace HP2 := Lib.hid (HP2.out.on haw)
  replace HA := Lib.hid (HA.out.on haw)
  replace HB3 := Lib.hid (HB3.out.on haw)
  clear haw
  have HB4 := Lib.hid hb
  clear hb
  go_wp2_with fail
  refine (alive_c _ HG.out).mono ?_
  rintro E w2 ⟨rfl, haw⟩
  replace HG := Lib.hid (HG.out.on haw)
  replace HP := Lib.hid (HP.out.on haw)
  replace HP2 := Lib.hid (HP2.out.on haw)
  replace HA := Lib.hid (HA.out.on haw)
  replace HB3 := Lib.hid (HB3.out.on haw)
  replace HB4 := Lib.hid (HB4.out.on haw)
  clear haw
  go_wp2_with (first | (refine wpList_load28 rfl _ rfl _ rfl p _ _ (by exact HB3.out) HAP.out ?_))
  refine (mended_c p _ _ _ HP.out).mono ?_
  rw [← hx]
  rintro E w3 ⟨ox, dx, rfl, hmi, haw⟩
  replace HG := Lib.hid (HG.out.on haw)
  replace HP := Lib.hid (HP.out.on haw)
  replace HP2 := Lib.hid (HP2.out.on haw)
  replace HA := Lib.hid (HA.out.on haw)
  replace HB3 := Lib.hid (HB3.out.on haw)
  replace HB4 := Lib.hid (HB4.out.on haw)
  clear haw
  have HX := Lib.hid (hmi.pkt HXW.out)
  have h1 := HX.out.ov
  have h2 := HX.out.dv
  clear hmi hx
  clear HB3 HP
  go_wp2_with (first | (refine wpList_new28 rfl rfl rfl _ _ rfl x ox dx (fun _ => rfl) (fun _ => rfl) HXA.out h1 h2 ?_; refine Hid.out ?_))
  refine Lib.hid ?_
  intro g7 w4 hg_g7 hb haw
  replace HG := Lib.hid (HG.out.on haw)
  replace HP2 := Lib.hid (HP2.out.on haw)
  replace HA := Lib.hid (HA.out.on haw)
  replace HB4 := Lib.hid (HB4.out.on haw)
  replace HX := Lib.hid (HX.out.on haw)
  clear haw
  have HB7 := Lib.hid hb
  clear hb
  go_wp2_with (first | (refine wpList_load28 rfl _ rfl _ rfl r _ _ (by exact HB4.out) HAP2.out ?_))
  refine (mended_c r _ _ _ HP2.out).mono ?_
  rw [← hy]
  rintro E w5 ⟨oy, dy, rfl, hmi, haw⟩
  replace HG := Lib.hid (HG.out.on haw)
  replace HP2 := Lib.hid (HP2.out.on haw)
  replace HA := Lib.hid (HA.out.on haw)
  replace HB4 := Lib.hid (HB4.out.on haw)
  replace HX := Lib.hid (HX.out.on haw)
  replace HB7 := Lib.hid (HB7.out.on haw)
  clear haw
  have HY := Lib.hid (hmi.pkt HYW.out)
  have h3 := HY.out.ov
  have h4 := HY.out.dv
  clear hmi hy
  clear HB4 HP2
  go_wp2_with (first | (refine wpList_new28 rfl rfl rfl _ _ rfl y oy dy (fun _ => rfl) (fun _ => rfl) HYA.out h3 h4 ?_; refine Hid.out ?_))
  refine Lib.hid ?_
  intro g8 w6 hg_g8 hb haw
  replace HG := Lib.hid (HG.out.on haw)
  replace HA := Lib.hid (HA.out.on haw)
  replace HX := Lib.hid (HX.out.on haw)
  replace HB7 := Lib.hid (HB7.out.on haw)
  replace HY := Lib.hid (HY.out.on haw)
  clear haw
  have HB8 := Lib.hid hb
  clear hb
  go_wp2_with (first | (refine wpList_load28 rfl _ rfl _ rfl x _ _ (by exact HB7.out) HXA.out ?_))
  refine (ownP_c x _ _ _ HX.out).mono ?_
  rintro E w7 ⟨oz, dz, rfl, hmi, haw⟩
  replace HG := Lib.hid (HG.out.on haw)
  replace HA := Lib.hid (HA.out.on haw)
  replace HX := Lib.hid (HX.out.on haw)
  replace HB7 := Lib.hid (HB7.out.on haw)
  replace HY := Lib.hid (HY.out.on haw)
  replace HB8 := Lib.hid (HB8.out.on haw)
  clear haw
  have HZ := Lib.hid (hmi.pkt HXW.out)
  have h5 := HZ.out.ov
  have h6 := HZ.out.dv
  clear hmi
  have q1 := Lib.hid HX.out.o.old
  have q2 := Lib.hid HX.out.d.old
  have q3 := Lib.hid HZ.out.o.old
  have q4 := Lib.hid HZ.out.d.old
  have q5 := Lib.hid HY.out.o.old
  have q6 := Lib.hid HY.out.d.old
  have hl7 := HB7.out.lt
  have hl8 := HB8.out.lt
  have hsz := HA.out.size
  go_wp2_with (first | (refine wpList_new28 rfl rfl rfl _ _ rfl x oz dz (fun _ => rfl) (fun _ => rfl) HXA.out h5 h6 ?_; refine Hid.out ?_))
  refine Lib.hid ?_
  intro g9 w8 hg_g9 hb haw
  replace HG := Lib.hid (HG.out.on haw)
  replace HA := Lib.hid (HA.out.on haw)
  replace HX := Lib.hid (HX.out.on haw)
  replace HB7 := Lib.hid (HB7.out.on haw)
  replace HY := Lib.hid (HY.out.on haw)
  replace HB8 := Lib.hid (HB8.out.on haw)
  replace HZ := Lib.hid (HZ.out.on haw)
  clear haw
  have HB9 := Lib.hid hb
  clear hb
  have hp0 := hpos.out
  have KW : Hid (∀ w', Away [g9] w8 w' → Glob w' ∧ Away [] W w' ∧ BoxP w' g7 x ox dx ∧ Pkt w' x ox dx ∧ Pkt w' x oz dz ∧ Pkt w' y oy dy) := fun w' h => ⟨HG.out.away h (by simp; omega), HA.out.next h (fun k hk => .inr (by simp at hk; omega)), HB7.out.away h (by simp; omega), HX.out.awayO h q1.out q2.out (by omega), HZ.out.awayO h q3.out q4.out (by omega), HY.out.awayO h q5.out q6.out (by omega)⟩
  go_upto_block 0 with fail
  go_cut [] (fun wc => ∃ z ou du, rightP z = true ∧ Glob wc ∧ Away [] W wc ∧ BoxP wc g7 x ox dx ∧ Pkt wc x ox dx ∧ BoxP wc g9 z ou du ∧ Pkt wc z ou du)
  case first =>
    obtain rfl | rfl | rfl | rfl | rfl | rfl | rfl | rfl : k = 0 ∨ k = 1 ∨ k = 2 ∨ k = 3 ∨ k = 4 ∨ k = 5 ∨ k = 6 ∨ k = 7 := by omega
    · have c1 := (HB8.out.cells HYA.out).tos
      have c2 := (HB9.out.cells HXA.out).tos
      have c3 := HB9.out.free 1
      go_wp2_with fail
      go_meet
      obtain ⟨k1, k2, k3, k4, k5, k6⟩ := KW.out _ (away_put (w := w8) (g := g9) 1 (.int .i64 y.tos))
      exact ⟨{ x with tos := y.tos }, oz, dz, right_tos HXR.out HYR.out, k1, k2, k3, k4, HB9.out.put 1 (.int .i64 y.tos) ((csP_set HXA.out _ _).2.1 y.tos), ⟨{ HXW.out with tos := HYW.out.tos }, k5.o, k5.d⟩⟩
    · have c1 := (HB8.out.cells HYA.out).id
      have c2 := (HB9.out.cells HXA.out).id
      have c3 := HB9.out.free 39
      go_wp2_with fail
      go_meet
      obtain ⟨k1, k2, k3, k4, k5, k6⟩ := KW.out _ (away_put (w := w8) (g := g9) 39 (.int .u32 y.id))
      exact ⟨{ x with id := y.id }, oz, dz, right_id HXR.out HYR.out, k1, k2, k3, k4, HB9.out.put 39 (.int .u32 y.id) ((csP_set HXA.out _ _).2.2.2.2.2.2.2.1 y.id), ⟨{ HXW.out with id0 := HYW.out.id0, id1 := HYW.out.id1 }, k5.o, k5.d⟩⟩
    · have c1 := (HB8.out.cells HYA.out).df
      have c2 := (HB9.out.cells HXA.out).df
      have c3 := HB9.out.free 40
      go_wp2_with fail
      go_meet
      obtain ⟨k1, k2, k3, k4, k5, k6⟩ := KW.out _ (away_put (w := w8) (g := g9) 40 (.bool y.df))
      exact ⟨{ x with df := y.df }, oz, dz, right_df HXR.out HYR.out, k1, k2, k3, k4, HB9.out.put 40 (.bool y.df) ((csP_set HXA.out _ _).2.2.2.2.2.2.2.2.1 y.df), ⟨{ HXW.out with  }, k5.o, k5.d⟩⟩
    · go_wp2_with (first
        | (refine wpList_load24m rfl _ rfl g8 20 rfl y.dv y.db (by exact (HB8.out.drow HYA.out)) HYA.out.2 ?_)
        | (refine wpList_store24m rfl _ _ rfl g9 20 rfl y.dv y.db rfl x { x with dv := y.dv, db := y.db } oz dz (by exact HB9.out) HXA.out HYA.out.2 (by omega) (csP_dst HXA.out _ _ _ _) ?_; refine Hid.out ?_))
      refine Lib.hid ?_
      intro wq hbq hawq
      have HBQ := Lib.hid hbq
      have HK := Lib.hid (KW.out _ hawq)
      clear hbq hawq
      go_wp2_with fail
      go_meet
      obtain ⟨k1, k2, k3, k4, k5, k6⟩ := HK.out
      exact ⟨{ x with dv := y.dv, db := y.db }, oz, dz, right_dst HXR.out HYR.out, k1, k2, k3, k4, HBQ.out, ⟨{ HXW.out with dv := HYW.out.dv, dl := HYW.out.dl, db := HYW.out.db }, k5.o, k5.d⟩⟩
    · have c1 := (HB8.out.cells HYA.out).ttl
      have c2 := (HB9.out.cells HXA.out).ttl
      have c3 := HB9.out.free 38
      go_wp2_with fail
      go_meet
      obtain ⟨k1, k2, k3, k4, k5, k6⟩ := KW.out _ (away_put (w := w8) (g := g9) 38 (.int .i64 y.ttl))
      exact ⟨{ x with ttl := y.ttl }, oz, dz, right_ttl HXR.out HYR.out, k1, k2, k3, k4, HB9.out.put 38 (.int .i64 y.ttl) ((csP_set HXA.out _ _).2.2.2.2.2.2.1 y.ttl), ⟨{ HXW.out with ttl := HYW.out.ttl }, k5.o, k5.d⟩⟩
    · have c1 := (HB8.out.cells HYA.out).proto
      have c2 := (HB9.out.cells HXA.out).proto
      have c3 := HB9.out.free 37
      go_wp2_with fail
      go_meet
      obtain ⟨k1, k2, k3, k4, k5, k6⟩ := KW.out _ (away_put (w := w8) (g := g9) 37 (.int .i64 y.proto))
      exact ⟨{ x with proto := y.proto }, oz, dz, right_proto HXR.out HYR.out, k1, k2, k3, k4, HB9.out.put 37 (.int .i64 y.proto) ((csP_set HXA.out _ _).2.2.2.2.2.1 y.proto), ⟨{ HXW.out with proto := HYW.out.proto }, k5.o, k5.d⟩⟩
    · go_wp2_with (first
        | (refine wpList_load24m rfl _ rfl g8 3 rfl y.sv y.sb (by exact HB8.out.srow) HYA.out.1 ?_)
        | (refine wpList_store24m rfl _ _ rfl g9 3 rfl y.sv y.sb rfl x { x with sv := y.sv, sb := y.sb } oz dz (by exact HB9.out) HXA.out HYA.out.1 (by omega) (csP_src HXA.out _ _ _ _) ?_; refine Hid.out ?_))
      refine Lib.hid ?_
      intro wq hbq hawq
      have HBQ := Lib.hid hbq
      have HK := Lib.hid (KW.out _ hawq)
      clear hbq hawq
      go_wp2_with fail
      go_meet
      obtain ⟨k1, k2, k3, k4, k5, k6⟩ := HK.out
      exact ⟨{ x with sv := y.sv, sb := y.sb }, oz, dz, right_src HXR.out HYR.out, k1, k2, k3, k4, HBQ.out, ⟨{ HXW.out with sv := HYW.out.sv, sl := HYW.out.sl, sb := HYW.out.sb }, k5.o, k5.d⟩⟩
    · go_wp2_with (first
        | (refine wpList_load28 rfl _ rfl _ rfl y _ _ (by exact HB8.out) HYA.out ?_)
        | (refine wpList_store28 rfl _ _ rfl g9 rfl y oy dy rfl x oz dz (by exact HB9.out) HYA.out HXA.out h3 h4 ?_; refine Hid.out ?_))
      refine Lib.hid ?_
      intro wq hbq hawq
      have HBQ := Lib.hid hbq
      have HK := Lib.hid (KW.out _ hawq)
      clear hbq hawq
      go_wp2_with fail
      go_meet
      obtain ⟨k1, k2, k3, k4, k5, k6⟩ := HK.out
      exact ⟨y, oy, dy, HYR.out, k1, k2, k3, k4, HBQ.out, k6⟩
  case rest =>
    clear HG HA HB7 HX HB8 HY HZ HB9 KW
    obtain ⟨z, ou, du, hzr, k1, k2, k3, k4, k5, k6⟩ := hcut
    have HG := Lib.hid k1
    have HA := Lib.hid k2
    have HB7 := Lib.hid k3
    have HX := Lib.hid k4
    have HB9 := Lib.hid k5
    have HZ := Lib.hid k6
    have HZR := Lib.hid hzr
    have HZW := Lib.hid k6.wf
    have HZA := Lib.hid k6.wf.ad
    clear k1 k2 k3 k4 k5 k6 hzr
    go_wp2_with (first | (refine wpList_load28 rfl _ rfl _ rfl x _ _ (by exact HB7.out) HXA.out ?_))
    refine (ownP_c x _ _ _ HX.out).mono ?_
    rintro E w10 ⟨o10, d10, rfl, hmi, haw⟩
    replace HG := Lib.hid (HG.out.on haw)
    replace HA := Lib.hid (HA.out.on haw)
    replace HB7 := Lib.hid (HB7.out.on haw)
    replace HX := Lib.hid (HX.out.on haw)
    replace HB9 := Lib.hid (HB9.out.on haw)
    replace HZ := Lib.hid (HZ.out.on haw)
    clear haw
    have HQ1 := Lib.hid (hmi.pkt HXW.out)
    clear hmi
    go_wp2_with fail
    refine (build_c x _ _ _ HQ1.out HG.out).mono ?_
    rintro E w11 ⟨v10, rfl, hown, hnew, haw⟩
    replace HG := Lib.hid (HG.out.on haw)
    replace HA := Lib.hid (HA.out.on haw)
    replace HB7 := Lib.hid (HB7.out.on haw)
    replace HX := Lib.hid (HX.out.on haw)
    replace HB9 := Lib.hid (HB9.out.on haw)
    replace HZ := Lib.hid (HZ.out.on haw)
    replace HQ1 := Lib.hid (HQ1.out.on haw)
    clear haw
    clear HQ1
    obtain ⟨cb, hcb⟩ : ∃ c, c = lay4 x := ⟨_, rfl⟩
    rw [build_ok HXR.out] at hown
    rw [build_ok HXR.out]
    replace hown : Owns w11 v10 cb := by rw [hcb]; exact hown
    have hbd := lay4_bd HXW.out HXR.out
    rw [← hcb] at hbd
    obtain ⟨a10, c10, hv10, hcap10, hn10, hrow, -⟩ := hown.row (by omega) hbd.1
    subst hv10
    have HRB := Lib.hid hrow
    have HBE := Lib.hid hcb
    clear hown hnew hrow hbd hcb
    go_wp2_with (first | (refine wpList_load28 rfl _ rfl _ rfl z _ _ (by exact HB9.out) HZA.out ?_))
    refine (ownP_c z _ _ _ HZ.out).mono ?_
    rintro E w20 ⟨o20, d20, rfl, hmi, haw⟩
    replace HG := Lib.hid (HG.out.on haw)
    replace HA := Lib.hid (HA.out.on haw)
    replace HB7 := Lib.hid (HB7.out.on haw)
    replace HX := Lib.hid (HX.out.on haw)
    replace HB9 := Lib.hid (HB9.out.on haw)
    replace HZ := Lib.hid (HZ.out.on haw)
    replace HRB := Lib.hid (HRB.out.on haw)
    clear haw
    have HQ1 := Lib.hid (hmi.pkt HZW.out)
    clear hmi
    go_wp2_with fail
    refine (build_c z _ _ _ HQ1.out HG.out).mono ?_
    rintro E w21 ⟨v20, rfl, hown, hnew, haw⟩
    replace HG := Lib.hid (HG.out.on haw)
    replace HA := Lib.hid (HA.out.on haw)
    replace HB7 := Lib.hid (HB7.out.on haw)
    replace HX := Lib.hid (HX.out.on haw)
    replace HB9 := Lib.hid (HB9.out.on haw)
    replace HZ := Lib.hid (HZ.out.on haw)
    replace HRB := Lib.hid (HRB.out.on haw)
    replace HQ1 := Lib.hid (HQ1.out.on haw)
    clear haw
    clear HQ1
    obtain ⟨cc, hcc⟩ : ∃ c, c = lay4 z := ⟨_, rfl⟩
    rw [build_ok HZR.out] at hown
    rw [build_ok HZR.out]
    replace hown : Owns w21 v20 cc := by rw [hcc]; exact hown
    have hbd := lay4_bd HZW.out HZR.out
    rw [← hcc] at hbd
    obtain ⟨a20, c20, hv20, hcap20, hn20, hrow, -⟩ := hown.row (by omega) hbd.1
    subst hv20
    have HRC := Lib.hid hrow
    have HCE := Lib.hid hcc
    clear hown hnew hrow hbd hcc
    have hinj := lay4_inj HXW.out HZW.out HXR.out HZR.out
    rw [← HBE.out, ← HCE.out] at hinj
    obtain ⟨bb, hbb⟩ : ∃ b, dP x z = b := ⟨_, rfl⟩
    rw [hbb] at hinj
    have KS : Hid (∀ w', Away [] w21 w' → Calls Tryd.prog 17 #[.slice a10 cb.length c10, .slice a20 cc.length c20] w' fun E w'' => E = .returned (.bool bb) ∧ Away [] w21 w'') := fun w' h => by
      have := same_any a10 a20 cb cc _ _ c10 c20 w' rfl rfl hn10 hn20 (HRB.out.on h) (HRC.out.on h)
      rw [hinj] at this
      exact this.mono (fun E w'' hh => ⟨hh.1, by rw [hh.2]; exact h⟩)
    have KP : Hid (∀ w', Away [] w21 w' → Calls Tryd.prog 15 #[.agg (csP x ox dx), .agg (csP z ou du)] w' fun E w'' => E = .returned (.bool bb) ∧ Away [] w21 w'') := fun w' h => by
      have := sameP_c x z ox dx ou du w' (HX.out.on h) (HZ.out.on h)
      rw [hbb] at this
      exact this.mono (fun E w'' hh => ⟨hh.1, h.on hh.2⟩)
    clear hinj hbb
    cases bb
    · go_upto_region 24 with fail
      refine wp_region_cls (C := fun w' => Away [] w21 w') (by kernel_rfl) (by kernel_rfl) (Away.refl [] w21).drew ?_
      repeat (first
          | go_big_quiet_skip
          | (go_big_quiet_want
             first
               | (go_big_quiet_op; go_big_quiet_on)
               | (refine quiet_load28 _ rfl g7 rfl x ox dx (fun w h => HB7.out.on h) HXA.out ?_; go_simp; go_big_quiet_on)
               | (refine quiet_load28 _ rfl g9 rfl z ou du (fun w h => HB9.out.on h) HZA.out ?_; go_simp; go_big_quiet_on)
               | (refine quiet_val ?_ ?_ ?_
                  rotate_left
                  · intro w; go_simp; rfl
                  go_simp; go_big_quiet_on)
               | (refine quiet_call 17 #[.slice a10 cb.length c10, .slice a20 cc.length c20] (.bool false) ?_ KS.out ?_
                  · intro w; go_simp; done
                  go_simp; go_big_quiet_on)
               | (refine quiet_call 15 #[.agg (csP x ox dx), .agg (csP z ou du)] (.bool false) ?_ KP.out ?_
                  · intro w; go_simp; done
                  go_simp; go_big_quiet_on)))
      refine wpQuiet_nil ?_
      intro V hV
      have HV := Lib.hid hV
      clear hV
      go_wp2_with fail
      go_ret
      exact ⟨rfl, (HA.out.on HV.out).to_below⟩
    · go_upto_region 24 with fail
      refine wp_region_cls (C := fun w' => Away [] w21 w') (by kernel_rfl) (by kernel_rfl) (Away.refl [] w21).drew ?_
      repeat (first
          | go_big_quiet_skip
          | (go_big_quiet_want
             first
               | (go_big_quiet_op; go_big_quiet_on)
               | (refine quiet_load28 _ rfl g7 rfl x ox dx (fun w h => HB7.out.on h) HXA.out ?_; go_simp; go_big_quiet_on)
               | (refine quiet_load28 _ rfl g9 rfl z ou du (fun w h => HB9.out.on h) HZA.out ?_; go_simp; go_big_quiet_on)
               | (refine quiet_val ?_ ?_ ?_
                  rotate_left
                  · intro w; go_simp; rfl
                  go_simp; go_big_quiet_on)
               | (refine quiet_call 17 #[.slice a10 cb.length c10, .slice a20 cc.length c20] (.bool true) ?_ KS.out ?_
                  · intro w; go_simp; done
                  go_simp; go_big_quiet_on)
               | (refine quiet_call 15 #[.agg (csP x ox dx), .agg (csP z ou du)] (.bool true) ?_ KP.out ?_
                  · intro w; go_simp; done
                  go_simp; go_big_quiet_on)))
      refine wpQuiet_nil ?_
      intro V hV
      have HV := Lib.hid hV
      clear hV
      go_wp2_with fail
      go_ret
      exact ⟨rfl, (HA.out.on HV.out).to_below⟩
namespace ip4Differ
theorem contract (H : Type) (enc : TypeId × Value → H) (W : World) (base : Nat) (args : Array Value) (ds gs : List (DataW H)) (before : List MemPlace)
    (hval0 : ∀ (j : Nat) t v, Tryd.f6.params[j]? = some t → args[j]? = some v → Value.okWide Tryd.prog W .any base t v)
    (hW : DataW.Whole enc Tryd.prog Tryd.f6.params.toList Rows.ip4DifferSpec.vars false W args.toList ds gs before)
    (hsz0 : (DataW.weightsEach Tryd.prog (Tryd.f6.params.toList ++ Rows.ip4DifferSpec.plain.varTypes Tryd.prog) (ds ++ gs)).all (· ≤ reachBytes) = true)
    (hL : laidMetH Tryd.prog Rows.ip4DifferRow.laid W) :
    Calls Tryd.prog 6 args W fun e W' => ∃ v, e = .returned v ∧ Rows.ip4DifferSpec.post enc Tryd.prog Tryd.f6 false true false false W args v W' := by
  have hval := hval0
  have hsz := hsz0
  have hW' := hW
  obtain ⟨p, q, hA0, hV, rfl, hfz, hnd⟩ := hW
  have hA : DataW.TrodAll enc Tryd.prog W 0 (fun _ => true) true Tryd.f6.params.toList args.toList ds p := hA0
  rw [Tryd.params6] at hA hval hsz
  obtain ⟨v0, vs0, d0, ds0, p0, q0, hargs, rfl, rfl, h0, r0⟩ := trodAll_cons hA
  obtain ⟨v1, vs1, d1, ds1, p1, q1, rfl, rfl, rfl, h1, r1⟩ := trodAll_cons r0
  obtain ⟨v2, vs2, d2, ds2, p2, q2, rfl, rfl, rfl, h2, r2⟩ := trodAll_cons r1
  obtain ⟨rfl, rfl, rfl⟩ := trodAll_nil r2
  obtain rfl : args = #[v0, v1, v2] := by cases args; simp_all
  obtain ⟨rfl, rfl⟩ := trodVars_none hV
  have k0 := h0
  have lt0 : ∀ x ∈ p0, x.block < W.heap.size := by obtain ⟨m, hm⟩ := k0; exact DataW.trod_lt m _ _ _ hm
  have z0 : ∀ m ∈ d0.weights Tryd.prog 28, m ≤ reachBytes := fun m hm => by
    have := List.all_eq_true.1 hsz m (DataW.weights_mem_each (j := 0) (t := 28) rfl rfl m hm)
    simpa using this
  obtain ⟨x0, ov0, dv0, rfl, w0, ol0, dl0⟩ := open_pkt (hval 0 28 v0 rfl rfl) h0 z0
  have k1 := h1
  have lt1 : ∀ x ∈ p1, x.block < W.heap.size := by obtain ⟨m, hm⟩ := k1; exact DataW.trod_lt m _ _ _ hm
  have z1 : ∀ m ∈ d1.weights Tryd.prog 28, m ≤ reachBytes := fun m hm => by
    have := List.all_eq_true.1 hsz m (DataW.weights_mem_each (j := 1) (t := 28) rfl rfl m hm)
    simpa using this
  obtain ⟨x1, ov1, dv1, rfl, w1, ol1, dl1⟩ := open_pkt (hval 1 28 v1 rfl rfl) h1 z1
  obtain ⟨a2, rfl, rfl, rfl, w2⟩ := open_int Tryd.underlying3 (hval 2 3 v2 rfl rfl) h2
  clear hA0 hval0
  refine (walk x0 ov0 dv0 x1 ov1 dv1 a2 W (glob_of hL) w0 ol0 dl0 w1 ol1 dl1 w2).mono fun e W' ⟨he, bel⟩ => ?_
  subst he
  exact ⟨_, rfl, _, _, _, [], _, [], hW', trodAll_mk1 (shut_bool Tryd.underlying4 _), (trodAll_cons_mk (Below.trod laidOut (by kernel_rfl) (of_decide_eq_true (by kernel_rfl)) k0 bel lt0) (trodAll_cons_mk (Below.trod laidOut (by kernel_rfl) (of_decide_eq_true (by kernel_rfl)) k1 bel lt1) (trodAll_cons_mk (shut_int Tryd.underlying3 w2) trodAll_mk0))), rfl, bel.frame _, fun h => by cases h⟩
theorem laid_met (os : Os) : laidMet Tryd.prog Rows.ip4DifferRow.laid ((laidWorld Tryd.prog os).forCall (fun _ _ => 0) ⟨#[], #[.agg (csP zeroPk (.slice none 0 0) (.slice none 0 0)), .agg (csP zeroPk (.slice none 0 0) (.slice none 0 0)), .int .i64 0], []⟩).memory :=
  laidMet_of_run' 8 (by kernel_rfl) (by kernel_rfl)
theorem reads (os : Os) {H : Type} (enc : TypeId × Value → H) : ∃ places, DataW.whole enc Tryd.prog ((laidWorld Tryd.prog os).forCall (fun _ _ => 0) ⟨#[], #[.agg (csP zeroPk (.slice none 0 0) (.slice none 0 0)), .agg (csP zeroPk (.slice none 0 0) (.slice none 0 0)), .int .i64 0], []⟩).memory Tryd.f6.params.toList Rows.ip4DifferSpec.vars false #[.agg (csP zeroPk (.slice none 0 0) (.slice none 0 0)), .agg (csP zeroPk (.slice none 0 0) (.slice none 0 0)), .int .i64 0].toList 8 = some ([.agg [.lit (.int .i64 0), .lit (.int .i64 0), .lit (.int .i64 0), .agg [.lit (.int .i64 0), .agg [.lit (.int .u8 0), .lit (.int .u8 0), .lit (.int .u8 0), .lit (.int .u8 0), .lit (.int .u8 0), .lit (.int .u8 0), .lit (.int .u8 0), .lit (.int .u8 0), .lit (.int .u8 0), .lit (.int .u8 0), .lit (.int .u8 0), .lit (.int .u8 0), .lit (.int .u8 0), .lit (.int .u8 0), .lit (.int .u8 0), .lit (.int .u8 0)]], .agg [.lit (.int .i64 0), .agg [.lit (.int .u8 0), .lit (.int .u8 0), .lit (.int .u8 0), .lit (.int .u8 0), .lit (.int .u8 0), .lit (.int .u8 0), .lit (.int .u8 0), .lit (.int .u8 0), .lit (.int .u8 0), .lit (.int .u8 0), .lit (.int .u8 0), .lit (.int .u8 0), .lit (.int .u8 0), .lit (.int .u8 0), .lit (.int .u8 0), .lit (.int .u8 0)]], .lit (.int .i64 0), .lit (.int .i64 0), .lit (.int .u32 0), .lit (.bool false), .lit (.bool false), .lit (.bool false), .lit (.int .i64 0), .nil, .nil], .agg [.lit (.int .i64 0), .lit (.int .i64 0), .lit (.int .i64 0), .agg [.lit (.int .i64 0), .agg [.lit (.int .u8 0), .lit (.int .u8 0), .lit (.int .u8 0), .lit (.int .u8 0), .lit (.int .u8 0), .lit (.int .u8 0), .lit (.int .u8 0), .lit (.int .u8 0), .lit (.int .u8 0), .lit (.int .u8 0), .lit (.int .u8 0), .lit (.int .u8 0), .lit (.int .u8 0), .lit (.int .u8 0), .lit (.int .u8 0), .lit (.int .u8 0)]], .agg [.lit (.int .i64 0), .agg [.lit (.int .u8 0), .lit (.int .u8 0), .lit (.int .u8 0), .lit (.int .u8 0), .lit (.int .u8 0), .lit (.int .u8 0), .lit (.int .u8 0), .lit (.int .u8 0), .lit (.int .u8 0), .lit (.int .u8 0), .lit (.int .u8 0), .lit (.int .u8 0), .lit (.int .u8 0), .lit (.int .u8 0), .lit (.int .u8 0), .lit (.int .u8 0)]], .lit (.int .i64 0), .lit (.int .i64 0), .lit (.int .u32 0), .lit (.bool false), .lit (.bool false), .lit (.bool false), .lit (.int .i64 0), .nil, .nil], .lit (.int .i64 0)], [], places) :=
  ⟨[], by kernel_rfl⟩
theorem lifted (os : Os) (started : os.Started) (H : Type) (enc : TypeId × Value → H) (F : Stop.Interp) :
    ReturnsInHanded {} Tryd.checked os 6 .any ((OpenSpec.ofChange Rows.ip4DifferSpec).preRow enc Tryd.prog Tryd.f6 Rows.ip4DifferRow.domain false Rows.ip4DifferRow.laid) (((OpenSpec.ofChange Rows.ip4DifferSpec).at F).post enc Tryd.prog Tryd.f6 false true false false) := by
  obtain ⟨places, hx⟩ := reads os enc
  refine returnsInHanded_of_row (C := Tryd.checked) (s := OpenSpec.ofChange Rows.ip4DifferSpec) ownKn started (by kernel_rfl) Tryd.func6
    (witness_row_at (enc := enc) (C := Tryd.checked) false (laidWorld Tryd.prog os) #[.agg (csP zeroPk (.slice none 0 0) (.slice none 0 0)), .agg (csP zeroPk (.slice none 0 0) (.slice none 0 0)), .int .i64 0] rfl (by kernel_rfl) (by kernel_rfl) (by kernel_rfl)
      (OpenSpec.preRow_of_cond 8 hx (by kernel_rfl) (fun k hk => by cases hk) (by kernel_rfl) (laid_met os))) ?_
  intro W base args ds gs before hval hW _ hcond hsz hL hS _
  exact contract H enc W base args ds gs before hval hW hsz hL
theorem said : Rows.Ip4DifferSaid :=
  OpenClaim.holds_of_cond 6 Tryd.f6 rfl rfl rfl rfl rfl rfl rfl ⟨rfl, rfl, rfl, rfl, rfl⟩ rfl rfl rfl rfl rfl (by kernel_rfl) Tryd.func6 (by kernel_rfl)
    (of_decide_eq_true (by kernel_rfl)) (by unfold Func.isWrapper; first | (rw [if_pos (by decide +kernel)]; kernel_rfl) | (rw [if_neg (by decide +kernel)]; exact ⟨rfl, rfl⟩))
    (fun os started H enc _ F => by rw [OpenClaim.pre_eq_preRow]; exact lifted os started H enc F)
theorem plain (f : FuncId) (fn : Func) (hf : Tryd.pinned.checked.prog.funcNamed "mosaic/mosaiclaw05.Ip4Differ" = some f) (hfn : Tryd.pinned.checked.prog.funcs[f]? = some fn) :
    false = Tryd.pinned.checked.prog.looks [] ∧ ∀ (j : Nat) t, fn.params[j]? = some t → Tryd.pinned.checked.prog.wantsStandIn t = false := by
  obtain rfl : f = 6 := Option.some.inj ((show Tryd.prog.funcNamed "mosaic/mosaiclaw05.Ip4Differ" = some 6 by kernel_rfl).symm.trans hf) |>.symm
  obtain rfl : fn = Tryd.f6 := (Option.some.inj (Tryd.func6.symm.trans hfn)).symm
  refine ⟨by kernel_rfl, fun j t ht => ?_⟩
  rw [Tryd.params6] at ht
  have hm := Array.mem_of_getElem? ht
  simp only [List.mem_toArray, List.mem_cons, List.not_mem_nil, or_false] at hm
  have h28 : Tryd.prog.wantsStandIn 28 = false := by kernel_rfl
  have h26 : Tryd.prog.wantsStandIn 26 = false := by kernel_rfl
  have h3 : Tryd.prog.wantsStandIn 3 = false := by kernel_rfl
  rcases hm with rfl | rfl | rfl
  all_goals first | exact h28 | exact h26 | exact h3
theorem card : Rows.Ip4DifferCardSaid :=
  Claim7.holds_tied_plain_at .later [] _ _ _ _ said (fun _ h => by cases h) (by kernel_rfl) (fun _ h => by cases h) ip4Differ_row_tie rfl ⟨rfl, rfl⟩ (by kernel_rfl) rfl plain (by kernel_rfl)
end ip4Differ
theorem ip4Differ_holds : Rows.Ip4DifferCardSaid := ip4Differ.card
#print axioms ip4Differ_holds
end Go.Proofs.YtkfbhofbajejiaaDoor
