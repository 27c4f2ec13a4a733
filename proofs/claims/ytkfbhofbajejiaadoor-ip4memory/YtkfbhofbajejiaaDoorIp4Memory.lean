/-
  Ip4Memory: bytes and lists are new memory.
-/
import Derived.Test.YtkfbhofbajejiaaDoorMark
import Derived.Test.YtkfbhofbajejiaaDoorStl
import Derived.Deep.CutBlock
import Derived.Deep.DeepCutAuto
namespace Go.Proofs.YtkfbhofbajejiaaDoor
open Go.ChangeShapes Go.WideShapes Go.ChangeAt Go.RowKit Go.Deep Num
set_option linter.unusedVariables false
set_option maxHeartbeats 4000000
set_option maxRecDepth 100000

/-- Where a slice lies. -/
def Rng (lo hi : Nat) (v : Value) : Prop := ∀ k, v.ownBlock = some k → lo ≤ k ∧ k < hi
theorem rng_of {lo : Nat} {w : World} {v : Value} {l : List Int} (hn : New lo v) (ho : Owns w v l) : Rng lo w.heap.size v := fun k hk => ⟨hn k hk, ho.lt k hk⟩
theorem AllAt.on {w w' : World} {v : Value} {z : Int} (h : AllAt w v z) (hw : Away [] w w') : AllAt w' v z := h.away hw (by simp)
theorem Still.on {w w' : World} {v : Value} {l : List Tk} (h : Still w v l) (hw : Away [] w w') : Still w' v l := by
  refine ⟨?_, h.2.1, fun t ht => ⟨(h.2.2 t ht).1.on hw, (h.2.2 t ht).2.on hw⟩⟩
  obtain ⟨h1, h2⟩ := h.1
  refine ⟨h1, ?_⟩
  rcases h2 with h2 | ⟨g, cap, cur, rfl, hg, hh, r⟩
  · exact .inl h2
  · exact .inr ⟨g, cap, cur, rfl, hg, hw.keep (by simp) hh, r⟩
/-- Nine slices that lie apart. -/
theorem apart9 {p0 p1 p2 p3 p4 p5 p6 p7 p8 : Value × List Int} (h : ∀ (i j : Nat) (p q : Value × List Int), i < j → [p0, p1, p2, p3, p4, p5, p6, p7, p8][i]? = some p → [p0, p1, p2, p3, p4, p5, p6, p7, p8][j]? = some q → ∀ k, p.1.ownBlock = some k → q.1.ownBlock ≠ some k) : Apart [p0, p1, p2, p3, p4, p5, p6, p7, p8] := by
  refine ⟨fun i j p q hij hp hq k hk hk' => ?_⟩
  rcases Nat.lt_or_ge i j with h1 | h1
  · exact h i j p q h1 hp hq k hk hk'
  · exact h j i q p (by omega) hq hp k hk' hk

theorem walk (p : Pk) (ov dv : Value) (r : Pk) (ov2 dv2 : Value) (W : World) (hg : Glob W) (hp : Pkt W p ov dv) (_ : p.o.length ≤ 140737488351232) (_ : p.d.length ≤ 140737488351232) (hp2 : Pkt W r ov2 dv2) (_ : r.o.length ≤ 140737488351232) (_ : r.d.length ≤ 140737488351232) :
    Calls Tryd.prog 8 #[.agg (csP p ov dv), .agg (csP r ov2 dv2)] W fun e W' => e = .returned (.bool true) ∧ Below W.heap.size W W' := by
  have HG0 := Lib.hid hg
  have HP := Lib.hid hp
  have HP2 := Lib.hid hp2
  have HA := Lib.hid (Away.refl [] W)
  have HAP := Lib.hid hp.wf.ad
  have HAP2 := Lib.hid hp2.wf.ad
  have HG := HG0
  obtain ⟨x, hx⟩ : ∃ q, q = mendP p := ⟨_, rfl⟩
  have HXW : Hid (Wf x) := by rw [hx]; exact mend_wf hp.wf
  have HXR : Hid (rightP x = true) := by rw [hx]; exact mend_right hp.wf
  have HXA := Lib.hid HXW.out.ad
  obtain ⟨lx, hlx⟩ : ∃ b, b = lay4 x := ⟨_, rfl⟩
  have Hlx := Lib.hid hlx
  have HlxD : Hid (Bytes lx ∧ lx.length ≤ 65535) := by rw [hlx]; exact ⟨(lay4_bd HXW.out HXR.out).1, (lay4_bd HXW.out HXR.out).2.1⟩
  have HlxP : Hid (parse4 lx = (x, 0)) := by rw [hlx]; exact parse_lay4 HXW.out HXR.out
  have hlxl := HlxD.out.2
  have HXB : Hid ((x.o.length ≤ 65535 ∧ x.d.length ≤ 65535)) := by have h1 := ((right_iff x).1 HXR.out).1.all; exact ⟨by omega, by omega⟩
  clear hlx
  obtain ⟨y, hy⟩ : ∃ q, q = mendP r := ⟨_, rfl⟩
  have HYW : Hid (Wf y) := by rw [hy]; exact mend_wf hp2.wf
  have HYR : Hid (rightP y = true) := by rw [hy]; exact mend_right hp2.wf
  have HYA := Lib.hid HYW.out.ad
  obtain ⟨ly, hly⟩ : ∃ b, b = lay4 y := ⟨_, rfl⟩
  have Hly := Lib.hid hly
  have HlyD : Hid (Bytes ly ∧ ly.length ≤ 65535) := by rw [hly]; exact ⟨(lay4_bd HYW.out HYR.out).1, (lay4_bd HYW.out HYR.out).2.1⟩
  have HlyP : Hid (parse4 ly = (y, 0)) := by rw [hly]; exact parse_lay4 HYW.out HYR.out
  have hlyl := HlyD.out.2
  have HYB : Hid ((y.o.length ≤ 65535 ∧ y.d.length ≤ 65535)) := by have h1 := ((right_iff y).1 HYR.out).1.all; exact ⟨by omega, by omega⟩
  clear hly
  have hpos := Lib.hid hg.pos
  clear hg hp hp2
  go_enter Tryd.func8, Tryd.ntmps8
  go_wp2_with (refine wpList_box28 rfl _ rfl p _ _ rfl ?_; refine Hid.out ?_)
  refine Lib.hid ?_
  intro g2 w1 hg_g2 hb haw
  replace HG := Lib.hid (HG.out.on haw)
  replace HP := Lib.hid (HP.out.on haw)
  replace HP2 := Lib.hid (HP2.out.on haw)
  replace HA := Lib.hid (HA.out.on haw)
  clear haw
  have HB2 := Lib.hid hb
  clear hb
  go_wp2_with (refine wpList_box28 rfl _ rfl r _ _ rfl ?_; refine Hid.out ?_)
  refine Lib.hid ?_
  intro g3 w1b hg_g3 hb haw
  replace HG := Lib.hid (HG.out.on haw)
  replace HP := Lib.hid (HP.out.on haw)
  replace HP2 := Lib.hid (HP2.out.on haw)
  replace HA := Lib.hid (HA.out.on haw)
  replace HB2 := Lib.hid (HB2.out.on haw)
  clear haw
  have HB3 := Lib.hid hb
  clear hb
  go_wp2_with fail
  refine (alive_c _ HG.out).mono ?_
  rintro E w2 ⟨rfl, haw⟩
  replace HG := Lib.hid (HG.out.on haw)
  replace HP := Lib.hid (HP.out.on haw)
  replace HP2 := Lib.hid (HP2.out.on haw)
  replace HA := Lib.hid (HA.out.on haw)
  replace HB2 := Lib.hid (HB2.out.on haw)
  replace HB3 := Lib.hid (HB3.out.on haw)
  clear haw
  go_wp2_with (first | (refine wpList_load28 rfl _ rfl _ rfl p _ _ (by exact HB2.out) HAP.out ?_))
  refine (mended_c p _ _ _ HP.out).mono ?_
  rw [← hx]
  rintro E w3 ⟨ox, dx, rfl, hmi, haw⟩
  replace HG := Lib.hid (HG.out.on haw)
  replace HP := Lib.hid (HP.out.on haw)
  replace HP2 := Lib.hid (HP2.out.on haw)
  replace HA := Lib.hid (HA.out.on haw)
  replace HB2 := Lib.hid (HB2.out.on haw)
  replace HB3 := Lib.hid (HB3.out.on haw)
  clear haw
  have HX := Lib.hid (hmi.pkt HXW.out)
  have h1 := HX.out.ov
  have h2 := HX.out.dv
  clear hmi hx
  clear HB2 HP
  go_wp2_with (first | (refine wpList_new28 rfl rfl rfl _ _ rfl x ox dx (fun _ => rfl) (fun _ => rfl) HXA.out h1 h2 ?_; refine Hid.out ?_))
  refine Lib.hid ?_
  intro g5 w4 hg_g5 hb haw
  replace HG := Lib.hid (HG.out.on haw)
  replace HP2 := Lib.hid (HP2.out.on haw)
  replace HA := Lib.hid (HA.out.on haw)
  replace HB3 := Lib.hid (HB3.out.on haw)
  replace HX := Lib.hid (HX.out.on haw)
  clear haw
  have HB5 := Lib.hid hb
  clear hb
  go_wp2_with (first | (refine wpList_load28 rfl _ rfl _ rfl r _ _ (by exact HB3.out) HAP2.out ?_))
  refine (mended_c r _ _ _ HP2.out).mono ?_
  rw [← hy]
  rintro E w5 ⟨oy, dy, rfl, hmi, haw⟩
  replace HG := Lib.hid (HG.out.on haw)
  replace HP2 := Lib.hid (HP2.out.on haw)
  replace HA := Lib.hid (HA.out.on haw)
  replace HB3 := Lib.hid (HB3.out.on haw)
  replace HX := Lib.hid (HX.out.on haw)
  replace HB5 := Lib.hid (HB5.out.on haw)
  clear haw
  have HY := Lib.hid (hmi.pkt HYW.out)
  have h3 := HY.out.ov
  have h4 := HY.out.dv
  clear hmi hy
  clear HB3 HP2
  go_wp2_with (first | (refine wpList_new28 rfl rfl rfl _ _ rfl y oy dy (fun _ => rfl) (fun _ => rfl) HYA.out h3 h4 ?_; refine Hid.out ?_))
  refine Lib.hid ?_
  intro g6 w6 hg_g6 hb haw
  replace HG := Lib.hid (HG.out.on haw)
  replace HA := Lib.hid (HA.out.on haw)
  replace HX := Lib.hid (HX.out.on haw)
  replace HB5 := Lib.hid (HB5.out.on haw)
  replace HY := Lib.hid (HY.out.on haw)
  clear haw
  have HB6 := Lib.hid hb
  clear hb
  have HN := Lib.hid (Away.refl [] w6)
  have hsN := HA.out.size
  have hp0 := hpos.out
  go_wp2_with (first | (refine wpList_load28 rfl _ rfl _ rfl x _ _ (by exact (HB5.out.on HN.out)) HXA.out ?_))
  refine (ownP_c x _ _ _ (HX.out.on HN.out)).mono ?_
  rintro E w7 ⟨oi, di, rfl, hmi, haw⟩
  have hs_w7 : w6.heap.size ≤ w7.heap.size := haw.size
  replace HA := Lib.hid (HA.out.on haw)
  replace HN := Lib.hid (HN.out.on haw)
  clear haw
  have HI := Lib.hid hmi
  have h5 := (hmi.pkt HXW.out).ov
  have h6 := (hmi.pkt HXW.out).dv
  have HIo := Lib.hid (rng_of hmi.no hmi.o)
  have HId := Lib.hid (rng_of hmi.nd hmi.d)
  clear hmi
  go_wp2_with (first | (refine wpList_new28 rfl rfl rfl _ _ rfl x oi di (fun _ => rfl) (fun _ => rfl) HXA.out h5 h6 ?_; refine Hid.out ?_))
  refine Lib.hid ?_
  intro g7 w8 hg_g7 hb haw
  have hs_w8 : w7.heap.size ≤ w8.heap.size := haw.size
  replace HA := Lib.hid (HA.out.on haw)
  replace HN := Lib.hid (HN.out.on haw)
  replace HI := Lib.hid (HI.out.on haw)
  clear haw
  have HB7 := Lib.hid hb
  clear hb
  go_wp2_with (first | (refine wpList_load28 rfl _ rfl _ rfl x _ _ (by exact HB7.out) HXA.out ?_))
  refine (build_c x _ _ _ (HI.out.pkt HXW.out) (HG.out.on HN.out)).mono ?_
  rintro E w9 ⟨va, rfl, hown, hnew, haw⟩
  have hs_w9 : w8.heap.size ≤ w9.heap.size := haw.size
  replace HA := Lib.hid (HA.out.on haw)
  replace HN := Lib.hid (HN.out.on haw)
  replace HI := Lib.hid (HI.out.on haw)
  replace HB7 := Lib.hid (HB7.out.on haw)
  clear haw
  rw [build_ok HXR.out] at hown
  rw [build_ok HXR.out]
  replace hown : Owns w9 va lx := by rw [Hlx.out]; exact hown
  have Ova := Lib.hid hown
  have Rva := Lib.hid (rng_of hnew hown)
  clear hown hnew
  go_wp2_with (first | (refine wpList_load28 rfl _ rfl _ rfl x _ _ (by exact HB7.out) HXA.out ?_))
  refine (build_c x _ _ _ (HI.out.pkt HXW.out) (HG.out.on HN.out)).mono ?_
  rintro E w10 ⟨vb, rfl, hown, hnew, haw⟩
  have hs_w10 : w9.heap.size ≤ w10.heap.size := haw.size
  replace HA := Lib.hid (HA.out.on haw)
  replace HN := Lib.hid (HN.out.on haw)
  replace HI := Lib.hid (HI.out.on haw)
  replace HB7 := Lib.hid (HB7.out.on haw)
  replace Ova := Lib.hid (Ova.out.on haw)
  clear haw
  rw [build_ok HXR.out] at hown
  rw [build_ok HXR.out]
  replace hown : Owns w10 vb lx := by rw [Hlx.out]; exact hown
  have Ovb := Lib.hid hown
  have Rvb := Lib.hid (rng_of hnew hown)
  clear hown hnew
  go_wp2_with (first | (refine wpList_load28 rfl _ rfl _ rfl y _ _ (by exact (HB6.out.on HN.out)) HYA.out ?_))
  refine (ownP_c y _ _ _ (HY.out.on HN.out)).mono ?_
  rintro E w11 ⟨oz, dz, rfl, hmi, haw⟩
  have hs_w11 : w10.heap.size ≤ w11.heap.size := haw.size
  replace HA := Lib.hid (HA.out.on haw)
  replace HN := Lib.hid (HN.out.on haw)
  replace HI := Lib.hid (HI.out.on haw)
  replace HB7 := Lib.hid (HB7.out.on haw)
  replace Ova := Lib.hid (Ova.out.on haw)
  replace Ovb := Lib.hid (Ovb.out.on haw)
  clear haw
  have HZ := Lib.hid (hmi.pkt HYW.out)
  clear hmi
  go_wp2_with fail
  refine (build_c y _ _ _ HZ.out (HG.out.on HN.out)).mono ?_
  rintro E w12 ⟨vc, rfl, hown, hnew, haw⟩
  have hs_w12 : w11.heap.size ≤ w12.heap.size := haw.size
  replace HA := Lib.hid (HA.out.on haw)
  replace HN := Lib.hid (HN.out.on haw)
  replace HI := Lib.hid (HI.out.on haw)
  replace HB7 := Lib.hid (HB7.out.on haw)
  replace Ova := Lib.hid (Ova.out.on haw)
  replace Ovb := Lib.hid (Ovb.out.on haw)
  replace HZ := Lib.hid (HZ.out.on haw)
  clear haw
  clear HZ
  rw [build_ok HYR.out] at hown
  rw [build_ok HYR.out]
  replace hown : Owns w12 vc ly := by rw [Hly.out]; exact hown
  have Ovc := Lib.hid hown
  have Rvc := Lib.hid (rng_of hnew hown)
  clear hown hnew
  go_wp2_with (first | (refine wpList_load28 rfl _ rfl _ rfl x _ _ (by exact HB7.out) HXA.out ?_))
  refine (wipe_c x _ _ _ _ HI.out HXW.out).mono ?_
  rintro E w13 ⟨rfl, haw⟩
  have hS : ∀ k ∈ oi.ownBlock.toList ++ di.ownBlock.toList, w6.heap.size ≤ k ∧ k < w7.heap.size := fun k hk => by
    rcases List.mem_append.1 hk with h | h
    · exact HIo.out k (by simpa using h)
    · exact HId.out k (by simpa using h)
  have hs_w13 : w12.heap.size ≤ w13.heap.size := haw.size
  replace HN := Lib.hid (HN.out.next haw (fun k hk => .inr (hS k hk).1))
  replace HA := Lib.hid (HA.out.next haw (fun k hk => .inr (by have := hS k hk; omega)))
  replace Ova := Lib.hid (Ova.out.away haw (fun k hk hx => by have h1 := Rva.out k hk; have h2 := hS k hx; omega))
  replace Ovb := Lib.hid (Ovb.out.away haw (fun k hk hx => by have h1 := Rvb.out k hk; have h2 := hS k hx; omega))
  replace Ovc := Lib.hid (Ovc.out.away haw (fun k hk hx => by have h1 := Rvc.out k hk; have h2 := hS k hx; omega))
  clear haw hS HI HB7 HIo HId
  obtain ⟨aA, cA, hvA, hcapA, hnA, -, -⟩ := Ova.out.row (by omega) HlxD.out.1
  subst hvA
  obtain ⟨aB, cB, hvB, hcapB, hnB, -, -⟩ := Ovb.out.row (by omega) HlxD.out.1
  subst hvB
  obtain ⟨aC, cC, hvC, hcapC, hnC, -, -⟩ := Ovc.out.row (by omega) HlyD.out.1
  subst hvC
  go_wp2_with fail
  refine (own_any aA lx _ cA _ rfl (Ova.out.row' (by omega) HlxD.out.1)).mono ?_
  rintro E w14 ⟨vf, rfl, hown, hnew, haw, -, -⟩
  have hs_w14 : w13.heap.size ≤ w14.heap.size := haw.size
  replace HA := Lib.hid (HA.out.on haw)
  replace HN := Lib.hid (HN.out.on haw)
  replace Ova := Lib.hid (Ova.out.on haw)
  replace Ovb := Lib.hid (Ovb.out.on haw)
  replace Ovc := Lib.hid (Ovc.out.on haw)
  clear haw
  have Ovf := Lib.hid hown
  have Rvf := Lib.hid (rng_of hnew hown)
  clear hown hnew
  obtain ⟨gf, cF, hvF, hcapF⟩ := Ovf.out.some' (by intro h; have h1 := lay4_len HXW.out; rw [← Hlx.out, h] at h1; simp at h1; omega)
  subst hvF
  go_wp2_with fail
  refine (parse_c (some ⟨gf, 0, none⟩) lx _ cF _ rfl hcapF (by simp) (Ovf.out.row' (by omega) HlxD.out.1) (HG.out.on HN.out)).mono ?_
  rintro E w15 ⟨or1, dr1, rfl, ho, hd, hno, hnd, hap, haw⟩
  have hs_w15 : w14.heap.size ≤ w15.heap.size := haw.size
  replace HA := Lib.hid (HA.out.on haw)
  replace HN := Lib.hid (HN.out.on haw)
  replace Ova := Lib.hid (Ova.out.on haw)
  replace Ovb := Lib.hid (Ovb.out.on haw)
  replace Ovc := Lib.hid (Ovc.out.on haw)
  replace Ovf := Lib.hid (Ovf.out.on haw)
  clear haw
  rw [HlxP.out] at ho hd ⊢
  obtain ⟨oar1, onr1, ocr1, rfl⟩ := ho.shp
  obtain ⟨dar1, dnr1, dcr1, rfl⟩ := hd.shp
  have Oor1 : Hid (Owns _ (.slice oar1 onr1 ocr1) x.o) := ho
  have Odr1 : Hid (Owns _ (.slice dar1 dnr1 dcr1) x.d) := hd
  have Ror1 := Lib.hid (rng_of hno ho)
  have Rdr1 := Lib.hid (rng_of hnd hd)
  have Pr1 := Lib.hid hap
  have ur1 := (pkt_of HXW.out ho hd).ov
  have vr1 := (pkt_of HXW.out ho hd).dv
  clear ho hd hno hnd hap
  go_wp2_with (first | (refine wpList_new28 rfl rfl rfl _ _ rfl x (.slice oar1 onr1 ocr1) (.slice dar1 dnr1 dcr1) (fun _ => rfl) (fun _ => rfl) HXA.out ur1 vr1 ?_; refine Hid.out ?_))
  refine Lib.hid ?_
  intro g15 w16 hg_g15 hb haw
  have hs_w16 : w15.heap.size ≤ w16.heap.size := haw.size
  replace HA := Lib.hid (HA.out.on haw)
  replace HN := Lib.hid (HN.out.on haw)
  replace Ova := Lib.hid (Ova.out.on haw)
  replace Ovb := Lib.hid (Ovb.out.on haw)
  replace Ovc := Lib.hid (Ovc.out.on haw)
  replace Ovf := Lib.hid (Ovf.out.on haw)
  replace Oor1 := Lib.hid (Oor1.out.on haw)
  replace Odr1 := Lib.hid (Odr1.out.on haw)
  clear haw
  have Br1 := Lib.hid hb
  clear hb
  go_wp2_with fail
  refine (parse_c (some ⟨gf, 0, none⟩) lx _ cF _ rfl hcapF (by simp) (Ovf.out.row' (by omega) HlxD.out.1) (HG.out.on HN.out)).mono ?_
  rintro E w17 ⟨os1, ds1, rfl, ho, hd, hno, hnd, hap, haw⟩
  have hs_w17 : w16.heap.size ≤ w17.heap.size := haw.size
  replace HA := Lib.hid (HA.out.on haw)
  replace HN := Lib.hid (HN.out.on haw)
  replace Ova := Lib.hid (Ova.out.on haw)
  replace Ovb := Lib.hid (Ovb.out.on haw)
  replace Ovc := Lib.hid (Ovc.out.on haw)
  replace Ovf := Lib.hid (Ovf.out.on haw)
  replace Oor1 := Lib.hid (Oor1.out.on haw)
  replace Odr1 := Lib.hid (Odr1.out.on haw)
  replace Br1 := Lib.hid (Br1.out.on haw)
  clear haw
  rw [HlxP.out] at ho hd ⊢
  obtain ⟨oas1, ons1, ocs1, rfl⟩ := ho.shp
  obtain ⟨das1, dns1, dcs1, rfl⟩ := hd.shp
  have Oos1 : Hid (Owns _ (.slice oas1 ons1 ocs1) x.o) := ho
  have Ods1 : Hid (Owns _ (.slice das1 dns1 dcs1) x.d) := hd
  have Ros1 := Lib.hid (rng_of hno ho)
  have Rds1 := Lib.hid (rng_of hnd hd)
  have Ps1 := Lib.hid hap
  have us1 := (pkt_of HXW.out ho hd).ov
  have vs1 := (pkt_of HXW.out ho hd).dv
  clear ho hd hno hnd hap
  go_wp2_with (first | (refine wpList_new28 rfl rfl rfl _ _ rfl x (.slice oas1 ons1 ocs1) (.slice das1 dns1 dcs1) (fun _ => rfl) (fun _ => rfl) HXA.out us1 vs1 ?_; refine Hid.out ?_))
  refine Lib.hid ?_
  intro g16 w18 hg_g16 hb haw
  have hs_w18 : w17.heap.size ≤ w18.heap.size := haw.size
  replace HA := Lib.hid (HA.out.on haw)
  replace HN := Lib.hid (HN.out.on haw)
  replace Ova := Lib.hid (Ova.out.on haw)
  replace Ovb := Lib.hid (Ovb.out.on haw)
  replace Ovc := Lib.hid (Ovc.out.on haw)
  replace Ovf := Lib.hid (Ovf.out.on haw)
  replace Oor1 := Lib.hid (Oor1.out.on haw)
  replace Odr1 := Lib.hid (Odr1.out.on haw)
  replace Br1 := Lib.hid (Br1.out.on haw)
  replace Oos1 := Lib.hid (Oos1.out.on haw)
  replace Ods1 := Lib.hid (Ods1.out.on haw)
  clear haw
  have Bs1 := Lib.hid hb
  clear hb
  go_wp2_with fail
  refine (own_any aC ly _ cC _ rfl (Ovc.out.row' (by omega) HlyD.out.1)).mono ?_
  rintro E w19 ⟨vt, rfl, hown, hnew, haw, -, -⟩
  have hs_w19 : w18.heap.size ≤ w19.heap.size := haw.size
  replace HA := Lib.hid (HA.out.on haw)
  replace HN := Lib.hid (HN.out.on haw)
  replace Ova := Lib.hid (Ova.out.on haw)
  replace Ovb := Lib.hid (Ovb.out.on haw)
  replace Ovc := Lib.hid (Ovc.out.on haw)
  replace Ovf := Lib.hid (Ovf.out.on haw)
  replace Oor1 := Lib.hid (Oor1.out.on haw)
  replace Odr1 := Lib.hid (Odr1.out.on haw)
  replace Br1 := Lib.hid (Br1.out.on haw)
  replace Oos1 := Lib.hid (Oos1.out.on haw)
  replace Ods1 := Lib.hid (Ods1.out.on haw)
  replace Bs1 := Lib.hid (Bs1.out.on haw)
  clear haw
  obtain ⟨aT, cT, hvT, hcapT, hnT, hrow, -⟩ := hown.row (by omega) HlyD.out.1
  subst hvT
  have HRT := Lib.hid hrow
  clear hown hnew hrow
  go_wp2_with fail
  refine (parse_c aT ly _ cT _ rfl hcapT hnT HRT.out (HG.out.on HN.out)).mono ?_
  rintro E w20 ⟨ot1, dt1, rfl, ho, hd, hno, hnd, hap, haw⟩
  have hs_w20 : w19.heap.size ≤ w20.heap.size := haw.size
  replace HA := Lib.hid (HA.out.on haw)
  replace HN := Lib.hid (HN.out.on haw)
  replace Ova := Lib.hid (Ova.out.on haw)
  replace Ovb := Lib.hid (Ovb.out.on haw)
  replace Ovc := Lib.hid (Ovc.out.on haw)
  replace Ovf := Lib.hid (Ovf.out.on haw)
  replace Oor1 := Lib.hid (Oor1.out.on haw)
  replace Odr1 := Lib.hid (Odr1.out.on haw)
  replace Br1 := Lib.hid (Br1.out.on haw)
  replace Oos1 := Lib.hid (Oos1.out.on haw)
  replace Ods1 := Lib.hid (Ods1.out.on haw)
  replace Bs1 := Lib.hid (Bs1.out.on haw)
  replace HRT := Lib.hid (HRT.out.on haw)
  clear haw
  clear HRT
  rw [HlyP.out] at ho hd ⊢
  obtain ⟨oat1, ont1, oct1, rfl⟩ := ho.shp
  obtain ⟨dat1, dnt1, dct1, rfl⟩ := hd.shp
  have Oot1 : Hid (Owns _ (.slice oat1 ont1 oct1) y.o) := ho
  have Odt1 : Hid (Owns _ (.slice dat1 dnt1 dct1) y.d) := hd
  have Rot1 := Lib.hid (rng_of hno ho)
  have Rdt1 := Lib.hid (rng_of hnd hd)
  have Pt1 := Lib.hid hap
  have ut1 := (pkt_of HYW.out ho hd).ov
  have vt1 := (pkt_of HYW.out ho hd).dv
  clear ho hd hno hnd hap
  go_wp2_with (first | (refine wpList_new28 rfl rfl rfl _ _ rfl y (.slice oat1 ont1 oct1) (.slice dat1 dnt1 dct1) (fun _ => rfl) (fun _ => rfl) HYA.out ut1 vt1 ?_; refine Hid.out ?_))
  refine Lib.hid ?_
  intro g17 w21 hg_g17 hb haw
  have hs_w21 : w20.heap.size ≤ w21.heap.size := haw.size
  replace HA := Lib.hid (HA.out.on haw)
  replace HN := Lib.hid (HN.out.on haw)
  replace Ova := Lib.hid (Ova.out.on haw)
  replace Ovb := Lib.hid (Ovb.out.on haw)
  replace Ovc := Lib.hid (Ovc.out.on haw)
  replace Ovf := Lib.hid (Ovf.out.on haw)
  replace Oor1 := Lib.hid (Oor1.out.on haw)
  replace Odr1 := Lib.hid (Odr1.out.on haw)
  replace Br1 := Lib.hid (Br1.out.on haw)
  replace Oos1 := Lib.hid (Oos1.out.on haw)
  replace Ods1 := Lib.hid (Ods1.out.on haw)
  replace Bs1 := Lib.hid (Bs1.out.on haw)
  replace Oot1 := Lib.hid (Oot1.out.on haw)
  replace Odt1 := Lib.hid (Odt1.out.on haw)
  clear haw
  have Bt1 := Lib.hid hb
  clear hb
  go_upto_block 0 with fail
  go_cut [] (fun wc => Away [gf] w21 wc)
  case first =>
    go_wp2_with fail
    go_loopw [18] (fun i wr => ∃ k : Nat, k ≤ lx.length ∧ i = .int .i64 k ∧ Away [gf] w21 wr ∧ ∃ m, m.length = lx.length ∧ Owns wr (.slice (some ⟨gf, 0, none⟩) lx.length cF) m) (fun i _ => lx.length - (intOf i).toNat)
    case atStart => exact ⟨0, by omega, rfl, Away.refl _ _, lx, rfl, Ovf.out⟩
    case round =>
      obtain ⟨k, hk, rfl, haw, m, hml, hom⟩ := hrel
      by_cases hlt : k < lx.length
      · have hlt' : (k : Int) < (lx.length : Int) := by omega
        obtain ⟨d0, d1⟩ := hom.cells k (by omega)
        have HST := Lib.hid (And.intro (haw.setCell (p := ⟨gf, k, none⟩) (.inl (by simp)) (.int .u8 238)) (hom.set hml k 238))
        clear haw hom
        go_wp2_with fail
        go_roundw
        case rel => exact ⟨k + 1, by omega, by go_num, HST.out.1, m.set k 238, by simpa using hml, HST.out.2⟩
        case measure => simp [intOf]; omega
      · have hlt' : ¬ (k : Int) < (lx.length : Int) := by omega
        have HST := Lib.hid haw
        clear haw hom
        go_wp2_with fail
        go_meet
        exact HST.out
  case rest =>
  have haw := hcut
  clear hcut
  obtain ⟨w22, hw22⟩ : ∃ w, w = wc := ⟨_, rfl⟩
  rw [← hw22]
  rw [← hw22] at haw
  clear hw22
  have hs_w22 : w21.heap.size ≤ w22.heap.size := haw.size
  have hRf := Rvf.out gf rfl
  replace HN := Lib.hid (HN.out.next haw (fun k hk => .inr (by simp at hk; omega)))
  replace HA := Lib.hid (HA.out.next haw (fun k hk => .inr (by simp at hk; omega)))
  replace Ova := Lib.hid (Ova.out.away haw (fun k hk hx => by have h1 := Rva.out k hk; simp at hx; omega))
  replace Ovb := Lib.hid (Ovb.out.away haw (fun k hk hx => by have h1 := Rvb.out k hk; simp at hx; omega))
  replace Ovc := Lib.hid (Ovc.out.away haw (fun k hk hx => by have h1 := Rvc.out k hk; simp at hx; omega))
  replace Oor1 := Lib.hid (Oor1.out.away haw (fun k hk hx => by have h1 := Ror1.out k hk; simp at hx; omega))
  replace Odr1 := Lib.hid (Odr1.out.away haw (fun k hk hx => by have h1 := Rdr1.out k hk; simp at hx; omega))
  replace Oos1 := Lib.hid (Oos1.out.away haw (fun k hk hx => by have h1 := Ros1.out k hk; simp at hx; omega))
  replace Ods1 := Lib.hid (Ods1.out.away haw (fun k hk hx => by have h1 := Rds1.out k hk; simp at hx; omega))
  replace Oot1 := Lib.hid (Oot1.out.away haw (fun k hk hx => by have h1 := Rot1.out k hk; simp at hx; omega))
  replace Odt1 := Lib.hid (Odt1.out.away haw (fun k hk hx => by have h1 := Rdt1.out k hk; simp at hx; omega))
  replace Br1 := Lib.hid (Br1.out.away haw (by simp; omega))
  replace Bs1 := Lib.hid (Bs1.out.away haw (by simp; omega))
  replace Bt1 := Lib.hid (Bt1.out.away haw (by simp; omega))
  clear haw Ovf
  go_wp2_with fail
  refine (same_yes aA aB lx lx _ _ cA cB _ rfl rfl hnA hnB (Ova.out.row' (by omega) HlxD.out.1) (Ovb.out.row' (by omega) HlxD.out.1) rfl).mono ?_
  rintro E w22 ⟨rfl, rfl⟩
  go_wp2_with (first | (refine wpList_load28 rfl _ rfl _ rfl x _ _ (by exact Br1.out) HXA.out ?_; refine Hid.out ?_))
  refine Lib.hid ?_
  go_wp2_with (first | (refine wpList_load28 rfl _ rfl _ rfl x ox dx (by exact (HB5.out.on HN.out)) HXA.out ?_; refine Hid.out ?_))
  refine Lib.hid ?_
  go_wp2_with fail
  refine (sameP_yes x x _ _ ox dx _ (pkt_of HXW.out Oor1.out Odr1.out) (HX.out.on HN.out) rfl).mono ?_
  rintro E w23 ⟨rfl, haw⟩
  have hs_w23 : w22.heap.size ≤ w23.heap.size := haw.size
  replace HA := Lib.hid (HA.out.on haw)
  replace HN := Lib.hid (HN.out.on haw)
  replace Ova := Lib.hid (Ova.out.on haw)
  replace Ovb := Lib.hid (Ovb.out.on haw)
  replace Ovc := Lib.hid (Ovc.out.on haw)
  replace Oor1 := Lib.hid (Oor1.out.on haw)
  replace Odr1 := Lib.hid (Odr1.out.on haw)
  replace Oos1 := Lib.hid (Oos1.out.on haw)
  replace Ods1 := Lib.hid (Ods1.out.on haw)
  replace Oot1 := Lib.hid (Oot1.out.on haw)
  replace Odt1 := Lib.hid (Odt1.out.on haw)
  replace Br1 := Lib.hid (Br1.out.on haw)
  replace Bs1 := Lib.hid (Bs1.out.on haw)
  replace Bt1 := Lib.hid (Bt1.out.on haw)
  clear haw
  go_wp2_with (first | (refine wpList_load28 rfl _ rfl _ rfl x _ _ (by exact Bs1.out) HXA.out ?_; refine Hid.out ?_))
  refine Lib.hid ?_
  go_wp2_with (first | (refine wpList_load28 rfl _ rfl _ rfl x ox dx (by exact (HB5.out.on HN.out)) HXA.out ?_; refine Hid.out ?_))
  refine Lib.hid ?_
  go_wp2_with fail
  refine (sameP_yes x x _ _ ox dx _ (pkt_of HXW.out Oos1.out Ods1.out) (HX.out.on HN.out) rfl).mono ?_
  rintro E w24 ⟨rfl, haw⟩
  have hs_w24 : w23.heap.size ≤ w24.heap.size := haw.size
  replace HA := Lib.hid (HA.out.on haw)
  replace HN := Lib.hid (HN.out.on haw)
  replace Ova := Lib.hid (Ova.out.on haw)
  replace Ovb := Lib.hid (Ovb.out.on haw)
  replace Ovc := Lib.hid (Ovc.out.on haw)
  replace Oor1 := Lib.hid (Oor1.out.on haw)
  replace Odr1 := Lib.hid (Odr1.out.on haw)
  replace Oos1 := Lib.hid (Oos1.out.on haw)
  replace Ods1 := Lib.hid (Ods1.out.on haw)
  replace Oot1 := Lib.hid (Oot1.out.on haw)
  replace Odt1 := Lib.hid (Odt1.out.on haw)
  replace Br1 := Lib.hid (Br1.out.on haw)
  replace Bs1 := Lib.hid (Bs1.out.on haw)
  replace Bt1 := Lib.hid (Bt1.out.on haw)
  clear haw
  go_wp2_with (first | (refine wpList_load28 rfl _ rfl _ rfl y _ _ (by exact Bt1.out) HYA.out ?_; refine Hid.out ?_))
  refine Lib.hid ?_
  go_wp2_with (first | (refine wpList_load28 rfl _ rfl _ rfl y oy dy (by exact (HB6.out.on HN.out)) HYA.out ?_; refine Hid.out ?_))
  refine Lib.hid ?_
  go_wp2_with fail
  refine (sameP_yes y y _ _ oy dy _ (pkt_of HYW.out Oot1.out Odt1.out) (HY.out.on HN.out) rfl).mono ?_
  rintro E w25 ⟨rfl, haw⟩
  have hs_w25 : w24.heap.size ≤ w25.heap.size := haw.size
  replace HA := Lib.hid (HA.out.on haw)
  replace HN := Lib.hid (HN.out.on haw)
  replace Ova := Lib.hid (Ova.out.on haw)
  replace Ovb := Lib.hid (Ovb.out.on haw)
  replace Ovc := Lib.hid (Ovc.out.on haw)
  replace Oor1 := Lib.hid (Oor1.out.on haw)
  replace Odr1 := Lib.hid (Odr1.out.on haw)
  replace Oos1 := Lib.hid (Oos1.out.on haw)
  replace Ods1 := Lib.hid (Ods1.out.on haw)
  replace Oot1 := Lib.hid (Oot1.out.on haw)
  replace Odt1 := Lib.hid (Odt1.out.on haw)
  replace Br1 := Lib.hid (Br1.out.on haw)
  replace Bs1 := Lib.hid (Bs1.out.on haw)
  replace Bt1 := Lib.hid (Bt1.out.on haw)
  clear haw
  go_wp2_with fail
  refine (own_any aA lx _ cA _ rfl (Ova.out.row' (by omega) HlxD.out.1)).mono ?_
  rintro E w26 ⟨vk, rfl, hown, hnew, haw, -, -⟩
  have hs_w26 : w25.heap.size ≤ w26.heap.size := haw.size
  replace HA := Lib.hid (HA.out.on haw)
  replace HN := Lib.hid (HN.out.on haw)
  replace Ova := Lib.hid (Ova.out.on haw)
  replace Ovb := Lib.hid (Ovb.out.on haw)
  replace Ovc := Lib.hid (Ovc.out.on haw)
  replace Oor1 := Lib.hid (Oor1.out.on haw)
  replace Odr1 := Lib.hid (Odr1.out.on haw)
  replace Oos1 := Lib.hid (Oos1.out.on haw)
  replace Ods1 := Lib.hid (Ods1.out.on haw)
  replace Oot1 := Lib.hid (Oot1.out.on haw)
  replace Odt1 := Lib.hid (Odt1.out.on haw)
  replace Br1 := Lib.hid (Br1.out.on haw)
  replace Bs1 := Lib.hid (Bs1.out.on haw)
  replace Bt1 := Lib.hid (Bt1.out.on haw)
  clear haw
  have Ovk := Lib.hid hown
  have Rvk := Lib.hid (rng_of hnew hown)
  clear hown hnew
  obtain ⟨aK, cK, hvK, hcapK, hnK, -, -⟩ := Ovk.out.row (by omega) HlxD.out.1
  subst hvK
  obtain ⟨P, hP⟩ : ∃ P : Lot, P = [(.slice aA lx.length cA, lx), (.slice aB lx.length cB, lx), (.slice aC ly.length cC, ly), (.slice oar1 onr1 ocr1, x.o), (.slice dar1 dnr1 dcr1, x.d), (.slice oas1 ons1 ocs1, x.o), (.slice das1 dns1 dcs1, x.d), (.slice oat1 ont1 oct1, y.o), (.slice dat1 dnt1 dct1, y.d)] := ⟨_, rfl⟩
  have hAP : Apart P := by
    rw [hP]
    refine apart9 (fun i j p q hij hp hq k hk hk2 => ?_)
    match i, hp with
    | 0, hp =>
      simp only [List.getElem?_cons_zero, Option.some.injEq] at hp
      subst hp
      have h1 := Rva.out k hk
      match j, hij, hq with
      | 0, hij, hq => exact absurd hij (by omega)
      | 1, hij, hq =>
        simp only [List.getElem?_cons_succ, List.getElem?_cons_zero, Option.some.injEq] at hq
        subst hq
        have h2 := Rvb.out k hk2
        omega
      | 2, hij, hq =>
        simp only [List.getElem?_cons_succ, List.getElem?_cons_zero, Option.some.injEq] at hq
        subst hq
        have h2 := Rvc.out k hk2
        omega
      | 3, hij, hq =>
        simp only [List.getElem?_cons_succ, List.getElem?_cons_zero, Option.some.injEq] at hq
        subst hq
        have h2 := Ror1.out k hk2
        omega
      | 4, hij, hq =>
        simp only [List.getElem?_cons_succ, List.getElem?_cons_zero, Option.some.injEq] at hq
        subst hq
        have h2 := Rdr1.out k hk2
        omega
      | 5, hij, hq =>
        simp only [List.getElem?_cons_succ, List.getElem?_cons_zero, Option.some.injEq] at hq
        subst hq
        have h2 := Ros1.out k hk2
        omega
      | 6, hij, hq =>
        simp only [List.getElem?_cons_succ, List.getElem?_cons_zero, Option.some.injEq] at hq
        subst hq
        have h2 := Rds1.out k hk2
        omega
      | 7, hij, hq =>
        simp only [List.getElem?_cons_succ, List.getElem?_cons_zero, Option.some.injEq] at hq
        subst hq
        have h2 := Rot1.out k hk2
        omega
      | 8, hij, hq =>
        simp only [List.getElem?_cons_succ, List.getElem?_cons_zero, Option.some.injEq] at hq
        subst hq
        have h2 := Rdt1.out k hk2
        omega
      | n + 9, hij, hq => simp at hq
    | 1, hp =>
      simp only [List.getElem?_cons_succ, List.getElem?_cons_zero, Option.some.injEq] at hp
      subst hp
      have h1 := Rvb.out k hk
      match j, hij, hq with
      | 0, hij, hq => exact absurd hij (by omega)
      | 1, hij, hq => exact absurd hij (by omega)
      | 2, hij, hq =>
        simp only [List.getElem?_cons_succ, List.getElem?_cons_zero, Option.some.injEq] at hq
        subst hq
        have h2 := Rvc.out k hk2
        omega
      | 3, hij, hq =>
        simp only [List.getElem?_cons_succ, List.getElem?_cons_zero, Option.some.injEq] at hq
        subst hq
        have h2 := Ror1.out k hk2
        omega
      | 4, hij, hq =>
        simp only [List.getElem?_cons_succ, List.getElem?_cons_zero, Option.some.injEq] at hq
        subst hq
        have h2 := Rdr1.out k hk2
        omega
      | 5, hij, hq =>
        simp only [List.getElem?_cons_succ, List.getElem?_cons_zero, Option.some.injEq] at hq
        subst hq
        have h2 := Ros1.out k hk2
        omega
      | 6, hij, hq =>
        simp only [List.getElem?_cons_succ, List.getElem?_cons_zero, Option.some.injEq] at hq
        subst hq
        have h2 := Rds1.out k hk2
        omega
      | 7, hij, hq =>
        simp only [List.getElem?_cons_succ, List.getElem?_cons_zero, Option.some.injEq] at hq
        subst hq
        have h2 := Rot1.out k hk2
        omega
      | 8, hij, hq =>
        simp only [List.getElem?_cons_succ, List.getElem?_cons_zero, Option.some.injEq] at hq
        subst hq
        have h2 := Rdt1.out k hk2
        omega
      | n + 9, hij, hq => simp at hq
    | 2, hp =>
      simp only [List.getElem?_cons_succ, List.getElem?_cons_zero, Option.some.injEq] at hp
      subst hp
      have h1 := Rvc.out k hk
      match j, hij, hq with
      | 0, hij, hq => exact absurd hij (by omega)
      | 1, hij, hq => exact absurd hij (by omega)
      | 2, hij, hq => exact absurd hij (by omega)
      | 3, hij, hq =>
        simp only [List.getElem?_cons_succ, List.getElem?_cons_zero, Option.some.injEq] at hq
        subst hq
        have h2 := Ror1.out k hk2
        omega
      | 4, hij, hq =>
        simp only [List.getElem?_cons_succ, List.getElem?_cons_zero, Option.some.injEq] at hq
        subst hq
        have h2 := Rdr1.out k hk2
        omega
      | 5, hij, hq =>
        simp only [List.getElem?_cons_succ, List.getElem?_cons_zero, Option.some.injEq] at hq
        subst hq
        have h2 := Ros1.out k hk2
        omega
      | 6, hij, hq =>
        simp only [List.getElem?_cons_succ, List.getElem?_cons_zero, Option.some.injEq] at hq
        subst hq
        have h2 := Rds1.out k hk2
        omega
      | 7, hij, hq =>
        simp only [List.getElem?_cons_succ, List.getElem?_cons_zero, Option.some.injEq] at hq
        subst hq
        have h2 := Rot1.out k hk2
        omega
      | 8, hij, hq =>
        simp only [List.getElem?_cons_succ, List.getElem?_cons_zero, Option.some.injEq] at hq
        subst hq
        have h2 := Rdt1.out k hk2
        omega
      | n + 9, hij, hq => simp at hq
    | 3, hp =>
      simp only [List.getElem?_cons_succ, List.getElem?_cons_zero, Option.some.injEq] at hp
      subst hp
      have h1 := Ror1.out k hk
      match j, hij, hq with
      | 0, hij, hq => exact absurd hij (by omega)
      | 1, hij, hq => exact absurd hij (by omega)
      | 2, hij, hq => exact absurd hij (by omega)
      | 3, hij, hq => exact absurd hij (by omega)
      | 4, hij, hq =>
        simp only [List.getElem?_cons_succ, List.getElem?_cons_zero, Option.some.injEq] at hq
        subst hq
        exact Pr1.out k hk hk2
      | 5, hij, hq =>
        simp only [List.getElem?_cons_succ, List.getElem?_cons_zero, Option.some.injEq] at hq
        subst hq
        have h2 := Ros1.out k hk2
        omega
      | 6, hij, hq =>
        simp only [List.getElem?_cons_succ, List.getElem?_cons_zero, Option.some.injEq] at hq
        subst hq
        have h2 := Rds1.out k hk2
        omega
      | 7, hij, hq =>
        simp only [List.getElem?_cons_succ, List.getElem?_cons_zero, Option.some.injEq] at hq
        subst hq
        have h2 := Rot1.out k hk2
        omega
      | 8, hij, hq =>
        simp only [List.getElem?_cons_succ, List.getElem?_cons_zero, Option.some.injEq] at hq
        subst hq
        have h2 := Rdt1.out k hk2
        omega
      | n + 9, hij, hq => simp at hq
    | 4, hp =>
      simp only [List.getElem?_cons_succ, List.getElem?_cons_zero, Option.some.injEq] at hp
      subst hp
      have h1 := Rdr1.out k hk
      match j, hij, hq with
      | 0, hij, hq => exact absurd hij (by omega)
      | 1, hij, hq => exact absurd hij (by omega)
      | 2, hij, hq => exact absurd hij (by omega)
      | 3, hij, hq => exact absurd hij (by omega)
      | 4, hij, hq => exact absurd hij (by omega)
      | 5, hij, hq =>
        simp only [List.getElem?_cons_succ, List.getElem?_cons_zero, Option.some.injEq] at hq
        subst hq
        have h2 := Ros1.out k hk2
        omega
      | 6, hij, hq =>
        simp only [List.getElem?_cons_succ, List.getElem?_cons_zero, Option.some.injEq] at hq
        subst hq
        have h2 := Rds1.out k hk2
        omega
      | 7, hij, hq =>
        simp only [List.getElem?_cons_succ, List.getElem?_cons_zero, Option.some.injEq] at hq
        subst hq
        have h2 := Rot1.out k hk2
        omega
      | 8, hij, hq =>
        simp only [List.getElem?_cons_succ, List.getElem?_cons_zero, Option.some.injEq] at hq
        subst hq
        have h2 := Rdt1.out k hk2
        omega
      | n + 9, hij, hq => simp at hq
    | 5, hp =>
      simp only [List.getElem?_cons_succ, List.getElem?_cons_zero, Option.some.injEq] at hp
      subst hp
      have h1 := Ros1.out k hk
      match j, hij, hq with
      | 0, hij, hq => exact absurd hij (by omega)
      | 1, hij, hq => exact absurd hij (by omega)
      | 2, hij, hq => exact absurd hij (by omega)
      | 3, hij, hq => exact absurd hij (by omega)
      | 4, hij, hq => exact absurd hij (by omega)
      | 5, hij, hq => exact absurd hij (by omega)
      | 6, hij, hq =>
        simp only [List.getElem?_cons_succ, List.getElem?_cons_zero, Option.some.injEq] at hq
        subst hq
        exact Ps1.out k hk hk2
      | 7, hij, hq =>
        simp only [List.getElem?_cons_succ, List.getElem?_cons_zero, Option.some.injEq] at hq
        subst hq
        have h2 := Rot1.out k hk2
        omega
      | 8, hij, hq =>
        simp only [List.getElem?_cons_succ, List.getElem?_cons_zero, Option.some.injEq] at hq
        subst hq
        have h2 := Rdt1.out k hk2
        omega
      | n + 9, hij, hq => simp at hq
    | 6, hp =>
      simp only [List.getElem?_cons_succ, List.getElem?_cons_zero, Option.some.injEq] at hp
      subst hp
      have h1 := Rds1.out k hk
      match j, hij, hq with
      | 0, hij, hq => exact absurd hij (by omega)
      | 1, hij, hq => exact absurd hij (by omega)
      | 2, hij, hq => exact absurd hij (by omega)
      | 3, hij, hq => exact absurd hij (by omega)
      | 4, hij, hq => exact absurd hij (by omega)
      | 5, hij, hq => exact absurd hij (by omega)
      | 6, hij, hq => exact absurd hij (by omega)
      | 7, hij, hq =>
        simp only [List.getElem?_cons_succ, List.getElem?_cons_zero, Option.some.injEq] at hq
        subst hq
        have h2 := Rot1.out k hk2
        omega
      | 8, hij, hq =>
        simp only [List.getElem?_cons_succ, List.getElem?_cons_zero, Option.some.injEq] at hq
        subst hq
        have h2 := Rdt1.out k hk2
        omega
      | n + 9, hij, hq => simp at hq
    | 7, hp =>
      simp only [List.getElem?_cons_succ, List.getElem?_cons_zero, Option.some.injEq] at hp
      subst hp
      have h1 := Rot1.out k hk
      match j, hij, hq with
      | 0, hij, hq => exact absurd hij (by omega)
      | 1, hij, hq => exact absurd hij (by omega)
      | 2, hij, hq => exact absurd hij (by omega)
      | 3, hij, hq => exact absurd hij (by omega)
      | 4, hij, hq => exact absurd hij (by omega)
      | 5, hij, hq => exact absurd hij (by omega)
      | 6, hij, hq => exact absurd hij (by omega)
      | 7, hij, hq => exact absurd hij (by omega)
      | 8, hij, hq =>
        simp only [List.getElem?_cons_succ, List.getElem?_cons_zero, Option.some.injEq] at hq
        subst hq
        exact Pt1.out k hk hk2
      | n + 9, hij, hq => simp at hq
    | 8, hp =>
      simp only [List.getElem?_cons_succ, List.getElem?_cons_zero, Option.some.injEq] at hp
      subst hp
      have h1 := Rdt1.out k hk
      match j, hij, hq with
      | 0, hij, hq => exact absurd hij (by omega)
      | 1, hij, hq => exact absurd hij (by omega)
      | 2, hij, hq => exact absurd hij (by omega)
      | 3, hij, hq => exact absurd hij (by omega)
      | 4, hij, hq => exact absurd hij (by omega)
      | 5, hij, hq => exact absurd hij (by omega)
      | 6, hij, hq => exact absurd hij (by omega)
      | 7, hij, hq => exact absurd hij (by omega)
      | 8, hij, hq => exact absurd hij (by omega)
      | n + 9, hij, hq => simp at hq
    | n + 9, hp => simp at hp
  have hCO : ∀ (j : Nat) (p : Value × List Int), P[j]? = some p → Owns w26 p.1 p.2 ∧ Bytes p.2 ∧ p.2.length ≤ 65535 ∧ Rng w8.heap.size w26.heap.size p.1 := by
    rw [hP]
    intro j p hp
    match j, hp with
    | 0, hp =>
      simp only [List.getElem?_cons_zero, Option.some.injEq] at hp
      subst hp
      exact ⟨Ova.out, HlxD.out.1, HlxD.out.2, fun k hk => by have h1 := Rva.out k hk; omega⟩
    | 1, hp =>
      simp only [List.getElem?_cons_succ, List.getElem?_cons_zero, Option.some.injEq] at hp
      subst hp
      exact ⟨Ovb.out, HlxD.out.1, HlxD.out.2, fun k hk => by have h1 := Rvb.out k hk; omega⟩
    | 2, hp =>
      simp only [List.getElem?_cons_succ, List.getElem?_cons_zero, Option.some.injEq] at hp
      subst hp
      exact ⟨Ovc.out, HlyD.out.1, HlyD.out.2, fun k hk => by have h1 := Rvc.out k hk; omega⟩
    | 3, hp =>
      simp only [List.getElem?_cons_succ, List.getElem?_cons_zero, Option.some.injEq] at hp
      subst hp
      exact ⟨Oor1.out, HXW.out.o, HXB.out.1, fun k hk => by have h1 := Ror1.out k hk; omega⟩
    | 4, hp =>
      simp only [List.getElem?_cons_succ, List.getElem?_cons_zero, Option.some.injEq] at hp
      subst hp
      exact ⟨Odr1.out, HXW.out.d, HXB.out.2, fun k hk => by have h1 := Rdr1.out k hk; omega⟩
    | 5, hp =>
      simp only [List.getElem?_cons_succ, List.getElem?_cons_zero, Option.some.injEq] at hp
      subst hp
      exact ⟨Oos1.out, HXW.out.o, HXB.out.1, fun k hk => by have h1 := Ros1.out k hk; omega⟩
    | 6, hp =>
      simp only [List.getElem?_cons_succ, List.getElem?_cons_zero, Option.some.injEq] at hp
      subst hp
      exact ⟨Ods1.out, HXW.out.d, HXB.out.2, fun k hk => by have h1 := Rds1.out k hk; omega⟩
    | 7, hp =>
      simp only [List.getElem?_cons_succ, List.getElem?_cons_zero, Option.some.injEq] at hp
      subst hp
      exact ⟨Oot1.out, HYW.out.o, HYB.out.1, fun k hk => by have h1 := Rot1.out k hk; omega⟩
    | 8, hp =>
      simp only [List.getElem?_cons_succ, List.getElem?_cons_zero, Option.some.injEq] at hp
      subst hp
      exact ⟨Odt1.out, HYW.out.d, HYB.out.2, fun k hk => by have h1 := Rdt1.out k hk; omega⟩
    | n + 9, hp => simp at hp
  have hBL : ∀ k ∈ bl P, w8.heap.size ≤ k ∧ k < w26.heap.size := fun k hk => by
    obtain ⟨p, hp, hb⟩ := List.mem_filterMap.1 hk
    obtain ⟨j, hj⟩ := List.mem_iff_getElem?.1 hp
    exact (hCO j p hj).2.2.2 k hb
  have hBK : ∀ k, (Value.slice aK lx.length cK).ownBlock = some k → k ∉ bl P := fun k hk hx => by
    obtain ⟨p, hp, hb⟩ := List.mem_filterMap.1 hx
    obtain ⟨j, hj⟩ := List.mem_iff_getElem?.1 hp
    have h1 := Rvk.out k hk
    rw [hP] at hj
    match j, hj with
    | 0, hj =>
      simp only [List.getElem?_cons_zero, Option.some.injEq] at hj
      subst hj
      have h2 := Rva.out k hb
      omega
    | 1, hj =>
      simp only [List.getElem?_cons_succ, List.getElem?_cons_zero, Option.some.injEq] at hj
      subst hj
      have h2 := Rvb.out k hb
      omega
    | 2, hj =>
      simp only [List.getElem?_cons_succ, List.getElem?_cons_zero, Option.some.injEq] at hj
      subst hj
      have h2 := Rvc.out k hb
      omega
    | 3, hj =>
      simp only [List.getElem?_cons_succ, List.getElem?_cons_zero, Option.some.injEq] at hj
      subst hj
      have h2 := Ror1.out k hb
      omega
    | 4, hj =>
      simp only [List.getElem?_cons_succ, List.getElem?_cons_zero, Option.some.injEq] at hj
      subst hj
      have h2 := Rdr1.out k hb
      omega
    | 5, hj =>
      simp only [List.getElem?_cons_succ, List.getElem?_cons_zero, Option.some.injEq] at hj
      subst hj
      have h2 := Ros1.out k hb
      omega
    | 6, hj =>
      simp only [List.getElem?_cons_succ, List.getElem?_cons_zero, Option.some.injEq] at hj
      subst hj
      have h2 := Rds1.out k hb
      omega
    | 7, hj =>
      simp only [List.getElem?_cons_succ, List.getElem?_cons_zero, Option.some.injEq] at hj
      subst hj
      have h2 := Rot1.out k hb
      omega
    | 8, hj =>
      simp only [List.getElem?_cons_succ, List.getElem?_cons_zero, Option.some.injEq] at hj
      subst hj
      have h2 := Rdt1.out k hb
      omega
    | n + 9, hj => simp at hj
  have HLot : Hid (LotAt (w26.alloc (.cells #[.slice aA lx.length cA, .slice aB lx.length cB, .slice aC ly.length cC, .slice oar1 onr1 ocr1, .slice dar1 dnr1 dcr1, .slice oas1 ons1 ocs1, .slice das1 dns1 dcs1, .slice oat1 ont1 oct1, .slice dat1 dnt1 dct1] 26)) (.slice (some ⟨w26.heap.size, 0, none⟩) 9 9) P) := by
    have hA : Away [] w26 (w26.alloc (.cells #[.slice aA lx.length cA, .slice aB lx.length cB, .slice aC ly.length cC, .slice oar1 onr1 ocr1, .slice dar1 dnr1 dcr1, .slice oas1 ons1 ocs1, .slice das1 dns1 dcs1, .slice oat1 ont1 oct1, .slice dat1 dnt1 dct1] 26)) := (Away.refl [] w26).alloc _
    refine ⟨?_, fun j p hp => ?_, hAP, ?_, ?_⟩
    · have h := World.ownsRow_lit (base := 0) (e := 26) (size := 1) w26 #[.slice aA lx.length cA, .slice aB lx.length cB, .slice aC ly.length cC, .slice oar1 onr1 ocr1, .slice dar1 dnr1 dcr1, .slice oas1 ons1 ocs1, .slice das1 dns1 dcs1, .slice oat1 ont1 oct1, .slice dat1 dnt1 dct1] 9 (Nat.zero_le _) (by decide) rfl
      rw [hP]; exact h
    · obtain ⟨h1, h2, h3, h4⟩ := hCO j p hp
      exact ⟨h1.away hA (by simp), h2, h3⟩
    · intro k hk hx
      have := hBL k hx
      simp [Value.ownBlock] at hk
      omega
    · rw [hP]; simp
  have HBL := Lib.hid hBL
  have HBK := Lib.hid hBK
  clear hAP hCO hBL hBK hP
  have er1o := (Br1.out.cells HXA.out).o
  have er1d := (Br1.out.cells HXA.out).d
  have es1o := (Bs1.out.cells HXA.out).o
  have es1d := (Bs1.out.cells HXA.out).d
  have et1o := (Bt1.out.cells HYA.out).o
  have et1d := (Bt1.out.cells HYA.out).d
  go_wp2_with fail
  refine (marked_any _ _ P HLot.out).mono ?_
  rintro E w27 ⟨vl, tl, rfl, hst, -, hawm, -⟩
  have haw : Away (bl P) w26 w27 := ((Away.refl [] w26).alloc _ |>.mono (by simp)).next hawm (fun x hx => .inl hx)
  have hs_w27 : w26.heap.size ≤ w27.heap.size := haw.size
  replace HN := Lib.hid (HN.out.next haw (fun k hk => .inr (by have := HBL.out k hk; omega)))
  replace HA := Lib.hid (HA.out.next haw (fun k hk => .inr (by have := HBL.out k hk; omega)))
  replace Ovk := Lib.hid (Ovk.out.away haw HBK.out)
  have HST := Lib.hid hst
  clear hst hawm haw HLot er1o er1d es1o es1d et1o et1d Br1 Bs1 Bt1 Ova Ovb Ovc Oor1 Odr1 Oos1 Ods1 Oot1 Odt1
  go_wp2_with (first | (refine wpList_load28 rfl _ rfl _ rfl x _ _ (by exact (HB5.out.on HN.out)) HXA.out ?_))
  refine (ownP_c x _ _ _ (HX.out.on HN.out)).mono ?_
  rintro E w28 ⟨o28, d28, rfl, hmi, haw⟩
  replace HA := Lib.hid (HA.out.on haw)
  replace HN := Lib.hid (HN.out.on haw)
  replace Ovk := Lib.hid (Ovk.out.on haw)
  replace HST := Lib.hid (HST.out.on haw)
  clear haw
  have HZ := Lib.hid (hmi.pkt HXW.out)
  clear hmi
  go_wp2_with fail
  refine (build_c x _ _ _ HZ.out (HG.out.on HN.out)).mono ?_
  rintro E w29 ⟨vg, rfl, hown, hnew, haw⟩
  replace HA := Lib.hid (HA.out.on haw)
  replace HN := Lib.hid (HN.out.on haw)
  replace Ovk := Lib.hid (Ovk.out.on haw)
  replace HST := Lib.hid (HST.out.on haw)
  replace HZ := Lib.hid (HZ.out.on haw)
  clear haw
  clear HZ
  rw [build_ok HXR.out] at hown
  rw [build_ok HXR.out]
  replace hown : Owns w29 vg lx := by rw [Hlx.out]; exact hown
  have Ovg := Lib.hid hown
  clear hown hnew
  obtain ⟨aG, cG, hvG, hcapG, hnG, -, -⟩ := Ovg.out.row (by omega) HlxD.out.1
  subst hvG
  go_wp2_with fail
  refine (own_any aK lx _ cK _ rfl (Ovk.out.row' (by omega) HlxD.out.1)).mono ?_
  rintro E w30 ⟨vu, rfl, hown, hnew, haw, -, -⟩
  replace HA := Lib.hid (HA.out.on haw)
  replace HN := Lib.hid (HN.out.on haw)
  replace Ovk := Lib.hid (Ovk.out.on haw)
  replace HST := Lib.hid (HST.out.on haw)
  replace Ovg := Lib.hid (Ovg.out.on haw)
  clear haw
  obtain ⟨aU, cU, hvU, hcapU, hnU, hrow, -⟩ := hown.row (by omega) HlxD.out.1
  subst hvU
  have HRT := Lib.hid hrow
  clear hown hnew hrow
  go_wp2_with fail
  refine (parse_c aU lx _ cU _ rfl hcapU hnU HRT.out (HG.out.on HN.out)).mono ?_
  rintro E w31 ⟨ou1, du1, rfl, ho, hd, -, -, -, haw⟩
  replace HA := Lib.hid (HA.out.on haw)
  replace HN := Lib.hid (HN.out.on haw)
  replace Ovk := Lib.hid (Ovk.out.on haw)
  replace HST := Lib.hid (HST.out.on haw)
  replace Ovg := Lib.hid (Ovg.out.on haw)
  replace HRT := Lib.hid (HRT.out.on haw)
  clear haw
  clear HRT
  rw [HlxP.out] at ho hd ⊢
  have HU := Lib.hid (pkt_of HXW.out ho hd)
  have uu1 := HU.out.ov
  have vu1 := HU.out.dv
  clear ho hd
  go_wp2_with (first | (refine wpList_new28 rfl rfl rfl _ _ rfl x ou1 du1 (fun _ => rfl) (fun _ => rfl) HXA.out uu1 vu1 ?_; refine Hid.out ?_))
  refine Lib.hid ?_
  intro g22 w32 hg_g22 hb haw
  replace HA := Lib.hid (HA.out.on haw)
  replace HN := Lib.hid (HN.out.on haw)
  replace Ovk := Lib.hid (Ovk.out.on haw)
  replace HST := Lib.hid (HST.out.on haw)
  replace Ovg := Lib.hid (Ovg.out.on haw)
  replace HU := Lib.hid (HU.out.on haw)
  clear haw
  have BU := Lib.hid hb
  clear hb
  go_wp2_with fail
  refine (still_any _ _ tl HST.out).mono ?_
  rintro E w33 ⟨rfl, nd, hw33⟩
  have haw : Away [] w32 w33 := by rw [hw33]; exact (Away.refl [] w32).drewN nd
  clear hw33
  replace HA := Lib.hid (HA.out.on haw)
  replace HN := Lib.hid (HN.out.on haw)
  replace Ovk := Lib.hid (Ovk.out.on haw)
  replace HST := Lib.hid (HST.out.on haw)
  replace Ovg := Lib.hid (Ovg.out.on haw)
  replace HU := Lib.hid (HU.out.on haw)
  replace BU := Lib.hid (BU.out.on haw)
  clear haw
  go_wp2_with fail
  refine (same_yes aG aK lx lx _ _ cG cK _ rfl rfl hnG hnK (Ovg.out.row' (by omega) HlxD.out.1) (Ovk.out.row' (by omega) HlxD.out.1) rfl).mono ?_
  rintro E w33 ⟨rfl, rfl⟩
  go_wp2_with (first | (refine wpList_load28 rfl _ rfl _ rfl x ou1 du1 (by exact BU.out) HXA.out ?_; refine Hid.out ?_))
  refine Lib.hid ?_
  go_wp2_with (first | (refine wpList_load28 rfl _ rfl _ rfl x ox dx (by exact (HB5.out.on HN.out)) HXA.out ?_; refine Hid.out ?_))
  refine Lib.hid ?_
  go_wp2_with fail
  refine (sameP_yes x x ou1 du1 ox dx _ HU.out (HX.out.on HN.out) rfl).mono ?_
  rintro E w34 ⟨rfl, haw⟩
  replace HA := Lib.hid (HA.out.on haw)
  replace HN := Lib.hid (HN.out.on haw)
  replace Ovk := Lib.hid (Ovk.out.on haw)
  replace HST := Lib.hid (HST.out.on haw)
  replace Ovg := Lib.hid (Ovg.out.on haw)
  replace HU := Lib.hid (HU.out.on haw)
  replace BU := Lib.hid (BU.out.on haw)
  clear haw
  go_wp2_with fail
  go_ret
  exact ⟨rfl, HA.out.to_below⟩
namespace ip4Memory
theorem contract (H : Type) (enc : TypeId × Value → H) (W : World) (base : Nat) (args : Array Value) (ds gs : List (DataW H)) (before : List MemPlace)
    (hval0 : ∀ (j : Nat) t v, Tryd.f8.params[j]? = some t → args[j]? = some v → Value.okWide Tryd.prog W .any base t v)
    (hW : DataW.Whole enc Tryd.prog Tryd.f8.params.toList Rows.ip4MemorySpec.vars false W args.toList ds gs before)
    (hsz0 : (DataW.weightsEach Tryd.prog (Tryd.f8.params.toList ++ Rows.ip4MemorySpec.plain.varTypes Tryd.prog) (ds ++ gs)).all (· ≤ reachBytes) = true)
    (hL : laidMetH Tryd.prog Rows.ip4MemoryRow.laid W) :
    Calls Tryd.prog 8 args W fun e W' => ∃ v, e = .returned v ∧ Rows.ip4MemorySpec.post enc Tryd.prog Tryd.f8 false true false false W args v W' := by
  have hval := hval0
  have hsz := hsz0
  have hW' := hW
  obtain ⟨p, q, hA0, hV, rfl, hfz, hnd⟩ := hW
  have hA : DataW.TrodAll enc Tryd.prog W 0 (fun _ => true) true Tryd.f8.params.toList args.toList ds p := hA0
  rw [Tryd.params8] at hA hval hsz
  obtain ⟨v0, vs0, d0, ds0, p0, q0, hargs, rfl, rfl, h0, r0⟩ := trodAll_cons hA
  obtain ⟨v1, vs1, d1, ds1, p1, q1, rfl, rfl, rfl, h1, r1⟩ := trodAll_cons r0
  obtain ⟨rfl, rfl, rfl⟩ := trodAll_nil r1
  obtain rfl : args = #[v0, v1] := by cases args; simp_all
  obtain ⟨rfl, rfl⟩ := trodVars_none hV
  have k0 := h0
  have lt0 : ∀ x ∈ p0, x.block < W.heap.size := by obtain ⟨m, hm⟩ := k0; exact DataW.trod_lt m _ _ _ hm
  have z0 : ∀ m ∈ d0.weights Tryd.prog 28, m ≤ reachBytes := fun m hm => by
    have := List.all_eq_true.1 hsz m (DataW.weights_mem_each (j := 0) (t := 28) rfl rfl m hm)
    simpa using this
  obtain ⟨x0, ov0, dv0, rfl, w0, ol0, dl0⟩ := open_pkt (hval 0 28 v0 rfl rfl) h0 z0
  have k1 := h1
  have lt1 : ∀ x ∈ p1, x.block < W.heap.size := by obtain ⟨m, hm⟩ := k1; exact DataW.trod_lt m _ _ _ hm
  have z1 : ∀ m ∈ d1.weights Tryd.prog 28, m ≤ reachBytes := fun m hm => by
    have := List.all_eq_true.1 hsz m (DataW.weights_mem_each (j := 1) (t := 28) rfl rfl m hm)
    simpa using this
  obtain ⟨x1, ov1, dv1, rfl, w1, ol1, dl1⟩ := open_pkt (hval 1 28 v1 rfl rfl) h1 z1
  clear hA0 hval0
  refine (walk x0 ov0 dv0 x1 ov1 dv1 W (glob_of hL) w0 ol0 dl0 w1 ol1 dl1).mono fun e W' ⟨he, bel⟩ => ?_
  subst he
  exact ⟨_, rfl, _, _, _, [], _, [], hW', trodAll_mk1 (shut_bool Tryd.underlying4 _), (trodAll_cons_mk (Below.trod laidOut (by kernel_rfl) (of_decide_eq_true (by kernel_rfl)) k0 bel lt0) (trodAll_cons_mk (Below.trod laidOut (by kernel_rfl) (of_decide_eq_true (by kernel_rfl)) k1 bel lt1) trodAll_mk0)), rfl, bel.frame _, fun h => by cases h⟩
theorem laid_met (os : Os) : laidMet Tryd.prog Rows.ip4MemoryRow.laid ((laidWorld Tryd.prog os).forCall (fun _ _ => 0) ⟨#[], #[.agg (csP zeroPk (.slice none 0 0) (.slice none 0 0)), .agg (csP zeroPk (.slice none 0 0) (.slice none 0 0))], []⟩).memory :=
  laidMet_of_run' 8 (by kernel_rfl) (by kernel_rfl)
theorem reads (os : Os) {H : Type} (enc : TypeId × Value → H) : ∃ places, DataW.whole enc Tryd.prog ((laidWorld Tryd.prog os).forCall (fun _ _ => 0) ⟨#[], #[.agg (csP zeroPk (.slice none 0 0) (.slice none 0 0)), .agg (csP zeroPk (.slice none 0 0) (.slice none 0 0))], []⟩).memory Tryd.f8.params.toList Rows.ip4MemorySpec.vars false #[.agg (csP zeroPk (.slice none 0 0) (.slice none 0 0)), .agg (csP zeroPk (.slice none 0 0) (.slice none 0 0))].toList 8 = some ([.agg [.lit (.int .i64 0), .lit (.int .i64 0), .lit (.int .i64 0), .agg [.lit (.int .i64 0), .agg [.lit (.int .u8 0), .lit (.int .u8 0), .lit (.int .u8 0), .lit (.int .u8 0), .lit (.int .u8 0), .lit (.int .u8 0), .lit (.int .u8 0), .lit (.int .u8 0), .lit (.int .u8 0), .lit (.int .u8 0), .lit (.int .u8 0), .lit (.int .u8 0), .lit (.int .u8 0), .lit (.int .u8 0), .lit (.int .u8 0), .lit (.int .u8 0)]], .agg [.lit (.int .i64 0), .agg [.lit (.int .u8 0), .lit (.int .u8 0), .lit (.int .u8 0), .lit (.int .u8 0), .lit (.int .u8 0), .lit (.int .u8 0), .lit (.int .u8 0), .lit (.int .u8 0), .lit (.int .u8 0), .lit (.int .u8 0), .lit (.int .u8 0), .lit (.int .u8 0), .lit (.int .u8 0), .lit (.int .u8 0), .lit (.int .u8 0), .lit (.int .u8 0)]], .lit (.int .i64 0), .lit (.int .i64 0), .lit (.int .u32 0), .lit (.bool false), .lit (.bool false), .lit (.bool false), .lit (.int .i64 0), .nil, .nil], .agg [.lit (.int .i64 0), .lit (.int .i64 0), .lit (.int .i64 0), .agg [.lit (.int .i64 0), .agg [.lit (.int .u8 0), .lit (.int .u8 0), .lit (.int .u8 0), .lit (.int .u8 0), .lit (.int .u8 0), .lit (.int .u8 0), .lit (.int .u8 0), .lit (.int .u8 0), .lit (.int .u8 0), .lit (.int .u8 0), .lit (.int .u8 0), .lit (.int .u8 0), .lit (.int .u8 0), .lit (.int .u8 0), .lit (.int .u8 0), .lit (.int .u8 0)]], .agg [.lit (.int .i64 0), .agg [.lit (.int .u8 0), .lit (.int .u8 0), .lit (.int .u8 0), .lit (.int .u8 0), .lit (.int .u8 0), .lit (.int .u8 0), .lit (.int .u8 0), .lit (.int .u8 0), .lit (.int .u8 0), .lit (.int .u8 0), .lit (.int .u8 0), .lit (.int .u8 0), .lit (.int .u8 0), .lit (.int .u8 0), .lit (.int .u8 0), .lit (.int .u8 0)]], .lit (.int .i64 0), .lit (.int .i64 0), .lit (.int .u32 0), .lit (.bool false), .lit (.bool false), .lit (.bool false), .lit (.int .i64 0), .nil, .nil]], [], places) :=
  ⟨[], by kernel_rfl⟩
theorem lifted (os : Os) (started : os.Started) (H : Type) (enc : TypeId × Value → H) (F : Stop.Interp) :
    ReturnsInHanded {} Tryd.checked os 8 .any ((OpenSpec.ofChange Rows.ip4MemorySpec).preRow enc Tryd.prog Tryd.f8 Rows.ip4MemoryRow.domain false Rows.ip4MemoryRow.laid) (((OpenSpec.ofChange Rows.ip4MemorySpec).at F).post enc Tryd.prog Tryd.f8 false true false false) := by
  obtain ⟨places, hx⟩ := reads os enc
  refine returnsInHanded_of_row (C := Tryd.checked) (s := OpenSpec.ofChange Rows.ip4MemorySpec) ownKn started (by kernel_rfl) Tryd.func8
    (witness_row_at (enc := enc) (C := Tryd.checked) false (laidWorld Tryd.prog os) #[.agg (csP zeroPk (.slice none 0 0) (.slice none 0 0)), .agg (csP zeroPk (.slice none 0 0) (.slice none 0 0))] rfl (by kernel_rfl) (by kernel_rfl) (by kernel_rfl)
      (OpenSpec.preRow_of_cond 8 hx (by kernel_rfl) (fun k hk => by cases hk) (by kernel_rfl) (laid_met os))) ?_
  intro W base args ds gs before hval hW _ hcond hsz hL hS _
  exact contract H enc W base args ds gs before hval hW hsz hL
theorem said : Rows.Ip4MemorySaid :=
  OpenClaim.holds_of_cond 8 Tryd.f8 rfl rfl rfl rfl rfl rfl rfl ⟨rfl, rfl, rfl, rfl, rfl⟩ rfl rfl rfl rfl rfl (by kernel_rfl) Tryd.func8 (by kernel_rfl)
    (of_decide_eq_true (by kernel_rfl)) (by unfold Func.isWrapper; first | (rw [if_pos (by decide +kernel)]; kernel_rfl) | (rw [if_neg (by decide +kernel)]; exact ⟨rfl, rfl⟩))
    (fun os started H enc _ F => by rw [OpenClaim.pre_eq_preRow]; exact lifted os started H enc F)
theorem plain (f : FuncId) (fn : Func) (hf : Tryd.pinned.checked.prog.funcNamed "mosaic/mosaiclaw05.Ip4Memory" = some f) (hfn : Tryd.pinned.checked.prog.funcs[f]? = some fn) :
    false = Tryd.pinned.checked.prog.looks [] ∧ ∀ (j : Nat) t, fn.params[j]? = some t → Tryd.pinned.checked.prog.wantsStandIn t = false := by
  obtain rfl : f = 8 := Option.some.inj ((show Tryd.prog.funcNamed "mosaic/mosaiclaw05.Ip4Memory" = some 8 by kernel_rfl).symm.trans hf) |>.symm
  obtain rfl : fn = Tryd.f8 := (Option.some.inj (Tryd.func8.symm.trans hfn)).symm
  refine ⟨by kernel_rfl, fun j t ht => ?_⟩
  rw [Tryd.params8] at ht
  have hm := Array.mem_of_getElem? ht
  simp only [List.mem_toArray, List.mem_cons, List.not_mem_nil, or_false] at hm
  have h28 : Tryd.prog.wantsStandIn 28 = false := by kernel_rfl
  have h26 : Tryd.prog.wantsStandIn 26 = false := by kernel_rfl
  have h3 : Tryd.prog.wantsStandIn 3 = false := by kernel_rfl
  rcases hm with rfl | rfl
  all_goals first | exact h28 | exact h26 | exact h3
theorem card : Rows.Ip4MemoryCardSaid :=
  Claim7.holds_tied_plain_at .later [] _ _ _ _ said (fun _ h => by cases h) (by kernel_rfl) (fun _ h => by cases h) ip4Memory_row_tie rfl ⟨rfl, rfl⟩ (by kernel_rfl) rfl plain (by kernel_rfl)
end ip4Memory
theorem ip4Memory_holds : Rows.Ip4MemoryCardSaid := ip4Memory.card
#print axioms ip4Memory_holds
end Go.Proofs.YtkfbhofbajejiaaDoor
