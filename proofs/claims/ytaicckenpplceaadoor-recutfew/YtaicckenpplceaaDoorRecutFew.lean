/-
  RecutFew.
-/
import Derived.Test.YtaicckenpplceaaDoorFwB
import Derived.Deep.CutBlock
import Derived.Deep.DeepCutAuto
namespace Go.Proofs.YtaicckenpplceaaDoor
open Go.ChangeShapes Go.WideShapes Go.ChangeAt Go.RowKit Go.Deep Num
set_option linter.unusedVariables false
set_option maxHeartbeats 16000000
set_option maxRecDepth 100000

namespace recutFew
open R
theorem ltc {a b c : Nat} (h : a + b < c) : (a : Int) + (b : Int) < (c : Int) := by omega
theorem nltc {a b c : Nat} (h : ¬ (a + b < c)) : ¬ ((a : Int) + (b : Int) < (c : Int)) := by omega
end recutFew
namespace R
theorem open_nums2 {H : Type} {enc : TypeId × Value → H} {w : World} {a : Option Addr} {len cap : Nat} {d : DataW H} {p : List MemPlace}
    (h : DataW.Trod enc Tryd.prog w 0 (fun _ => true) true 29 (.slice a len cap) d p) (hw : ∀ n ∈ d.weights Tryd.prog 29, n ≤ reachBytes) : Ints w a len ∧ len ≤ cap := by
  obtain ⟨fuel, hf⟩ := h
  have k4 : Tryd.prog.cellsOf 3 = 1 := by kernel_rfl
  rcases open_ints Tryd.underlying29 Tryd.underlying3 k4 (by simpa [Value.cells] using hf) with ⟨hcs, hx⟩ | ⟨x, l, c', zs, hcs, _, hll, hm, hz, hx, hcz, hwz⟩
  · have hcs := (List.cons.inj hcs).1
    simp only [Value.slice.injEq] at hcs
    obtain ⟨rfl, rfl, rfl⟩ := hcs
    exact ⟨fun i hi => by omega, by omega⟩
  · have hcs := (List.cons.inj hcs).1
    have hD : d = _ := congrArg Prod.fst hx
    subst hD
    simp only [Value.slice.injEq] at hcs
    obtain ⟨rfl, rfl, rfl⟩ := hcs
    rw [if_pos rfl] at hz
    have hreach : 8 * ((zs.take len).length + (zs.drop len).length) ≤ 140737488351232 := by
      have := hw (((zs.take len).length + (zs.drop len).length) * 8) (by
        simp only [DataW.weights, Tryd.underlying29]
        simp [lits, show Tryd.prog.bytesOf 3 = 8 from by kernel_rfl])
      simp only [reachBytes] at this
      omega
    simp only [List.length_take, List.length_drop] at hreach
    refine ⟨fun i hi => ?_, by omega⟩
    obtain ⟨b, off, spot⟩ := x
    have hspot : spot = none := by simpa [Addr.add] using World.cell?_spot (hcz 0 (by omega))
    subst hspot
    have h1 := hcz i (by omega)
    rw [add_plain] at h1
    refine ⟨b, off, zs.getD i 0, rfl, h1, bounds_i64 (hwz _ ?_)⟩
    rw [List.getD_eq_getElem?_getD, List.getElem?_eq_getElem (by omega)]
    exact List.getElem_mem _
end R
namespace recutFew
open R
theorem listP_d {p : Pk} {ov dv : Value} (ha : Ad p) : (listP p ov dv)[45]? = some dv := by
  obtain ⟨v, tos, flow, sv, sb, dv', db, proto, ttl, id, df, more, frag, off, o, d⟩ := p
  obtain ⟨h1, h2⟩ := ha
  simp only at h1 h2
  obtain ⟨b0, b1, b2, b3, b4, b5, b6, b7, b8, b9, b10, b11, b12, b13, b14, b15, rfl⟩ := list16 h1
  obtain ⟨c0, c1, c2, c3, c4, c5, c6, c7, c8, c9, c10, c11, c12, c13, c14, c15, rfl⟩ := list16 h2
  rfl
theorem walk (p : Pk) (ov dv : Value) (mtu : Int) (oa : Option Addr) (on oc : Nat) (w : World) (hg : Glob w) (hp : Pkt w p ov dv) (hpl1 : p.o.length ≤ 140737488351232) (hpl2 : p.d.length ≤ 140737488351232) (hmo0 : (Lit.int .i64 mtu).wf = true) (ho : Ints w oa on) (hol : on ≤ oc) :
    Calls Tryd.prog 4 #[.agg (csP p ov dv), .int .i64 mtu, .slice oa on oc] w fun E w' => E = .returned (.bool true) ∧ Below w.heap.size w w' := by
  have HAD := Lib.hid hp.wf.ad
  have HP := Lib.hid hp; have HG := Lib.hid hg; have HO := Lib.hid ho; have HMO : Hid (i64ok mtu) := wf64 hmo0
  clear hp hg ho hmo0 hpl1 hpl2
  go_enter Tryd.func4, Tryd.ntmps4
  go_wp2_with (refine wpList_box28 rfl _ rfl p _ _ rfl ?_; refine Hid.out ?_)
  refine Lib.hid ?_
  intro g3 w1 hg4 hb haw
  have HB3 := Lib.hid hb; have HA := Lib.hid haw
  replace HP := Lib.hid (HP.out.on haw)
  replace HG := Lib.hid (HG.out.on haw)
  replace HO := Lib.hid (HO.out.on haw)
  clear hb haw hg4
  go_wp2_with (refine wpList_load28 rfl _ rfl g3 rfl p _ _ (by exact HB3.out) HAD.out ?_)
  refine (R.rightF_c p ov dv _ HP.out HG.out).mono ?_
  rintro E w2 ⟨q, qo, qd, rfl, hu, hwf, hqv, hqf, hmine, haw⟩
  have HU := Lib.hid hu; have HQW := Lib.hid hwf; have HQA := Lib.hid hwf.ad
  have HQ := Lib.hid (hmine.pkt hwf)
  have HO1 := Lib.hid hmine.o.one; have HD1 := Lib.hid hmine.d.one
  have HQV := Lib.hid hqv; have HQF := Lib.hid hqf
  replace HA := Lib.hid (HA.out.on haw)
  replace HG := Lib.hid (HG.out.on haw)
  replace HO := Lib.hid (HO.out.on haw)
  clear haw hu hwf hmine hqv hqf HP HB3 HAD
  go_wp2_with (refine wpList_new28 rfl rfl rfl _ _ rfl q qo qd (fun g => rfl) (fun g => rfl) HQA.out HO1.out HD1.out ?_; refine Hid.out ?_)
  refine Lib.hid ?_
  intro g7 w3 hg9 hb haw
  have HB := Lib.hid hb
  replace HA := Lib.hid (HA.out.on haw)
  replace HG := Lib.hid (HG.out.on haw)
  replace HO := Lib.hid (HO.out.on haw)
  replace HQ := Lib.hid (HQ.out.on haw)
  clear hb haw hg9
  obtain ⟨r0, hr0⟩ : ∃ r, r = mtu % (1500 + 1) := ⟨_, rfl⟩
  have hr1 : 0 ≤ r0 ∧ r0 ≤ 1500 := by omega
  have HMM : Hid (∀ r : Int, 0 ≤ r ∧ r ≤ 1500 → mtuP (68 + r) 4 = true) := fun r hr => by rw [mtu_iff]; simp; omega
  have KR : Hid (∀ w', Calls Tryd.prog 9 #[.int .i64 mtu, .int .i64 1500] w' fun E w'' => E = .returned (.int .i64 r0) ∧ w'' = w') := fun w' => by rw [hr0]; exact rest_c _ _ w' HMO.out (by omega) (by omega)
  clear hr0
  go_wp2_with fail
  refine (KR.out _).mono ?_
  rintro E wq ⟨rfl, hwq⟩
  replace hwq := hwq.symm
  subst hwq
  clear KR
  obtain ⟨l0, hl0, href⟩ := recut_ref2 (m := 68 + r0) HQW.out HU.out HQV.out HQF.out (HMM.out r0 hr1)
  obtain ⟨hfull, hone⟩ := recut_full HQW.out HU.out HQV.out HQF.out (HMM.out r0 hr1) hl0
  have HFU := Lib.hid hfull
  have HON := Lib.hid hone
  clear hfull hone
  have HREF := Lib.hid href
  have HL0 := Lib.hid hl0
  clear href hl0
  go_wp2_with (refine wpList_load28 rfl _ rfl g7 rfl q _ _ (by exact HB.out) HQA.out ?_)
  refine (recut_c q qo qd (68 + r0) _ HQ.out HG.out).mono ?_
  unfold RecOut
  rw [HL0.out]
  rintro E w4 ⟨v, xs, rfl, hcu, hxm, haw⟩
  have HXM : Hid (xs.map X.p = l0) := hxm
  have hxl : xs.length ≤ 65536 := by
    rw [← List.length_map (f := X.p), HXM.out]
    have h1 := ref_len HREF.out.ref; have h2 := rgt_off HU.out; omega
  obtain ⟨xa, xc, hxv, hx4, hx5, hxp, -⟩ := hcu.pks (by omega)
  subst hxv
  have HXP := Lib.hid hxp
  replace HA := Lib.hid (HA.out.on haw)
  replace HG := Lib.hid (HG.out.on haw)
  replace HO := Lib.hid (HO.out.on haw)
  replace HQ := Lib.hid (HQ.out.on haw)
  replace HB := Lib.hid (HB.out.on haw)
  clear haw hcu hxm hxp
  obtain ⟨n, hn⟩ : ∃ n, n = xs.length := ⟨_, rfl⟩
  rw [← hn] at hxl hx4 ⊢
  have HN := Lib.hid hn
  clear hn
  have hn0 : 0 < n := by
    have h1 := HN.out
    have h2 : (xs.map X.p).length = xs.length := List.length_map _
    rw [HXM.out] at h2
    have h3 := List.length_pos_iff.2 HREF.out.ref.ne
    omega
  have HQL : Hid (longP q = ((20 + q.o.length + q.d.length : Nat) : Int)) := kin_long (Kin.refl HQW.out HU.out) HQV.out
  have HO1N : Hid (n = 1 ↔ ((20 + q.o.length + q.d.length : Nat) : Int) ≤ 68 + r0) := by
    have h1 := HON.out
    rw [← HXM.out, List.length_map, ← HN.out, HQL.out] at h1
    exact h1
  obtain ⟨Z, hZ⟩ : ∃ Z : Nat, Z = 20 + q.o.length + q.d.length := ⟨_, rfl⟩
  have KB : Hid (∀ W, Away [] w4 W → Calls Tryd.prog 13 #[.agg (csP q qo qd)] W fun E w' => E = .returned (.int .i64 (Z : Int)) ∧ Away [] W w') := fun W hW => by rw [hZ]; exact bytes_c q qo qd W (HQ.out.on hW)
  rw [← hZ] at HO1N
  have HZ := Lib.hid hZ
  clear hZ
  have z0 : ¬ ((n : Int) = 0) := by omega
  have y0 : ((n : Int) == 0) = false := by simpa using z0
  go_upto_region 4 with fail
  go_cut [50] (fun v wc => v = .bool false ∧ Away [] w4 wc)
  case first =>
    as_aux_lemma =>
    go_wp2_with fail
    refine (R.known_c _ HG.out).mono ?_
    rintro E w5 ⟨rfl, haw⟩
    have HA5 := Lib.hid haw
    replace HB := Lib.hid (HB.out.on haw)
    clear haw
    by_cases h1 : n = 1
    · have h2 := HO1N.out.1 h1
      have b1 : ((n : Int) == 1) = true := by simp; omega
      have b2 : decide ((Z : Int) ≤ 68 + r0) = true := by simpa using h2
      clear h1 h2
      go_wp2_with (refine wpList_load28 rfl _ rfl g7 rfl q _ _ (by exact HB.out) HQA.out ?_)
      refine (KB.out _ HA5.out).mono ?_
      rintro E w6 ⟨rfl, haw⟩
      replace HA5 := Lib.hid (HA5.out.on haw)
      clear haw
      go_wp2_with fail
      go_meet
      exact ⟨rfl, HA5.out⟩
    · have h2 : ¬ ((Z : Int) ≤ 68 + r0) := fun h => h1 (HO1N.out.2 h)
      have z1 : ¬ ((n : Int) = 1) := by omega
      have b1 : ((n : Int) == 1) = false := by simpa using z1
      have b2 : decide ((Z : Int) ≤ 68 + r0) = false := by simpa using h2
      go_wp2_with (refine wpList_load28 rfl _ rfl g7 rfl q _ _ (by exact HB.out) HQA.out ?_)
      refine (KB.out _ HA5.out).mono ?_
      rintro E w6 ⟨rfl, haw⟩
      replace HA5 := Lib.hid (HA5.out.on haw)
      clear haw
      go_wp2_with fail
      go_meet
      exact ⟨rfl, HA5.out⟩
  case rest =>
  obtain ⟨rfl, haw⟩ := hcut
  replace HA := Lib.hid (HA.out.on haw)
  replace HG := Lib.hid (HG.out.on haw)
  replace HO := Lib.hid (HO.out.on haw)
  replace HQ := Lib.hid (HQ.out.on haw)
  replace HB := Lib.hid (HB.out.on haw)
  replace HXP := Lib.hid (HXP.out.on haw)
  clear haw KB
  obtain ⟨w6, hw6⟩ : ∃ z, z = wc := ⟨_, rfl⟩
  rw [← hw6] at HA HG HO HQ HB HXP ⊢
  clear hw6
  go_wp2_with fail
  go_loopw [10] (fun i wr => ∃ k : Nat, i = .int .i64 (k : Int) ∧ k ≤ n ∧ Away [] w6 wr) (fun i _ => n - (intOf i).toNat)
  case atStart => exact ⟨0, rfl, by omega, Away.refl _ _⟩
  case round =>
    obtain ⟨k, rfl, hk, haw⟩ := hrel
    have HAW := Lib.hid haw
    clear haw
    by_cases hlt : k < n
    · obtain ⟨x, hxk, hxm⟩ := get_of (show k < xs.length by have := HN.out; omega)
      obtain ⟨xb, xo, hxa, hrx, hokx⟩ := (HXP.out.on HAW.out).at hxk
      subst hxa
      have HRX : Hid (wr.rangeAt xb (xo + k * 46) (listP x.p x.o x.d)) := hrx
      have HOK : Hid (Pkt wr x.p x.o x.d) := hokx
      have HAX := Lib.hid hokx.wf.ad
      have HXK : Hid (l0[k]? = some x.p) := by show _ = _; rw [← HXM.out, List.getElem?_map, hxk]; rfl
      have HKX := Lib.hid (HREF.out.ref.kin x.p (List.mem_of_getElem? HXK.out))
      have HLL : Hid (l0.length = n) := by show _ = _; rw [← HXM.out, List.length_map, ← HN.out]
      clear hxk hxm hrx hokx
      have i2 : 0 ≤ (k : Int) := by omega
      have i3 : (k : Int) < (n : Int) := by omega
      have i4 : ((k : Int)).toNat = k := by omega
      obtain ⟨Y, hY⟩ : ∃ Y : Nat, Y = 20 + x.p.o.length + x.p.d.length := ⟨_, rfl⟩
      have hfit : (Y : Int) ≤ 68 + r0 := by
        have h1 := HREF.out.fit x.p (List.mem_of_getElem? HXK.out)
        rw [kin_long HKX.out HQV.out, ← hY] at h1
        exact h1
      have hful : k + 1 < n → 68 + r0 < (Y : Int) + 8 := fun h => by
        have h1 := (HFU.out k x.p HXK.out (by rw [HLL.out]; exact h)).1
        omega
      have hdat : 0 < k → x.p.d.length ≠ 0 := fun h => ref_data HREF.out.ref HQV.out HXK.out h
      obtain ⟨da, dc, hxd, -⟩ := HOK.out.d
      obtain ⟨DL, hDL⟩ : ∃ DL, DL = x.p.d.length := ⟨_, rfl⟩
      rw [← hDL] at hxd hdat
      have HXD := Lib.hid hxd
      have HFL := Lib.hid hful
      have HDT := Lib.hid hdat
      clear hxd hful hdat hDL
      have KY := Lib.hid (bytes_c x.p x.o x.d wr HOK.out)
      rw [← hY] at KY
      clear hY
      have b1 : decide (68 + r0 < (Y : Int)) = false := by simp; omega
      have e8 : wrap64 ((Y : Int) + 8) = (Y : Int) + 8 := by unfold wrap64; omega
      clear hfit
      go_wp2_with (refine wpList_load28m rfl _ rfl xb (xo + k * 46) rfl x.p x.o x.d (by exact HRX.out) HAX.out ?_)
      refine KY.out.mono ?_
      rintro E y1 ⟨rfl, haw⟩
      replace HRX := Lib.hid (range_away haw (by simp) HRX.out)
      replace HAW := Lib.hid (HAW.out.on haw)
      clear haw KY HOK
      have c45 : y1.cell? ⟨xb, xo + k * 46 + 45, none⟩ = some (.slice da DL dc) := by
        rw [← HXD.out]
        exact HRX.out 45 _ (by have h45 : (listP x.p x.o x.d)[45]? = some x.d := listP_d HAX.out; exact h45)
      go_upto_region 10 with fail
      go_cut [90] (fun v wc => v = .bool false ∧ wc = y1)
      case first =>
        as_aux_lemma =>
        by_cases hl : k + 1 < n
        · have hf := HFL.out hl
          have n2 : ¬ ((Y : Int) + 8 ≤ 68 + r0) := by omega
          have b2 : decide ((Y : Int) + 8 ≤ 68 + r0) = false := by simpa using n2
          have n3 : (k : Int) < (n : Int) - 1 := by omega
          have b3 : decide ((k : Int) < (n : Int) - 1) = true := by simpa using n3
          by_cases h0 : 0 < k
          · have hd := HDT.out h0
            have n4 : (0 : Int) < (k : Int) := by omega
            have b4 : decide ((0 : Int) < (k : Int)) = true := by simpa using n4
            have n5 : ¬ ((DL : Int) = 0) := by omega
            have b5 : ((DL : Int) == 0) = false := by simpa using n5
            go_wp2_with fail
            go_meet
            exact ⟨rfl, rfl⟩
          · obtain rfl : k = 0 := by omega
            go_wp2_with fail
            go_meet
            exact ⟨rfl, rfl⟩
        · have n3 : ¬ ((k : Int) < (n : Int) - 1) := by omega
          have b3 : decide ((k : Int) < (n : Int) - 1) = false := by simpa using n3
          by_cases h0 : 0 < k
          · have hd := HDT.out h0
            have n4 : (0 : Int) < (k : Int) := by omega
            have b4 : decide ((0 : Int) < (k : Int)) = true := by simpa using n4
            have n5 : ¬ ((DL : Int) = 0) := by omega
            have b5 : ((DL : Int) == 0) = false := by simpa using n5
            go_wp2_with fail
            go_meet
            exact ⟨rfl, rfl⟩
          · obtain rfl : k = 0 := by omega
            go_wp2_with fail
            go_meet
            exact ⟨rfl, rfl⟩
      case rest =>
      obtain ⟨rfl, hwc⟩ := hcut
      replace hwc := hwc.symm
      subst hwc
      clear c45
      go_wp2_with fail
      go_roundw
      case rel => exact ⟨k + 1, by go_num, by omega, HAW.out⟩
      case measure => simp [intOf]; omega
    · obtain rfl : n = k := by omega
      replace HA := Lib.hid (HA.out.on HAW.out)
      replace HG := Lib.hid (HG.out.on HAW.out)
      replace HO := Lib.hid (HO.out.on HAW.out)
      replace HQ := Lib.hid (HQ.out.on HAW.out)
      replace HB := Lib.hid (HB.out.on HAW.out)
      replace HXP := Lib.hid (HXP.out.on HAW.out)
      clear HAW
      obtain ⟨w7, hw7⟩ : ∃ z, z = wr := ⟨_, rfl⟩
      rw [← hw7] at HA HG HO HQ HB HXP ⊢
      clear hw7
      obtain ⟨L, hL⟩ : ∃ L : Nat, L = min on 2000 := ⟨_, rfl⟩
      have hL2 : L ≤ 2000 := by omega
      have HIN : Hid (Ints w7 oa L) := fun i hi => HO.out i (by omega)
      have hslc := slice_h29 oa on oc L (L : Int) rfl (by omega)
      have HON2 : Hid (min (on : Int) 2000 = (L : Int)) := by show _ = _; omega
      have HLO : Hid (L ≤ on ∧ (L = on ∨ L = 2000)) := by show _ ∧ _; omega
      clear hL HO
      go_upto_region 14 with fail
      go_cut [2] (fun v wc => v = .slice oa L oc ∧ wc = w7)
      case first =>
        go_wp2_with fail
        all_goals (go_meet; exact ⟨congrArg (fun z => Value.slice oa z oc) (by have := HON2.out; omega), rfl⟩)
      case rest =>
      obtain ⟨rfl, hwc⟩ := hcut
      replace hwc := hwc.symm
      subst hwc
      clear hslc HON2 HLO
      obtain ⟨Dn, hDn⟩ : ∃ Dn, Dn = q.d.length := ⟨_, rfl⟩
      have hdn : Dn ≤ 65535 := by have := rgt_off HU.out; omega
      have hqf : 0 ≤ q.off ∧ q.off ≤ 65528 := by
        have hr := HU.out
        unfold rgtP at hr
        rw [if_neg (by rw [HQV.out]; decide), right_iff] at hr
        exact ⟨hr.1.o0, hr.1.o1⟩
      have HDN := Lib.hid hDn
      obtain ⟨qda, qdc, hqd, hqdc, hqdn, hqrow⟩ := HQ.out.d
      obtain ⟨qoa, qoc, hqo, hqoc, hqon, hqrowo⟩ := HQ.out.o
      rw [← hDn] at hqd hqdc
      have HQD := Lib.hid hqd
      have HQO := Lib.hid hqo
      have HQR := Lib.hid (And.intro hqdn hqrow)
      have HQP := Lib.hid (And.intro hqon hqrowo)
      have HQB : Hid (q.o.length ≤ 40) := by
        have hr := HU.out
        unfold rgtP at hr
        rw [if_neg (by rw [HQV.out]; decide), right_iff] at hr
        exact (valid_len hr.2).1
      clear hDn hqrow hqrowo hqd hqo hqdn hqon
      go_wp2_with fail
      go_loopw [12, 13, 14] (fun v av iv wr => ∃ (k n0 : Nat) (cs : List X), iv = .int .i64 (k : Int) ∧ k ≤ L ∧ av = .int .i64 (n0 : Int) ∧ cs.length = k ∧ Cuts wr w7.heap.size v cs ∧ Bld q (cs.map X.p) n0 ∧ (k = L → L = 0 ∨ n0 = Dn) ∧ (0 < k → 0 < n0) ∧ Away [] w7 wr) (fun _ _ i _ => L - (intOf i).toNat)
      case atStart => exact ⟨0, 0, [], rfl, by omega, rfl, rfl, Cuts.nil _ _, Bld.nil q, fun h => .inl h.symm, fun h => absurd h (by omega), Away.refl _ _⟩
      case round =>
        obtain ⟨k, n0, cs, rfl, hk, rfl, hcl, hcu, hbd, hfin, hkn, haw⟩ := hrel
        have HKN := Lib.hid hkn
        clear hkn
        have HCU := Lib.hid hcu; have HBD := Lib.hid hbd; have HFI := Lib.hid hfin; have HAW := Lib.hid haw; have HCL := Lib.hid hcl
        have hle : n0 ≤ Dn := by have := hbd.le; have := HDN.out; omega
        clear hcu hbd hfin haw hcl
        have c45 : wr.cell? ⟨g7, 45, none⟩ = some (.slice qda Dn qdc) := by rw [← HQD.out]; exact ((HB.out.on HAW.out).cells HQA.out).d
        by_cases hgo : k < L ∧ n0 < Dn
        · as_aux_lemma =>
          obtain ⟨hg1, hg2⟩ := hgo
          have i5 : (k : Int) < (L : Int) := by omega
          have i6 : (n0 : Int) < (Dn : Int) := by omega
          have KO := Lib.hid (lown_c q qo qd wr (HQ.out.on HAW.out))
          have HBr := Lib.hid (HB.out.on HAW.out)
          go_wp2_with (refine wpList_load28 rfl _ rfl g7 rfl q _ _ (by exact HBr.out) HQA.out ?_)
          refine KO.out.mono ?_
          rintro E y1 ⟨po, pd, rfl, hmine, haw1⟩
          have HMI := Lib.hid hmine
          have HP1 := Lib.hid hmine.o.one; have HP2 := Lib.hid hmine.d.one
          have HAR := Lib.hid haw1
          clear hmine haw1 KO c45
          go_wp2_with (refine wpList_new28 rfl rfl rfl _ _ rfl q po pd (fun g => rfl) (fun g => rfl) HQA.out HP1.out HP2.out ?_; refine Hid.out ?_)
          refine Lib.hid ?_
          intro g15 y2 hg15 hb haw
          have HBX : Hid (Bx wr.heap.size y2 g15 q po pd) := ⟨hb, HMI.out.o.away haw (by simp), HMI.out.d.away haw (by simp), HMI.out.no, HMI.out.nd, HMI.out.ap, fun z hz e => by have := HMI.out.o.lt z hz; omega, fun z hz e => by have := HMI.out.d.lt z hz; omega, Nat.le_trans HAR.out.size hg15, HQA.out⟩
          replace HAR := Lib.hid (HAR.out.on haw)
          clear hb haw hg15 HMI HBr HP1 HP2
          obtain ⟨O, hO⟩ : ∃ O, O = if k = 0 then q.o else carryP q.o := ⟨_, rfl⟩
          have HOO := Lib.hid hO
          have HCV := Lib.hid (carry_valid HQW.out.o)
          clear hO
          go_upto_if 112 with fail
          go_cut [] (fun wc => ∃ oo, Bx wr.heap.size wc g15 { q with o := O } oo pd ∧ Away [] wr wc)
          case first =>
            as_aux_lemma =>
            by_cases h0 : k = 0
            · subst h0
              have hO : O = q.o := by rw [HOO.out]; rfl
              subst hO
              go_wp2_with fail
              go_meet
              exact ⟨po, HBX.out, HAR.out⟩
            · have hO : O = carryP q.o := by rw [HOO.out, if_neg h0]
              have n4 : (0 : Int) < (k : Int) := by omega
              clear h0 hk hle hdn hL2 hqf hqdc hg1 hg2 i5 i6 hxl hx4 hr1 hn0 hol
              have HQC := Lib.hid hqoc
              clear hqoc
              have HY2 : Hid (Away [] w7 y2) := HAW.out.on HAR.out
              have c44 : y2.cell? ⟨g7, 44, none⟩ = some (.slice qoa q.o.length qoc) := by rw [← HQO.out]; exact ((HB.out.on HY2.out).cells HQA.out).o
              have HO2 := Lib.hid hO
              clear hO
              have hrow2 : Row y2 qoa q.o := HQP.out.2.on HY2.out
              have hglb2 : Glob y2 := HG.out.on HY2.out
              have KC : Hid (Calls Tryd.prog 15 #[.slice qoa q.o.length qoc] y2 fun E w' => S4.BytesOut y2 (carryP q.o) E w') := S4.carry_c qoa q.o q.o.length qoc y2 rfl HQC.out hrow2 hglb2
              clear hrow2 hglb2
              go_wp2_with fail
              refine KC.out.mono ?_
              rintro E y3 ⟨cv, rfl, hown, hnew, haw⟩
              have HB3 := Lib.hid (HBX.out.on haw)
              have HAR3 := Lib.hid (HAR.out.on haw)
              have hl1 := HBX.out.box.lt
              have HNW : Hid (∀ z, cv.ownBlock = some z → wr.heap.size ≤ z ∧ z ≠ g15 ∧ pd.ownBlock ≠ some z) := fun z hz => by
                have h1 := hnew z hz
                have h2 := HAR.out.size
                exact ⟨by omega, by omega, fun e => by have h3 := HBX.out.d.lt z e; omega⟩
              rw [← HO2.out] at hown
              have HOW := Lib.hid hown
              obtain ⟨x1, x2, x3, rfl⟩ := hown.shp
              have HB4 := Lib.hid (HB3.out.setO HOW.out HNW.out)
              have HAR4 : Hid (Away [] wr (y3.setCell ⟨g15, 44, none⟩ (.slice x1 x2 x3))) := HAR3.out.next (away_put (g := g15) 44 _) (fun z hz => .inr (by simp at hz; rw [hz]; exact HB3.out.gb))
              have s44 := (HB3.out.box.cells HB3.out.ad).o
              have t44 := HB3.out.box.free 44
              clear hown hnew haw KC c44
              go_wp2_with fail
              go_meet
              exact ⟨_, HB4.out, HAR4.out⟩
          case rest =>
          obtain ⟨oo, hbx, har⟩ := hcut
          have HBX2 := Lib.hid hbx
          have HAR2 := Lib.hid har
          clear hbx har HBX HAR
          have HOV : Hid (Bytes O ∧ O.length ≤ 40 ∧ O.length ≤ q.o.length) := by
            have h1 := HQB.out; have h2 := HCV.out
            show _ ∧ _ ∧ _
            rw [HOO.out]
            split
            · exact ⟨HQW.out.o, h1, Nat.le_refl _⟩
            · exact ⟨h2.2.2.1, h2.2.2.2, h2.2.1⟩
          obtain ⟨ooa, ooc, hoo, -⟩ := HBX2.out.o.sl HOV.out.1 (by have := HOV.out.2.1; show O.length ≤ _; omega)
          have hoo' : oo = .slice ooa O.length ooc := hoo
          obtain ⟨OL, hOL⟩ : ∃ OL, OL = O.length := ⟨_, rfl⟩
          rw [← hOL] at hoo'
          have hOL2 : OL ≤ 40 := by have := HOV.out.2.1; omega
          subst hoo'
          clear hoo hOL
          obtain ⟨ib, io, z, hia, hcell, hz⟩ := (HIN.out.on (HAW.out.on HAR2.out)) k hg1
          subst hia
          obtain ⟨r, hr⟩ : ∃ r : Nat, (r : Int) = z % (200 + 1) := ⟨(z % (200 + 1)).toNat, by omega⟩
          have hr2 : r ≤ 200 := by omega
          have KR2 : Hid (∀ w', Calls Tryd.prog 9 #[.int .i64 z, .int .i64 200] w' fun E w'' => E = .returned (.int .i64 (r : Int)) ∧ w'' = w') := fun w' => by rw [hr]; exact rest_c _ _ w' hz (by omega) (by omega)
          clear hr hz
          have i2 : 0 ≤ (k : Int) := by omega
          have i4 : ((k : Int)).toNat = k := by omega
          go_wp2_with fail
          refine (KR2.out _).mono ?_
          rintro E wq ⟨rfl, hwq⟩
          replace hwq := hwq.symm
          subst hwq
          clear KR2 hcell
          have c44 := (HBX2.out.box.cells HBX2.out.ad).o
          obtain ⟨N1, hN1⟩ : ∃ N1 : Nat, (N1 : Int) = min (8 * (1 + (r : Int))) ((68 + r0 - 20 - (OL : Int)) / 8 * 8) := ⟨(min (8 * (1 + (r : Int))) ((68 + r0 - 20 - (OL : Int)) / 8 * 8)).toNat, by omega⟩
          have hN2 : 8 ≤ N1 ∧ N1 % 8 = 0 ∧ N1 ≤ 1608 := by omega
          have hnn : 0 ≤ 68 + r0 - 20 - (OL : Int) := by omega
          go_upto_region 22 with fail
          go_cut [16] (fun v wx => v = .int .i64 (N1 : Int) ∧ wx = wc)
          case first =>
            go_wp2_with fail
            all_goals (go_meet; exact ⟨congrArg (Value.int .i64) (by omega), rfl⟩)
          case rest =>
          obtain ⟨rfl, hwc⟩ := hcut
          replace hwc := hwc.symm
          subst hwc
          clear c44 hN1 hnn
          have HYC : Hid (Away [] w7 wc) := HAW.out.on HAR2.out
          have c45 : wc.cell? ⟨g7, 45, none⟩ = some (.slice qda Dn qdc) := by rw [← HQD.out]; exact ((HB.out.on HYC.out).cells HQA.out).d
          obtain ⟨bl, hbl⟩ : ∃ bl, bl = decide (Dn ≤ n0 + N1 ∨ k + 1 = L) := ⟨_, rfl⟩
          have HBL := Lib.hid hbl
          clear hbl
          go_upto_region 23 with fail
          go_cut [147] (fun v wx => v = .bool bl ∧ wx = wc)
          case first =>
            by_cases h1 : Dn ≤ n0 + N1
            · have hb : bl = true := by rw [HBL.out]; simp [h1]
              subst hb
              have n1 : (Dn : Int) ≤ (n0 : Int) + (N1 : Int) := by omega
              have b1 : decide ((Dn : Int) ≤ (n0 : Int) + (N1 : Int)) = true := by simpa using n1
              go_wp2_with fail
              go_meet
              exact ⟨rfl, rfl⟩
            · have n1 : ¬ ((Dn : Int) ≤ (n0 : Int) + (N1 : Int)) := by omega
              have b1 : decide ((Dn : Int) ≤ (n0 : Int) + (N1 : Int)) = false := by simpa using n1
              by_cases h2 : k + 1 = L
              · have hb : bl = true := by rw [HBL.out]; simp [h2]
                subst hb
                have n2 : (k : Int) = (L : Int) - 1 := by omega
                have b2 : ((k : Int) == (L : Int) - 1) = true := by simpa using n2
                clear n2 h2
                go_wp2_with fail
                go_meet
                exact ⟨rfl, rfl⟩
              · have hb : bl = false := by rw [HBL.out]; simp [h2]; omega
                subst hb
                have n2 : ¬ ((k : Int) = (L : Int) - 1) := by omega
                have b2 : ((k : Int) == (L : Int) - 1) = false := by simpa using n2
                clear h2
                go_wp2_with fail
                go_meet
                exact ⟨rfl, rfl⟩
          case rest =>
          obtain ⟨rfl, hwc⟩ := hcut
          replace hwc := hwc.symm
          subst hwc
          go_upto_if 147 with fail
          go_cut [16] (fun v wx => ∃ S : Nat, v = .int .i64 (S : Int) ∧ 0 < S ∧ n0 + S ≤ Dn ∧ (n0 + S < Dn → S % 8 = 0) ∧ (k + 1 = L → n0 + S = Dn) ∧ wx = wc)
          case first =>
            cases bl with
            | true =>
              go_wp2_with fail
              go_meet
              exact ⟨Dn - n0, congrArg (Value.int .i64) (by omega), by omega, by omega, fun h => by omega, fun _ => by omega, rfl⟩
            | false =>
              have hbf := HBL.out.symm
              simp only [decide_eq_false_iff_not, not_or] at hbf
              have HBF := Lib.hid hbf
              clear hbf
              go_wp2_with fail
              go_meet
              exact ⟨N1, rfl, by omega, by have := HBF.out.1; omega, fun _ => hN2.2.1, fun h => absurd h HBF.out.2, rfl⟩
          case rest =>
          obtain ⟨S, rfl, hS0, hS1, hS8, hSL, hwc⟩ := hcut
          replace hwc := hwc.symm
          subst hwc
          have HS8 := Lib.hid hS8; have HSL := Lib.hid hSL
          clear hS8 hSL hN2 HBL
          have c43 := ((HB.out.on HYC.out).cells HQA.out).off
          have s43 := (HBX2.out.box.cells HBX2.out.ad).off
          have t43 := HBX2.out.box.free 43
          have e43 : wrap64 (q.off + (n0 : Int)) = q.off + (n0 : Int) := by unfold wrap64; omega
          have HBX3 := Lib.hid (HBX2.out.fld 43 (.int .i64 (q.off + (n0 : Int))) ((csP_set HBX2.out.ad _ _).2.2.2.2.2.2.2.2.2.2.2.1 (q.off + (n0 : Int))) HBX2.out.ad rfl rfl)
          have HAR3 : Hid (Away [] wr (wc.setCell ⟨g15, 43, none⟩ (.int .i64 (q.off + (n0 : Int))))) := HAR2.out.next (away_put (g := g15) 43 _) (fun z hz => .inr (by simp at hz; rw [hz]; exact HBX2.out.gb))
          go_upto_region 26 with fail
          generalize wc.setCell ⟨g15, 43, none⟩ (.int .i64 (q.off + (n0 : Int))) = w43 at *
          clear c43 s43 t43 e43 c45 HYC
          have HYC : Hid (Away [] w7 w43) := HAW.out.on HAR3.out
          have c45 : w43.cell? ⟨g7, 45, none⟩ = some (.slice qda Dn qdc) := by rw [← HQD.out]; exact ((HB.out.on HYC.out).cells HQA.out).d
          obtain ⟨A, hA⟩ : ∃ A, A = if qdc = n0 then qda else qda.map (·.add n0) := ⟨_, rfl⟩
          have hsl := slice_lh qda A Dn qdc n0 S (n0 : Int) ((n0 : Int) + (S : Int)) hA rfl rfl (by omega)
          have HDS : Hid (((q.d.drop n0).take S).length = S) := by show _ = _; rw [List.length_take, List.length_drop, ← HDN.out]; omega
          have HSD : Hid (Sl w43 (.slice A S (qdc - n0)) ((q.d.drop n0).take S)) := by
            refine ⟨A, qdc - n0, by rw [HDS.out], by rw [HDS.out]; omega, fun e => ?_, ?_⟩
            · by_cases hc : qdc = n0
              · omega
              · rw [hA, if_neg hc] at e
                have : qda = none := by cases qda <;> simp_all
                have := HQR.out.1 this
                omega
            · rw [hA]
              exact (HQR.out.2.on HYC.out).sub n0 S qdc (by rw [← HDN.out]; exact hqdc) (by rw [← HDN.out]; omega)
          clear hA
          go_wp2_with (at_builtin; refine wpList_appAny rfl _ _ rfl (.slice none 0 0) [] ((q.d.drop n0).take S) rfl (Owns.nil _) (.slice A S (qdc - n0)) rfl (by exact HSD.out) (by rw [HDS.out]; simp; omega) ?_; refine Hid.out ?_)
          refine Lib.hid ?_
          intro v8 w8 hown haway hmoved hsz
          have ha8 : Away [] w43 w8 := haway [] _ (Away.refl _ _) (by simp [Value.ownBlock])
          have hown8 : Owns w8 v8 ((q.d.drop n0).take S) := by simpa using hown
          have hn8 : ∀ z, v8.ownBlock = some z → w43.heap.size ≤ z := fun z hz => by rcases hmoved z hz with h | h; simp [Value.ownBlock] at h; exact h
          have HB8 := Lib.hid (HBX3.out.on ha8)
          have HNW : Hid (∀ z, v8.ownBlock = some z → wr.heap.size ≤ z ∧ z ≠ g15 ∧ (Value.slice ooa OL ooc).ownBlock ≠ some z) := fun z hz => by
            have h1 := hn8 z hz
            have h2 := HAR3.out.size
            have h3 := HBX3.out.box.lt
            exact ⟨by omega, by omega, fun e => by have h4 := HBX3.out.o.lt z e; omega⟩
          have HOW := Lib.hid hown8
          obtain ⟨x1, x2, x3, rfl⟩ := hown8.shp
          have HBX4 := Lib.hid (HB8.out.setD HOW.out HNW.out)
          have HAR4 : Hid (Away [] wr (w8.setCell ⟨g15, 45, none⟩ (.slice x1 x2 x3))) := (HAR3.out.on ha8).next (away_put (g := g15) 45 _) (fun z hz => .inr (by simp at hz; rw [hz]; exact HB8.out.gb))
          have s45 := (HB8.out.box.cells HB8.out.ad).d
          have t45 := HB8.out.box.free 45
          clear hown haway hmoved hsz ha8 hown8 hn8 HSD hsl c45 HYC HBX3 HAR3
          go_upto_region 27 with fail
          generalize w8.setCell ⟨g15, 45, none⟩ (.slice x1 x2 x3) = w45 at *
          clear s45 t45 HB8
          have HYD : Hid (Away [] w7 w45) := HAW.out.on HAR4.out
          have c45 : w45.cell? ⟨g7, 45, none⟩ = some (.slice qda Dn qdc) := by rw [← HQD.out]; exact ((HB.out.on HYD.out).cells HQA.out).d
          obtain ⟨qm, hqm⟩ : ∃ b, b = q.more := ⟨_, rfl⟩
          have c41 : w45.cell? ⟨g7, 41, none⟩ = some (.bool qm) := by rw [hqm]; exact ((HB.out.on HYD.out).cells HQA.out).more
          have s41 := (HBX4.out.box.cells HBX4.out.ad).more
          have t41 := HBX4.out.box.free 41
          obtain ⟨bm, hbm⟩ : ∃ bm, bm = (decide (n0 + S < Dn) || qm) := ⟨_, rfl⟩
          have HBM := Lib.hid hbm
          have HQM := Lib.hid hqm
          clear hbm hqm
          have eat : wrap64 ((n0 : Int) + (S : Int)) = (n0 : Int) + (S : Int) := by unfold wrap64; omega
          have hbp : n0 + S < Dn → bm = true ∧ (n0 : Int) + (S : Int) < (Dn : Int) ∧ decide ((n0 : Int) + (S : Int) < (Dn : Int)) = true := fun h => ⟨by rw [HBM.out]; simp [h], ltc h, by simpa using ltc h⟩
          have hbn : ¬ (n0 + S < Dn) → bm = qm ∧ ¬ ((n0 : Int) + (S : Int) < (Dn : Int)) ∧ decide ((n0 : Int) + (S : Int) < (Dn : Int)) = false := fun h => ⟨by rw [HBM.out]; simp [h], nltc h, by simpa using nltc h⟩
          have HBP := Lib.hid hbp
          have HBN := Lib.hid hbn
          clear hbp hbn
          have HBX5 := Lib.hid (HBX4.out.fld 41 (.bool bm) ((csP_set HBX4.out.ad _ _).2.2.2.2.2.2.2.2.2.1 bm) HBX4.out.ad rfl rfl)
          have HAR5 : Hid (Away [] wr (w45.setCell ⟨g15, 41, none⟩ (.bool bm))) := HAR4.out.next (away_put (g := g15) 41 _) (fun z hz => .inr (by simp at hz; rw [hz]; exact HBX4.out.gb))
          go_upto_region 28 with fail
          simp only [eat]
          go_cut [] (fun wx => wx = w45.setCell ⟨g15, 41, none⟩ (.bool bm))
          case first =>
            as_aux_lemma =>
            by_cases h1 : n0 + S < Dn
            · obtain ⟨hb, n1, b1⟩ := HBP.out h1
              subst hb
              go_wp2_with fail
              go_meet
              with_reducible rfl
            · obtain ⟨hb, n1, b1⟩ := HBN.out h1
              subst hb
              go_wp2_with fail
              go_meet
              with_reducible rfl
          case rest =>
          replace hcut := hcut.symm
          subst hcut
          generalize w45.setCell ⟨g15, 41, none⟩ (.bool bm) = w41 at *
          clear c45 c41 s41 t41 HYD HAR4 HBX4 HBP HBN
          have HB6 : Hid (Bx wr.heap.size w41 g15 (pcX q O n0 ((q.d.drop n0).take S) bm) (.slice ooa OL ooc) (.slice x1 x2 x3)) := by
            have h := HBX5.out
            have e : q.off + (n0 : Int) = (n0 : Int) + q.off := Int.add_comm _ _
            rw [e] at h
            exact h
          have HBD2 : Hid (Bld q (cs.map X.p ++ [pcX q O n0 ((q.d.drop n0).take S) bm]) (n0 + S)) := HBD.out.snoc HQW.out HU.out HQV.out (by rw [← HDN.out]; exact hg2) hS0 (by rw [← HDN.out]; exact hS1) (by rw [← HDN.out]; exact HS8.out) (by rw [List.length_map, HCL.out]; exact HOO.out) (by rw [HBM.out, HQM.out, HDN.out])
          obtain ⟨PQ, hPQ⟩ : ∃ PQ, PQ = pcX q O n0 ((q.d.drop n0).take S) bm := ⟨_, rfl⟩
          rw [← hPQ] at HB6 HBD2
          clear hPQ HBX5
          have HPW := Lib.hid (HBD2.out.kin PQ (by simp)).wf
          have HPA := Lib.hid HPW.out.ad
          have HLT : Hid (∀ y ∈ cs, ∀ z, y.o.ownBlock = some z ∨ y.d.ownBlock = some z → z < wr.heap.size) := fun y hy z hz => ((HCU.out.each y hy).2.lto z hz).1
          have HVL : Hid (∀ z, u12.ownBlock = some z → z < wr.heap.size) := HCU.out.lst.lt
          have hsw := HAW.out.size
          go_wp2_with (first
            | (refine wpList_load28 rfl _ rfl g15 rfl PQ _ _ (by exact HB6.out.box) HPA.out ?_)
            | (refine wpList_build28 rfl _ rfl PQ (.slice ooa OL ooc) (.slice x1 x2 x3) rfl HPA.out ?_; refine Hid.out ?_))
          refine Lib.hid ?_
          intro gq y5 hgq hbq haw
          replace HB6 := Lib.hid (HB6.out.on haw)
          have HAR6 := Lib.hid (HAR5.out.on haw)
          have HCU1 := Lib.hid (HCU.out.on HAR6.out)
          have HBQ := Lib.hid hbq
          have hs6 := HAR6.out.size
          clear haw hbq
          go_wp2_with (at_builtin; refine wpList_appP rfl _ _ rfl _ cs rfl (by exact HCU1.out.lst) gq 1 rfl PQ _ _ (by exact HBQ.out) HPA.out rfl rfl (by rw [HCL.out]; omega) ?_; refine Hid.out ?_)
          refine Lib.hid ?_
          intro v' y6 hl3 hgr hmv
          have HCU3 : Hid (Cuts y6 w7.heap.size v' (cs ++ [⟨PQ, .slice ooa OL ooc, .slice x1 x2 x3⟩])) := HCU1.out.snoc ⟨HPW.out, HB6.out.mine.mono hsw⟩ (fun y hy z hz => by
            have h1 := HLT.out y hy z hz
            exact ⟨fun e => by have := HB6.out.no z e; omega, fun e => by have := HB6.out.nd z e; omega⟩) (fun z hz e => by
            have h2 := HVL.out z e
            rcases hz with hz | hz
            · have := HB6.out.no z hz; omega
            · have := HB6.out.nd z hz; omega) hl3 hgr hmv (by omega)
          have HA3 : Hid (Away [] w7 y6) := (HAW.out.on HAR6.out).grown hgr (fun z hz => .inr (HCU1.out.new z hz))
          have HBD3 : Hid (Bld q ((cs ++ [(⟨PQ, .slice ooa OL ooc, .slice x1 x2 x3⟩ : X)]).map X.p) (n0 + S)) := by
            show Bld _ _ _
            rw [List.map_append]; exact HBD2.out
          clear hl3 hgr hmv
          go_wp2_with fail
          go_roundw
          case rel => exact ⟨k + 1, n0 + S, _, by go_num, by omega, by go_num, by rw [List.length_append, HCL.out]; rfl, HCU3.out, HBD3.out, fun h => .inr (HSL.out h), fun _ => Nat.lt_of_lt_of_le hS0 (Nat.le_add_left _ _), HA3.out⟩
          case measure => simp [intOf]; omega
        · as_aux_lemma =>
          have HEND : Hid (cs = [] ∨ n0 = Dn) := by
            show _ ∨ _
            by_cases hkl : k < L
            · exact .inr (by omega)
            · rcases HFI.out (by omega) with h | h
              · exact .inl (List.eq_nil_of_length_eq_zero (by rw [HCL.out]; omega))
              · exact .inr h
          go_upto_region 16 with fail
          go_cut [106] (fun v wx => v = .bool false ∧ wx = wr)
          case first =>
            by_cases hkl : k < L
            · have n1 : (k : Int) < (L : Int) := by omega
              have n2 : ¬ ((n0 : Int) < (Dn : Int)) := by omega
              have b2 : decide ((n0 : Int) < (Dn : Int)) = false := by simpa using n2
              clear hgo
              go_wp2_with fail
              go_meet
              exact ⟨rfl, rfl⟩
            · have n1 : ¬ ((k : Int) < (L : Int)) := by omega
              clear hgo
              go_wp2_with fail
              go_meet
              exact ⟨rfl, rfl⟩
          case rest =>
          obtain ⟨rfl, hwc⟩ := hcut
          replace hwc := hwc.symm
          subst hwc
          clear hgo c45
          obtain ⟨ca, cc, hcv, -, -, hcp, -⟩ := HCU.out.pks (by rw [HCL.out]; omega)
          rw [HCL.out] at hcv
          have HCP := Lib.hid hcp
          subst hcv
          clear hcp
          have HSZ : Hid (∀ (j : Nat) (x : X), cs[j]? = some x → longP x.p = ((20 + x.p.o.length + x.p.d.length : Nat) : Int)) := fun j x hx => kin_long (HBD.out.kin x.p (List.mem_map.2 ⟨x, List.mem_of_getElem? hx, rfl⟩)) HQV.out
          go_upto_region 30 with fail
          go_cut [17] (fun v wx => v = .bool (decide (0 < k)) ∧ wx = wr)
          case first =>
            by_cases h0 : 0 < k
            · have n1 : (0 : Int) < (k : Int) := by omega
              have b1 : decide ((0 : Int) < (k : Int)) = true := by simpa using n1
              go_wp2_with fail
              go_meet
              exact ⟨congrArg Value.bool (by simp; omega), rfl⟩
            · obtain rfl : k = 0 := by omega
              go_wp2_with fail
              go_meet
              exact ⟨rfl, rfl⟩
          case rest =>
          obtain ⟨rfl, hwc⟩ := hcut
          replace hwc := hwc.symm
          subst hwc
          obtain ⟨b0, hb0⟩ : ∃ b, b = decide (0 < k) := ⟨_, rfl⟩
          rw [← hb0]
          have HB0 := Lib.hid hb0
          clear hb0
          go_wp2_with fail
          go_loopw [17, 18] (fun fv iv wq => ∃ (j : Nat) (b : Bool), iv = .int .i64 (j : Int) ∧ j ≤ k ∧ fv = .bool b ∧ (b = true ↔ 0 < k ∧ ∀ (i : Nat) (x : X), i < j → cs[i]? = some x → longP x.p ≤ 68 + r0) ∧ Away [] wr wq) (fun _ i _ => k - (intOf i).toNat)
          case atStart => exact ⟨0, b0, rfl, by omega, rfl, by rw [HB0.out]; simp, Away.refl _ _⟩
          case round =>
            obtain ⟨j, b, rfl, hj, rfl, hbi, hawq⟩ := hrel
            have HBI := Lib.hid hbi
            have HWQ := Lib.hid hawq
            clear hbi hawq
            by_cases hjk : j < k
            · obtain ⟨x, hxk, hxm⟩ := get_of (show j < cs.length by have := HCL.out; omega)
              obtain ⟨xb, xo, hxa, hrx, hokx⟩ := (HCP.out.on HWQ.out).at hxk
              subst hxa
              have HRX : Hid (wr.rangeAt xb (xo + j * 46) (listP x.p x.o x.d)) := hrx
              have HOK : Hid (Pkt wr x.p x.o x.d) := hokx
              have HAX := Lib.hid hokx.wf.ad
              have HXK := Lib.hid hxk
              clear hxk hxm hrx hokx
              have i2 : 0 ≤ (j : Int) := by omega
              have i3 : (j : Int) < (k : Int) := by omega
              have i4 : ((j : Int)).toNat = j := by omega
              have HBJ : Hid (∀ b' : Bool, (b' = true ↔ b = true ∧ longP x.p ≤ 68 + r0) → (b' = true ↔ 0 < k ∧ ∀ (i : Nat) (x : X), i < j + 1 → cs[i]? = some x → longP x.p ≤ 68 + r0)) := fun b' hb' => by
                rw [hb', HBI.out]
                constructor
                · rintro ⟨⟨h1, h2⟩, h3⟩
                  refine ⟨h1, fun i y hi hy => ?_⟩
                  by_cases he : i = j
                  · subst he
                    have := HXK.out
                    rw [hy] at this
                    simp only [Option.some.injEq] at this
                    rw [this]; exact h3
                  · exact h2 i y (by omega) hy
                · rintro ⟨h1, h2⟩
                  exact ⟨⟨h1, fun i y hi hy => h2 i y (by omega) hy⟩, h2 j x (by omega) HXK.out⟩
              cases b with
              | false =>
                have HF := Lib.hid (HBJ.out false (by simp))
                clear HBJ
                go_wp2_with fail
                go_roundw
                case rel => exact ⟨j + 1, false, by go_num, by omega, rfl, HF.out, HWQ.out⟩
                case measure => simp [intOf]; omega
              | true =>
                obtain ⟨Y, hY⟩ : ∃ Y : Nat, Y = 20 + x.p.o.length + x.p.d.length := ⟨_, rfl⟩
                have HLY : Hid (longP x.p = (Y : Int)) := by show _ = _; rw [hY]; exact HSZ.out j x HXK.out
                have KY := Lib.hid (bytes_c x.p x.o x.d wr HOK.out)
                rw [← hY] at KY
                clear hY
                go_wp2_with (refine wpList_load28m rfl _ rfl xb (xo + j * 46) rfl x.p x.o x.d (by exact HRX.out) HAX.out ?_)
                refine KY.out.mono ?_
                rintro E y1 ⟨rfl, haw⟩
                have HWQ2 := Lib.hid (HWQ.out.on haw)
                clear haw KY
                have HF := Lib.hid (HBJ.out (decide ((Y : Int) ≤ 68 + r0)) (by rw [HLY.out]; simp))
                clear HBJ
                go_wp2_with fail
                go_roundw
                case rel => exact ⟨j + 1, decide ((Y : Int) ≤ 68 + r0), by go_num, by omega, rfl, HF.out, HWQ2.out⟩
                case measure => simp [intOf]; omega
            · obtain rfl : j = k := by omega
              have HFB : Hid (b = true ↔ 0 < j ∧ ∀ z ∈ cs.map X.p, longP z ≤ 68 + r0) := by
                show _ ↔ _
                rw [HBI.out]
                refine and_congr_right fun _ => ⟨fun h z hz => ?_, fun h i x _ hx => h x.p (List.mem_map.2 ⟨x, List.mem_of_getElem? hx, rfl⟩)⟩
                obtain ⟨x, hx, rfl⟩ := List.mem_map.1 hz
                obtain ⟨i, hi⟩ := List.mem_iff_getElem?.1 hx
                exact h i x (by have := (List.getElem?_eq_some_iff.1 hi).1; have := HCL.out; omega) hi
              have HYE : Hid (Away [] w7 wr) := HAW.out.on HWQ.out
              have c45 : wr.cell? ⟨g7, 45, none⟩ = some (.slice qda Dn qdc) := by rw [← HQD.out]; exact ((HB.out.on HYE.out).cells HQA.out).d
              have HBr := Lib.hid (HB.out.on HYE.out)
              have KI := Lib.hid (R.is_c q qo qd (68 + r0) ca cs j cc wr HCL.out (HQ.out.on HYE.out) (HCP.out.on HWQ.out) (HG.out.on HYE.out))
              have HAE := Lib.hid (HA.out.on HYE.out)
              by_cases hD0 : Dn = 0
              · have hj0 : j = 0 := by
                  by_cases h : 0 < j
                  · have := HKN.out h; omega
                  · omega
                have hcs : cs = [] := List.eq_nil_of_length_eq_zero (by rw [HCL.out]; exact hj0)
                have hone : n = 1 := HO1N.out.2 (by have h1 := HZ.out; have h2 := HDN.out; have h3 := HQB.out; omega)
                have HI0 : Hid (isR q (68 + r0) (cs.map X.p) = false) := by show _ = _; rw [hcs]; rfl
                rw [HI0.out] at KI
                have b1 : ((n : Int) == 1) = true := by simp; omega
                have n2 : (Dn : Int) = 0 := by omega
                have b2 : ((Dn : Int) == 0) = true := by simpa using n2
                clear hone hj0 hcs n2 hD0
                go_wp2_with (refine wpList_load28 rfl _ rfl g7 rfl q _ _ (by exact HBr.out) HQA.out ?_)
                refine KI.out.mono ?_
                rintro E z1 ⟨rfl, haw⟩
                replace HAE := Lib.hid (HAE.out.on haw)
                clear haw KI
                go_wp2_with fail
                go_ret
                exact ⟨rfl, HAE.out.to_below⟩
              · have HIB : Hid (isR q (68 + r0) (cs.map X.p) = b ∧ (b = true → n ≤ j)) := by
                  show _ ∧ _
                  rcases HEND.out with hcs | hnd
                  · have hj0 : j = 0 := by rw [← HCL.out, hcs]; rfl
                    have hbf : b = false := by
                      rw [Bool.eq_false_iff]
                      intro h
                      have := (HFB.out.1 h).1
                      omega
                    rw [hbf, hcs]
                    exact ⟨rfl, by simp⟩
                  · have hne : cs.map X.p ≠ [] := HBD.out.ne (by omega)
                    have hbd : Bld q (cs.map X.p) q.d.length := by have h := HBD.out; rw [hnd, HDN.out] at h; exact h
                    have hjl : (cs.map X.p).length = j := by rw [List.length_map]; exact HCL.out
                    have hj0 : 0 < j := by rw [← hjl]; exact List.length_pos_iff.2 hne
                    have hll : l0.length = n := by rw [← HXM.out, List.length_map, ← HN.out]
                    cases b with
                    | true =>
                      have href := hbd.ref2 hne (HFB.out.1 rfl).2
                      exact ⟨href.is HQW.out HU.out HQV.out HQF.out (HMM.out r0 hr1), fun _ => by rw [← hll, ← hjl]; exact few HQV.out HREF.out HFU.out href⟩
                    | false =>
                      refine ⟨?_, by simp⟩
                      rw [Bool.eq_false_iff]
                      intro h
                      have h1 := is_fits (fun z hz => (hbd.kin z hz).r) h
                      have h2 := HFB.out.2 ⟨hj0, h1⟩
                      simp at h2
                rw [HIB.out.1] at KI
                have n2 : ¬ ((Dn : Int) = 0) := by omega
                have b2 : ((Dn : Int) == 0) = false := by simpa using n2
                have HIN2 := Lib.hid HIB.out.2
                clear hD0 n2 HIB
                go_wp2_with (refine wpList_load28 rfl _ rfl g7 rfl q _ _ (by exact HBr.out) HQA.out ?_)
                refine KI.out.mono ?_
                rintro E z1 ⟨rfl, haw⟩
                replace HAE := Lib.hid (HAE.out.on haw)
                clear haw KI
                cases b with
                | false =>
                  go_wp2_with fail
                  go_ret
                  exact ⟨rfl, HAE.out.to_below⟩
                | true =>
                  have hnj := HIN2.out rfl
                  have n3 : (n : Int) ≤ (j : Int) := by omega
                  have b3 : decide ((n : Int) ≤ (j : Int)) = true := by simpa using n3
                  clear hnj
                  go_wp2_with fail
                  go_ret
                  exact ⟨rfl, HAE.out.to_below⟩
end recutFew
namespace recutFew
theorem contract (H : Type) (enc : TypeId × Value → H) (W : World) (base : Nat) (args : Array Value) (ds gs : List (DataW H)) (before : List MemPlace)
    (hval0 : ∀ (j : Nat) t v, Tryd.f4.params[j]? = some t → args[j]? = some v → Value.okWide Tryd.prog W .any base t v)
    (hW : DataW.Whole enc Tryd.prog Tryd.f4.params.toList Rows.recutFewSpec.vars false W args.toList ds gs before)
    (hsz0 : (DataW.weightsEach Tryd.prog (Tryd.f4.params.toList ++ Rows.recutFewSpec.plain.varTypes Tryd.prog) (ds ++ gs)).all (· ≤ reachBytes) = true)
    (hL : laidMetH Tryd.prog Rows.recutFewRow.laid W) :
    Calls Tryd.prog 4 args W fun e W' => ∃ v, e = .returned v ∧ Rows.recutFewSpec.post enc Tryd.prog Tryd.f4 false true false false W args v W' := by
  have hval := hval0
  have hsz := hsz0
  have hW' := hW
  obtain ⟨p, q, hA0, hV, rfl, hfz, hnd⟩ := hW
  have hA : DataW.TrodAll enc Tryd.prog W 0 (fun _ => true) true Tryd.f4.params.toList args.toList ds p := hA0
  rw [Tryd.params4] at hA hval hsz
  obtain ⟨v0, vs0, d0, ds0, p0, q0, hargs, rfl, rfl, h0, r0⟩ := trodAll_cons hA
  obtain ⟨v1, vs1, d1, ds1, p1, q1, rfl, rfl, rfl, h1, r1⟩ := trodAll_cons r0
  obtain ⟨v2, vs2, d2, ds2, p2, q2, rfl, rfl, rfl, h2, r2⟩ := trodAll_cons r1
  obtain ⟨rfl, rfl, rfl⟩ := trodAll_nil r2
  obtain rfl : args = #[v0, v1, v2] := by cases args; simp_all
  obtain ⟨rfl, rfl⟩ := trodVars_none hV
  have k0 := h0
  have lt0 : ∀ x ∈ p0, x.block < W.heap.size := by obtain ⟨m, hm⟩ := k0; exact DataW.trod_lt m _ _ _ hm
  have z0 : ∀ m ∈ d0.weights Tryd.prog 28, m ≤ reachBytes := fun m hm => by
    have := List.all_eq_true.1 hsz m (DataW.weights_mem_each (j := 0) (t := 28) rfl rfl m hm)
    simpa using this
  obtain ⟨x0, ov0, dv0, rfl, w0, ol0, dl0⟩ := open_pkt (hval 0 28 v0 rfl rfl) h0 z0
  obtain ⟨a1, rfl, rfl, rfl, w1⟩ := open_int Tryd.underlying3 (hval 1 3 v1 rfl rfl) h1
  have k2 := h2
  have lt2 : ∀ x ∈ p2, x.block < W.heap.size := by obtain ⟨m, hm⟩ := k2; exact DataW.trod_lt m _ _ _ hm
  have z2 : ∀ m ∈ d2.weights Tryd.prog 29, m ≤ reachBytes := fun m hm => by
    have := List.all_eq_true.1 hsz m (DataW.weights_mem_each (j := 2) (t := 29) rfl rfl m hm)
    simpa using this
  obtain ⟨a2, len2, cap2, rfl⟩ := okWide_slice Tryd.underlying29 (hval 2 29 v2 rfl rfl)
  obtain ⟨w2, n2⟩ := R.open_nums2 h2 z2
  clear hA0 hval0
  refine (walk x0 ov0 dv0 a1 a2 len2 cap2 W (glob_of hL) w0 ol0 dl0 w1 w2 n2).mono fun e W' ⟨he, bel⟩ => ?_
  subst he
  exact ⟨_, rfl, _, _, _, [], _, [], hW', trodAll_mk1 (shut_bool Tryd.underlying4 _), (trodAll_cons_mk (Below.trod laidOut (by kernel_rfl) (of_decide_eq_true (by kernel_rfl)) k0 bel lt0) (trodAll_cons_mk (shut_int Tryd.underlying3 w1) (trodAll_cons_mk (Below.trod laidOut (by kernel_rfl) (of_decide_eq_true (by kernel_rfl)) k2 bel lt2) trodAll_mk0))), rfl, bel.frame _, fun h => by cases h⟩
theorem laid_met (os : Os) : laidMet Tryd.prog Rows.recutFewRow.laid ((laidWorld Tryd.prog os).forCall (fun _ _ => 0) ⟨#[], #[.agg (csP zeroPk (.slice none 0 0) (.slice none 0 0)), .int .i64 0, .slice none 0 0], []⟩).memory :=
  laidMet_of_run' 8 (by kernel_rfl) (by kernel_rfl)
theorem reads (os : Os) {H : Type} (enc : TypeId × Value → H) : ∃ places, DataW.whole enc Tryd.prog ((laidWorld Tryd.prog os).forCall (fun _ _ => 0) ⟨#[], #[.agg (csP zeroPk (.slice none 0 0) (.slice none 0 0)), .int .i64 0, .slice none 0 0], []⟩).memory Tryd.f4.params.toList Rows.recutFewSpec.vars false #[.agg (csP zeroPk (.slice none 0 0) (.slice none 0 0)), .int .i64 0, .slice none 0 0].toList 8 = some ([.agg [.lit (.int .i64 0), .lit (.int .i64 0), .lit (.int .i64 0), .agg [.lit (.int .i64 0), .agg [.lit (.int .u8 0), .lit (.int .u8 0), .lit (.int .u8 0), .lit (.int .u8 0), .lit (.int .u8 0), .lit (.int .u8 0), .lit (.int .u8 0), .lit (.int .u8 0), .lit (.int .u8 0), .lit (.int .u8 0), .lit (.int .u8 0), .lit (.int .u8 0), .lit (.int .u8 0), .lit (.int .u8 0), .lit (.int .u8 0), .lit (.int .u8 0)]], .agg [.lit (.int .i64 0), .agg [.lit (.int .u8 0), .lit (.int .u8 0), .lit (.int .u8 0), .lit (.int .u8 0), .lit (.int .u8 0), .lit (.int .u8 0), .lit (.int .u8 0), .lit (.int .u8 0), .lit (.int .u8 0), .lit (.int .u8 0), .lit (.int .u8 0), .lit (.int .u8 0), .lit (.int .u8 0), .lit (.int .u8 0), .lit (.int .u8 0), .lit (.int .u8 0)]], .lit (.int .i64 0), .lit (.int .i64 0), .lit (.int .u32 0), .lit (.bool false), .lit (.bool false), .lit (.bool false), .lit (.int .i64 0), .nil, .nil], .lit (.int .i64 0), .nil], [], places) :=
  ⟨[], by kernel_rfl⟩
theorem lifted (os : Os) (started : os.Started) (H : Type) (enc : TypeId × Value → H) (F : Stop.Interp) :
    ReturnsInHanded {} Tryd.checked os 4 .any ((OpenSpec.ofChange Rows.recutFewSpec).preRow enc Tryd.prog Tryd.f4 Rows.recutFewRow.domain false Rows.recutFewRow.laid) (((OpenSpec.ofChange Rows.recutFewSpec).at F).post enc Tryd.prog Tryd.f4 false true false false) := by
  obtain ⟨places, hx⟩ := reads os enc
  refine returnsInHanded_of_row (C := Tryd.checked) (s := OpenSpec.ofChange Rows.recutFewSpec) ownKn started (by kernel_rfl) Tryd.func4
    (witness_row_at (enc := enc) (C := Tryd.checked) false (laidWorld Tryd.prog os) #[.agg (csP zeroPk (.slice none 0 0) (.slice none 0 0)), .int .i64 0, .slice none 0 0] rfl (by kernel_rfl) (by kernel_rfl) (by kernel_rfl)
      (OpenSpec.preRow_of_cond 8 hx (by kernel_rfl) (fun k hk => by cases hk) (by kernel_rfl) (laid_met os))) ?_
  intro W base args ds gs before hval hW _ hcond hsz hL hS _
  exact contract H enc W base args ds gs before hval hW hsz hL
theorem said : Rows.RecutFewSaid :=
  OpenClaim.holds_of_cond 4 Tryd.f4 rfl rfl rfl rfl rfl rfl rfl ⟨rfl, rfl, rfl, rfl, rfl⟩ rfl rfl rfl rfl rfl (by kernel_rfl) Tryd.func4 (by kernel_rfl)
    (of_decide_eq_true (by kernel_rfl)) (by unfold Func.isWrapper; first | (rw [if_pos (by decide +kernel)]; kernel_rfl) | (rw [if_neg (by decide +kernel)]; exact ⟨rfl, rfl⟩))
    (fun os started H enc _ F => by rw [OpenClaim.pre_eq_preRow]; exact lifted os started H enc F)
theorem plain (f : FuncId) (fn : Func) (hf : Tryd.pinned.checked.prog.funcNamed "mosaic/mosaiclaw11.RecutFew" = some f) (hfn : Tryd.pinned.checked.prog.funcs[f]? = some fn) :
    false = Tryd.pinned.checked.prog.looks [] ∧ ∀ (j : Nat) t, fn.params[j]? = some t → Tryd.pinned.checked.prog.wantsStandIn t = false := by
  obtain rfl : f = 4 := Option.some.inj ((show Tryd.prog.funcNamed "mosaic/mosaiclaw11.RecutFew" = some 4 by kernel_rfl).symm.trans hf) |>.symm
  obtain rfl : fn = Tryd.f4 := (Option.some.inj (Tryd.func4.symm.trans hfn)).symm
  refine ⟨by kernel_rfl, fun j t ht => ?_⟩
  rw [Tryd.params4] at ht
  have hm := Array.mem_of_getElem? ht
  simp only [List.mem_toArray, List.mem_cons, List.not_mem_nil, or_false] at hm
  have h28 : Tryd.prog.wantsStandIn 28 = false := by kernel_rfl
  have h26 : Tryd.prog.wantsStandIn 26 = false := by kernel_rfl
  have h3 : Tryd.prog.wantsStandIn 3 = false := by kernel_rfl
  have h25 : Tryd.prog.wantsStandIn 25 = false := by kernel_rfl
  have h4 : Tryd.prog.wantsStandIn 4 = false := by kernel_rfl
  have h29 : Tryd.prog.wantsStandIn 29 = false := by kernel_rfl
  rcases hm with rfl | rfl | rfl
  all_goals first | exact h28 | exact h26 | exact h3 | exact h25 | exact h4 | exact h29
theorem card : Rows.RecutFewCardSaid :=
  Claim7.holds_tied_plain_at .later [] _ _ _ _ said (fun _ h => by cases h) (by kernel_rfl) (fun _ h => by cases h) recutFew_row_tie rfl ⟨rfl, rfl⟩ (by kernel_rfl) rfl plain (by kernel_rfl)
end recutFew
theorem recutFew_holds : Rows.RecutFewCardSaid := recutFew.card
#print axioms recutFew_holds
end Go.Proofs.YtaicckenpplceaaDoor
