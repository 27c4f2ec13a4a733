/-
  TableOldest.
-/
import Derived.Test.YtkccpidgeecemaaDoorTb23
import Derived.Deep.CutBlock
import Derived.Deep.DeepCutAuto
namespace Go.Proofs.YtkccpidgeecemaaDoor
open Go.ChangeShapes Go.WideShapes Go.ChangeAt Go.RowKit Go.Deep
open S6 (wp_region_cls quiet_val quiet_call quiet_ld ld3 ld4 ld5 ld25 ld26 load28_run load24m_run)
set_option linter.unusedVariables false
set_option linter.unusedSimpArgs false
set_option maxRecDepth 100000

namespace tableOldest
theorem mod_u (n : Int) (m : Nat) (hm : 0 < m) : ∃ a : Nat, a < m ∧ (IntKind.u64.wrap n).tmod m = (a : Int) := by
  have h0 : 0 ≤ IntKind.u64.wrap n := by rw [IntKind.wrap_u64]; omega
  rw [Int.tmod_eq_emod_of_nonneg h0]
  have h1 := Int.emod_nonneg (IntKind.u64.wrap n) (show (m : Int) ≠ 0 by omega)
  have h2 := Int.emod_lt_of_pos (IntKind.u64.wrap n) (show (0 : Int) < m by omega)
  exact ⟨((IntKind.u64.wrap n) % m).toNat, by omega, by omega⟩
theorem wrap_small (z : Int) (h0 : -1000000 ≤ z) (h1 : z ≤ 1000000) : wrap64 z = z := by unfold wrap64; omega
theorem wrap_u32 (z : Int) (h0 : 0 ≤ z) (h1 : z ≤ 1000000) : IntKind.u32.wrap z = z := by rw [IntKind.wrap_u32]; omega
theorem id_of {w : World} {b o : Nat} {i : Nat} (h : w.rangeAt b o (listK (oP i))) : w.cell? ⟨b, o + 36, none⟩ = some (.int .u32 (i : Int)) := h 36 _ (by
  have h1 : (listK (oP i))[36]? = some (.int .u32 (i : Int)) := by kernel_rfl
  exact h1)
/-- What the loop holds. -/
structure Ol (w0 w : World) (gt mb : Nat) (ov gv : Value) (q : Qo) (cs : List Cel) (st k g : Nat) : Prop where
  ta : Ta w0 w gt mb ov q 0 cs
  lst : K.LstK w gv ((List.range g).map oP)
  far : ∀ b, gv.ownBlock = some b → b ∉ fpT gt mb ov cs
  new : ∀ b, gv.ownBlock = some b → w0.heap.size ≤ b
  sum : g + cs.length = k
  len : cs.length = min st k
  run : Run cs g
theorem Ol.on {w0 w w' : World} {gt mb : Nat} {ov gv : Value} {q : Qo} {cs : List Cel} {st k g : Nat} (h : Ol w0 w gt mb ov gv q cs st k g) (hw : Away [] w w') : Ol w0 w' gt mb ov gv q cs st k g := ⟨h.ta.on hw, h.lst.on hw, h.far, h.new, h.sum, h.len, h.run⟩
theorem ks_ad (g : Nat) (hg : g ≤ 200) : ∀ x ∈ (List.range g).map oP, Ad x := fun x hx => by
  obtain ⟨i, hi, rfl⟩ := List.mem_map.1 hx
  exact (oP_wf (by have := List.mem_range.1 hi; omega)).ad
set_option maxHeartbeats 16000000 in
theorem walk (en n by' : Int) (w : World) (hg : Glob w) (h1 : (Lit.int .i64 en).wf = true) (h2 : (Lit.int .i64 n).wf = true) (h3 : (Lit.int .i64 by').wf = true) :
    Calls Tryd.prog 3 #[.int .i64 en, .int .i64 n, .int .i64 by'] w fun E w' => E = .returned (.bool true) ∧ Below w.heap.size w w' := by
  have HG := Lib.hid hg
  clear hg h1 h2 h3
  obtain ⟨a, ha, ea⟩ := mod_u en 64 (by omega)
  obtain ⟨b, hb, eb⟩ := mod_u by' 600 (by omega)
  obtain ⟨m, hm, em⟩ := mod_u n 200 (by omega)
  have ea1 : wrap64 (1 + wrap64 ((IntKind.u64.wrap en).tmod 64)) = (a : Int) + 1 := by
    have e : (IntKind.u64.wrap en).tmod 64 = (a : Int) := ea
    rw [e, wrap_small (a : Int) (by omega) (by omega), wrap_small (1 + (a : Int)) (by omega) (by omega)]; omega
  have eb1 : wrap64 (8 * wrap64 ((IntKind.u64.wrap by').tmod 600)) = 8 * (b : Int) := by
    have e : (IntKind.u64.wrap by').tmod 600 = (b : Int) := eb
    rw [e, wrap_small (b : Int) (by omega) (by omega), wrap_small (8 * (b : Int)) (by omega) (by omega)]
  have em1 : wrap64 ((IntKind.u64.wrap n).tmod 200) = (m : Int) := by
    have e : (IntKind.u64.wrap n).tmod 200 = (m : Int) := em
    rw [e, wrap_small (m : Int) (by omega) (by omega)]
  have HE := Lib.hid (And.intro ea1 (And.intro eb1 em1))
  clear ea eb em ea1 eb1 em1
  go_enter Tryd.func3, Tryd.ntmps3
  go_wp2_with fail
  refine (alive_c w HG.out).mono ?_
  rintro E w2 ⟨rfl, haw⟩
  have HA := Lib.hid haw
  clear haw
  go_wp2_with fail
  rw [HE.out.1, HE.out.2.1, HE.out.2.2]
  obtain ⟨q, hq⟩ : ∃ q : Qo, q = ⟨(a : Int) + 1, 8 * (b : Int), 9, 5⟩ := ⟨_, rfl⟩
  have HQ := Lib.hid hq
  have K6 : Hid (Calls Tryd.prog 6 #[.agg #[.int .i64 ((a : Int) + 1), .int .i64 (8 * (b : Int)), .int .i64 9, .int .i64 5]] w2 (NewOut w2 q)) := by
    show Calls _ _ _ _ _
    rw [hq]; exact tnew_c w2 ⟨(a : Int) + 1, 8 * (b : Int), 9, 5⟩
  clear hq
  refine K6.out.mono ?_
  rintro E w3 (⟨h1, -⟩ | ⟨-, gt, mb, rfl, htab, hgt, hmb, haw⟩)
  · exfalso
    rw [HQ.out] at h1
    simp only [rightQ, Bool.and_eq_false_iff, decide_eq_false_iff_not] at h1
    omega
  have hsz := HA.out.size
  have HTA : Hid (Ta w w3 gt mb (.slice none 0 0) q 0 []) := ⟨htab, fun z hz => by
    rcases mem_fpT.1 hz with rfl | rfl | h1 | ⟨c, hc, -⟩
    · omega
    · omega
    · simp [Value.ownBlock] at h1
    · simp at hc, HA.out.trans haw⟩
  clear K6 htab hgt hmb haw HA hsz HE
  obtain ⟨st, hst⟩ : ∃ st : Nat, st = min (a + 1) b := ⟨_, rfl⟩
  have HST : Hid (∀ L : Nat, (q.e < (L : Int) ∨ q.b < 8 * (L : Int)) ↔ st < L) := fun L => by
    rw [HQ.out]
    show ((a : Int) + 1 < L ∨ 8 * (b : Int) < 8 * (L : Int)) ↔ _
    omega
  go_upto_region 10 with fail
  go_cut [11] (fun v wc => v = .int .i64 (st : Int) ∧ wc = w3)
  case first =>
    go_wp2_with fail
    all_goals (go_meet; exact ⟨congrArg (Value.int .i64) (by omega), rfl⟩)
  case rest =>
  obtain ⟨rfl, hwc⟩ := hcut
  replace hwc := hwc.symm
  subst hwc
  have hst2 : st ≤ 64 := by omega
  clear hst
  go_wp2_with fail
  go_loopw [12, 13] (fun v i wr => ∃ (k : Nat) (cs : List Cel) (ov : Value) (g : Nat), i = .int .i64 (k : Int) ∧ k ≤ m ∧ Ol w wr gt mb ov v q cs st k g) (fun _ i _ => m - (intOf i).toNat)
  case atStart => exact ⟨0, [], .slice none 0 0, 0, rfl, by omega, HTA.out, K.LstK.nil _, by simp [Value.ownBlock], by simp [Value.ownBlock], rfl, by simp, fun j c hj => by simp at hj⟩
  case round =>
    obtain ⟨k, cs, ov, g, rfl, hk, hol⟩ := hrel
    have HOL := Lib.hid hol
    have hsum := hol.sum
    have hlen := hol.len
    clear hol HTA
    obtain ⟨oa, oc, hv, hat⟩ := shapeK HOL.out.lst (ks_ad g (by omega))
    rw [show ((List.range g).map oP).length = g from by simp] at hv
    subst hv
    have HAT := Lib.hid hat
    clear hat
    by_cases hlt : k < m
    · clear HAT
      have e32 : IntKind.u32.wrap (k : Int) = (k : Int) := wrap_u32 _ (by omega) (by omega)
      have KD : Hid (∀ W, Calls Tryd.prog 9 #[.int .u32 (k : Int), .int .i64 16] W (DgrOut W (k : Int) 16)) := fun W => data_c (k : Int) 16 (by omega) W
      have HWD : Hid (Wf (dataP (k : Int) 16)) := data_wf _ (by omega) (by omega) 16 (by omega)
      have HDL : Hid ((dataP (k : Int) 16).d.length = 16) := upB_len 16
      go_wp2_with fail
      (try rw [e32])
      refine (KD.out _).mono ?_
      rintro E y1 ⟨dv, rfl, how, hnw, haw⟩
      have HPK : Hid (Pkt y1 (dataP (k : Int) 16) (.slice none 0 0) dv) := ⟨HWD.out, nil_sl y1, how.sl HWD.out.d HWD.out.dn⟩
      replace HOL := Lib.hid (HOL.out.on haw)
      clear how hnw haw KD e32
      have KP : Hid (Calls Tryd.prog 8 #[.agg (csP (dataP (k : Int) 16) (.slice none 0 0) dv), .int .i64 0, .int .i64 8] y1 (PieceOut y1 (dataP (k : Int) 16) (.slice none 0 0) 0 8)) := piece_c (dataP (k : Int) 16) _ dv y1 HPK.out 0 8 (by omega) (by rw [HDL.out]; omega) (by rw [HDL.out]; omega)
      go_wp2_with fail
      refine KP.out.mono ?_
      rintro E y2 ⟨dv2, rfl, how, hnw, haw⟩
      have HPQ : Hid (Pkt y2 (oP k) (.slice none 0 0) dv2) := ⟨oP_wf (by omega), nil_sl y2, how.sl (oP_wf (by omega)).d (oP_wf (by omega)).dn⟩
      have HDN : Hid (∀ z, dv2.ownBlock = some z → z ∉ fpT gt mb ov cs) := fun z hz hmm => by have h1 := hnw z hz; have h2 := HOL.out.ta.tab.lt z hmm; omega
      replace HOL := Lib.hid (HOL.out.on haw)
      clear how hnw haw KP HPK HWD HDL
      rw [show pieceP (dataP (k : Int) 16) 0 8 = oP k from rfl]
      have KQ := Lib.hid (HOL.out.ta.put (now := 0) HG.out HPQ.out rfl HDN.out (fun c hc => by
        obtain ⟨j, hj⟩ := List.mem_iff_getElem?.1 hc
        rw [HOL.out.run j c hj, (oS_kt _).2]; omega) (by omega) (by rw [HQ.out]; show (0 : Int) ≤ (a : Int) + 1 ∧ (0 : Int) ≤ 8 * (b : Int); omega) (by omega) (o_ok (by omega)).2.2.2.1 (by omega) (fun c hc => by
        obtain ⟨j, hj⟩ := List.mem_iff_getElem?.1 hc
        unfold lateB
        rw [HOL.out.run j c hj, (oS_kt _).2, HQ.out]; show decide ((5 : Int) ≤ 0 - 0) = false; rfl) (n := 5) (wh := []) (P := fun ks cs' => ks.length ≤ 1 ∧ ∃ m', (List.range g).map oP ++ ks = (List.range m').map oP ∧ m' + cs'.length = k + 1 ∧ cs'.length = min st (k + 1) ∧ Run cs' m')
        (fun n' wh' ks cs' hr => o_res (by omega) HOL.out.sum HOL.out.run (by rw [HQ.out]) HST.out HOL.out.len hr))
      go_wp2_with fail
      refine KQ.out.mono ?_
      rintro E y3 ⟨wv, lv, gx, xs, ks, cs', ov', rfl, o1, ⟨la, hlv⟩, o3, hcu, hxm, hlk, hgn, ⟨hk1, g', hks, hs', hl', hrun⟩, hta, hfp, haw⟩
      obtain ⟨lc, rfl⟩ : ∃ lc, lv = .slice la 0 lc := by
        rcases hlv with h | ⟨c, h⟩
        · exact ⟨_, h⟩
        · exact ⟨_, h⟩
      obtain ⟨wa, wc', rfl⟩ : ∃ wa wc', wv = .slice wa 0 wc' := by
        have hx0 : xs = [] := by simpa using hxm
        subst hx0
        obtain ⟨a1, c1, e, -⟩ := hcu.pks (by simp)
        exact ⟨a1, c1, e⟩
      have HKA : Hid (∀ x ∈ ks, Ad x) := fun x hx => by
        have : x ∈ (List.range g').map oP := by rw [← hks]; exact List.mem_append_right _ hx
        exact ks_ad g' (by omega) x this
      obtain ⟨ga, gc, rfl, -⟩ := shapeK hlk HKA.out
      obtain ⟨n3, hn3⟩ : ∃ n3, n3 = ks.length := ⟨_, rfl⟩
      rw [← hn3] at hlk hgn hk1 ⊢
      have HN3 := Lib.hid hn3
      have HLK := Lib.hid hlk
      have HKS := Lib.hid hks
      have HRN := Lib.hid hrun
      have HTA := Lib.hid hta
      have HGL : Hid (K.LstK y3 (.slice oa g oc) ((List.range g).map oP)) := HOL.out.lst.away haw HOL.out.far
      have HGF : Hid (∀ z, (Value.slice oa g oc).ownBlock = some z → z ∉ fpT gt mb ov' cs') := fun z hz hmm => by
        rcases hfp z hmm with h1 | h1
        · exact HOL.out.far z hz h1
        · have h2 := HOL.out.lst.lt z hz; omega
      have HGW : Hid (∀ z, (Value.slice oa g oc).ownBlock = some z → w.heap.size ≤ z) := HOL.out.new
      have HXF : Hid (∀ z, (Value.slice ga n3 gc).ownBlock = some z → (Value.slice oa g oc).ownBlock ≠ some z) := fun z hz e => by have h1 := hgn z hz; have h2 := HOL.out.lst.lt z e; omega
      clear o1 hlv o3 hcu hxm hlk hgn hks hrun hta hfp haw KQ HPQ HDN HOL hn3
      go_wp2_with (refine wpList_alloc33 rfl rfl ?_; refine Hid.out ?_)
      refine Lib.hid ?_
      intro g14 y4 hg hb4 haw1
      have HBN := Lib.hid hb4
      have HGN : Hid (y3.heap.size ≤ g14) := hg
      have HW1 := Lib.hid haw1
      clear hg hb4 haw1
      go_wp2_with (refine wpList_store33 rfl _ _ rfl g14 rfl 5 (.slice wa 0 wc') (.slice la 0 lc) (.slice ga n3 gc) rfl 0 nilV nilV nilV (by exact HBN.out) rfl rfl rfl ?_; refine Hid.out ?_)
      refine Lib.hid ?_
      intro y5 hb5 haw2
      have HW3 := Lib.hid (HW1.out.next haw2 (fun z hz => .inr (by simp at hz; rw [hz]; exact HGN.out)))
      have HB14 : Hid (BoxT y5 g14 5 (.slice wa 0 wc') (.slice la 0 lc) (.slice ga n3 gc)) := hb5
      replace HTA := Lib.hid (HTA.out.on HW3.out)
      replace HLK := Lib.hid (HLK.out.on HW3.out)
      replace HGL := Lib.hid (HGL.out.on HW3.out)
      clear hb5 haw2 HW1 HW3 HBN HGN
      have c0 : y5.cell? ⟨g14, 0, none⟩ = some (.int .i64 5) := cell_of_block HB14.out 0
      have c1 : y5.cell? ⟨g14, 1, none⟩ = some (.slice wa 0 wc') := cell_of_block HB14.out 1
      have c2 : y5.cell? ⟨g14, 2, none⟩ = some (.slice la 0 lc) := cell_of_block HB14.out 2
      have c3 : y5.cell? ⟨g14, 3, none⟩ = some (.slice ga n3 gc) := cell_of_block HB14.out 3
      have hn1 : ¬ (1 < (n3 : Int)) := by omega
      have b1 : decide (1 < (n3 : Int)) = false := by simpa using hn1
      go_wp2_with (at_builtin; refine wpList_appKK rfl _ _ rfl (.slice oa g oc) (.slice ga n3 gc) ((List.range g).map oP) ks rfl rfl HGL.out HLK.out HKA.out (by rw [List.length_map, List.length_range, ← HN3.out]; omega) ?_; refine Hid.out ?_)
      refine Lib.hid ?_
      intro gv' y6 hl6 hgr hmv
      have HLT : Hid (∀ z ∈ fpT gt mb ov' cs', z < y5.heap.size) := HTA.out.tab.lt
      have HSW : Hid (w.heap.size ≤ y5.heap.size) := HTA.out.aw.size
      have hA6 : Away (Value.slice oa g oc).ownBlock.toList y5 y6 := (Away.refl _ _).grown hgr (fun z hz => .inl (by simp [hz]))
      replace HTA : Hid (Ta w y6 gt mb ov' q 0 cs') := ⟨HTA.out.tab.away hA6 (fun z hz hmm => HGF.out z (by simpa using hmm) hz), HTA.out.new, HTA.out.aw.next hA6 (fun z hz => .inr (HGW.out z (by simpa using hz)))⟩
      rw [HKS.out] at hl6
      have HNF : Hid (∀ z, gv'.ownBlock = some z → z ∉ fpT gt mb ov' cs' ∧ w.heap.size ≤ z) := fun z hz => by
        rcases hmv z hz with h1 | h1
        · exact ⟨HGF.out z h1, HGW.out z h1⟩
        · refine ⟨fun hmm => ?_, ?_⟩
          · have h2 := HLT.out z hmm; omega
          · have h2 := HSW.out; omega
      have HNL : Hid (Ol w y6 gt mb ov' gv' q cs' st (k + 1) g') := ⟨HTA.out, hl6, fun z hz => (HNF.out z hz).1, fun z hz => (HNF.out z hz).2, hs', hl', HRN.out⟩
      obtain ⟨oa', oc', rfl, hat'⟩ := shapeK hl6 (ks_ad g' (by omega))
      rw [show ((List.range g').map oP).length = g' from by simp] at HNL ⊢
      clear hl6 hgr hmv hA6 HNF HTA HGL HLK HKA HKS HRN HGF HGW HXF HN3 hat' HB14 c0 c1 c2 c3 hn1 b1 HLT HSW
      obtain ⟨L, hL⟩ : ∃ L, L = cs'.length := ⟨_, rfl⟩
      have KK := Lib.hid (keys_c HNL.out.ta.tab)
      go_wp2_with fail
      refine KK.out.mono ?_
      rintro E y7 ⟨kv, rfl, hlk, -, haw⟩
      obtain ⟨ka, kc, rfl, hat⟩ := shapeK hlk HNL.out.ta.tab.keys
      rw [show (cs'.map (·.s.k)).length = L from by rw [List.length_map, hL]]
      replace HNL := Lib.hid (HNL.out.on haw)
      have HAT : Hid (∀ j : Nat, j < L → ∃ ob, ka = some ⟨ob, 0, none⟩ ∧ y7.cell? ⟨ob, j * 37 + 36, none⟩ = some (.int .u32 ((g' + j : Nat) : Int))) := fun j hj => by
        have h1 : (cs'.map (·.s.k))[j]? = some ((cs'.map (·.s.k))[j]'(by rw [List.length_map]; omega)) := List.getElem?_eq_getElem _
        have h2 := HNL.out.run.keys j _ h1
        obtain ⟨ob, h3, h4⟩ := hat j _ h1
        rw [h2] at h4
        refine ⟨ob, h3, ?_⟩
        have h5 := id_of h4
        first | exact h5 | (rw [Nat.zero_add] at h5; exact h5)
      clear hlk haw hat KK
      have KB : Hid (Calls Tryd.prog 11 #[.pointer (some ⟨gt, 0, none⟩)] y7 fun E w' => E = .returned (.int .i64 (8 * (L : Int))) ∧ Away [] y7 w') := by
        have h1 := tbytes_c HNL.out.ta.tab
        rw [sum8 _ (HNL.out.run.h (by omega)), ← hL] at h1
        exact h1
      go_upto_region 20 with fail
      go_cut [120] (fun v wc => v = .bool false ∧ Away [] y7 wc)
      case first =>
        as_aux_lemma =>
        go_wp2_with fail
        all_goals (refine KB.out.mono ?_; rintro E y8 ⟨rfl, haw⟩; have hS := Lib.hid haw; clear haw; go_wp2_with fail; go_meet; first | exact ⟨rfl, hS.out⟩ | exact ⟨congrArg Value.bool (by rw [bne_eq_false_iff_eq]; omega), hS.out⟩)
      case rest =>
      obtain ⟨rfl, haw⟩ := hcut
      replace HNL := Lib.hid (HNL.out.on haw)
      replace HAT : Hid (∀ j : Nat, j < L → ∃ ob, ka = some ⟨ob, 0, none⟩ ∧ wc.cell? ⟨ob, j * 37 + 36, none⟩ = some (.int .u32 ((g' + j : Nat) : Int))) := fun j hj => by
        obtain ⟨ob, h1, h2⟩ := HAT.out j hj
        exact ⟨ob, h1, haw.cell (by simp) h2⟩
      clear haw KB
      go_wp2_with fail
      go_loopw [17] (fun i wr => ∃ j : Nat, i = .int .i64 (j : Int) ∧ j ≤ L ∧ wr = wc) (fun i _ => L - (intOf i).toNat)
      case atStart => exact ⟨0, rfl, by omega, rfl⟩
      case round =>
        obtain ⟨j, rfl, hj, rfl⟩ := hrel
        by_cases hjl : j < L
        · obtain ⟨ob, rfl, hcell⟩ := HAT.out j hjl
          have i2 : 0 ≤ (j : Int) := by omega
          have i3 : (j : Int) < (L : Int) := by omega
          have i4 : ((j : Int)).toNat = j := by omega
          have e32 : IntKind.u32.wrap ((g' : Int) + (j : Int)) = ((g' + j : Nat) : Int) := by rw [wrap_u32 _ (by omega) (by omega)]; omega
          have e32b : IntKind.u32.wrap ((g' + j : Nat) : Int) = ((g' + j : Nat) : Int) := wrap_u32 _ (by omega) (by omega)
          go_wp2_with fail
          go_roundw
          case rel => exact ⟨j + 1, by go_num, by omega, by first | rfl | trivial⟩
          case measure => simp [intOf]; omega
        · obtain rfl : j = L := by omega
          go_wp2_with fail
          go_roundw
          case rel => exact ⟨k + 1, cs', ov', g', by go_num, by omega, HNL.out⟩
          case measure => simp [intOf]; omega
    · obtain rfl : k = m := by omega
      have HAT2 : Hid (∀ j : Nat, j < g → ∃ ob, oa = some ⟨ob, 0, none⟩ ∧ wr.cell? ⟨ob, j * 37 + 36, none⟩ = some (.int .u32 (j : Int))) := fun j hj => by
        obtain ⟨ob, h3, h4⟩ := HAT.out j (oP j) (by simp [hj])
        refine ⟨ob, h3, ?_⟩
        have h5 := id_of h4
        first | exact h5 | (rw [Nat.zero_add] at h5; exact h5)
      clear HAT
      go_wp2_with fail
      go_loopw [18] (fun i wq => ∃ j : Nat, i = .int .i64 (j : Int) ∧ j ≤ g ∧ wq = wr) (fun i _ => g - (intOf i).toNat)
      case atStart => exact ⟨0, rfl, by omega, rfl⟩
      case round =>
        obtain ⟨j, rfl, hj, rfl⟩ := hrel
        by_cases hjl : j < g
        · obtain ⟨ob, rfl, hcell⟩ := HAT2.out j hjl
          have i2 : 0 ≤ (j : Int) := by omega
          have i3 : (j : Int) < (g : Int) := by omega
          have i4 : ((j : Int)).toNat = j := by omega
          have e32 : IntKind.u32.wrap (j : Int) = (j : Int) := wrap_u32 _ (by omega) (by omega)
          go_wp2_with fail
          go_roundw
          case rel => exact ⟨j + 1, by go_num, by omega, by first | rfl | trivial⟩
          case measure => simp [intOf]; omega
        · obtain rfl : j = g := by omega
          go_wp2_with fail
          go_ret
          exact ⟨rfl, HOL.out.ta.aw.to_below⟩
end tableOldest
namespace tableOldest
theorem contract (H : Type) (enc : TypeId × Value → H) (W : World) (base : Nat) (args : Array Value) (ds gs : List (DataW H)) (before : List MemPlace)
    (hval0 : ∀ (j : Nat) t v, Tryd.f3.params[j]? = some t → args[j]? = some v → Value.okWide Tryd.prog W .any base t v)
    (hW : DataW.Whole enc Tryd.prog Tryd.f3.params.toList Rows.tableOldestSpec.vars false W args.toList ds gs before)
    (hsz0 : (DataW.weightsEach Tryd.prog (Tryd.f3.params.toList ++ Rows.tableOldestSpec.plain.varTypes Tryd.prog) (ds ++ gs)).all (· ≤ reachBytes) = true)
    (hL : laidMetH Tryd.prog Rows.tableOldestRow.laid W) :
    Calls Tryd.prog 3 args W fun e W' => ∃ v, e = .returned v ∧ Rows.tableOldestSpec.post enc Tryd.prog Tryd.f3 false true false false W args v W' := by
  have hval := hval0
  have hsz := hsz0
  have hW' := hW
  obtain ⟨p, q, hA0, hV, rfl, hfz, hnd⟩ := hW
  have hA : DataW.TrodAll enc Tryd.prog W 0 (fun _ => true) true Tryd.f3.params.toList args.toList ds p := hA0
  rw [Tryd.params3] at hA hval hsz
  obtain ⟨v0, vs0, d0, ds0, p0, q0, hargs, rfl, rfl, h0, r0⟩ := trodAll_cons hA
  obtain ⟨v1, vs1, d1, ds1, p1, q1, rfl, rfl, rfl, h1, r1⟩ := trodAll_cons r0
  obtain ⟨v2, vs2, d2, ds2, p2, q2, rfl, rfl, rfl, h2, r2⟩ := trodAll_cons r1
  obtain ⟨rfl, rfl, rfl⟩ := trodAll_nil r2
  obtain rfl : args = #[v0, v1, v2] := by cases args; simp_all
  obtain ⟨rfl, rfl⟩ := trodVars_none hV
  obtain ⟨a0, rfl, rfl, rfl, w0⟩ := open_int Tryd.underlying3 (hval 0 3 v0 rfl rfl) h0
  obtain ⟨a1, rfl, rfl, rfl, w1⟩ := open_int Tryd.underlying3 (hval 1 3 v1 rfl rfl) h1
  obtain ⟨a2, rfl, rfl, rfl, w2⟩ := open_int Tryd.underlying3 (hval 2 3 v2 rfl rfl) h2
  clear hA0 hval0
  refine (walk a0 a1 a2 W (glob_of hL) w0 w1 w2).mono fun e W' ⟨he, bel⟩ => ?_
  subst he
  exact ⟨_, rfl, _, _, _, [], _, [], hW', trodAll_mk1 (shut_bool Tryd.underlying4 _), (trodAll_cons_mk (shut_int Tryd.underlying3 w0) (trodAll_cons_mk (shut_int Tryd.underlying3 w1) (trodAll_cons_mk (shut_int Tryd.underlying3 w2) trodAll_mk0))), rfl, bel.frame _, fun h => by cases h⟩
theorem laid_met (os : Os) : laidMet Tryd.prog Rows.tableOldestRow.laid ((laidWorld Tryd.prog os).forCall (fun _ _ => 0) ⟨#[], #[.int .i64 0, .int .i64 0, .int .i64 0], []⟩).memory :=
  laidMet_of_run' 8 (by kernel_rfl) (by kernel_rfl)
theorem reads (os : Os) {H : Type} (enc : TypeId × Value → H) : ∃ places, DataW.whole enc Tryd.prog ((laidWorld Tryd.prog os).forCall (fun _ _ => 0) ⟨#[], #[.int .i64 0, .int .i64 0, .int .i64 0], []⟩).memory Tryd.f3.params.toList Rows.tableOldestSpec.vars false #[.int .i64 0, .int .i64 0, .int .i64 0].toList 8 = some ([.lit (.int .i64 0), .lit (.int .i64 0), .lit (.int .i64 0)], [], places) :=
  ⟨[], by kernel_rfl⟩
theorem lifted (os : Os) (started : os.Started) (H : Type) (enc : TypeId × Value → H) (F : Stop.Interp) :
    ReturnsInHanded {} Tryd.checked os 3 .any ((OpenSpec.ofChange Rows.tableOldestSpec).preRow enc Tryd.prog Tryd.f3 Rows.tableOldestRow.domain false Rows.tableOldestRow.laid) (((OpenSpec.ofChange Rows.tableOldestSpec).at F).post enc Tryd.prog Tryd.f3 false true false false) := by
  obtain ⟨places, hx⟩ := reads os enc
  refine returnsInHanded_of_row (C := Tryd.checked) (s := OpenSpec.ofChange Rows.tableOldestSpec) ownKn started (by kernel_rfl) Tryd.func3
    (witness_row_at (enc := enc) (C := Tryd.checked) false (laidWorld Tryd.prog os) #[.int .i64 0, .int .i64 0, .int .i64 0] rfl (by kernel_rfl) (by kernel_rfl) (by kernel_rfl)
      (OpenSpec.preRow_of_cond 8 hx (by kernel_rfl) (fun k hk => by cases hk) (by kernel_rfl) (laid_met os))) ?_
  intro W base args ds gs before hval hW _ hcond hsz hL hS _
  exact contract H enc W base args ds gs before hval hW hsz hL
theorem said : Rows.TableOldestSaid :=
  OpenClaim.holds_of_cond 3 Tryd.f3 rfl rfl rfl rfl rfl rfl rfl ⟨rfl, rfl, rfl, rfl, rfl⟩ rfl rfl rfl rfl rfl (by kernel_rfl) Tryd.func3 (by kernel_rfl)
    (of_decide_eq_true (by kernel_rfl)) (by unfold Func.isWrapper; first | (rw [if_pos (by decide +kernel)]; kernel_rfl) | (rw [if_neg (by decide +kernel)]; exact ⟨rfl, rfl⟩))
    (fun os started H enc _ F => by rw [OpenClaim.pre_eq_preRow]; exact lifted os started H enc F)
theorem plain (f : FuncId) (fn : Func) (hf : Tryd.pinned.checked.prog.funcNamed "mosaic/mosaiclaw15.TableOldest" = some f) (hfn : Tryd.pinned.checked.prog.funcs[f]? = some fn) :
    false = Tryd.pinned.checked.prog.looks [] ∧ ∀ (j : Nat) t, fn.params[j]? = some t → Tryd.pinned.checked.prog.wantsStandIn t = false := by
  obtain rfl : f = 3 := Option.some.inj ((show Tryd.prog.funcNamed "mosaic/mosaiclaw15.TableOldest" = some 3 by kernel_rfl).symm.trans hf) |>.symm
  obtain rfl : fn = Tryd.f3 := (Option.some.inj (Tryd.func3.symm.trans hfn)).symm
  refine ⟨by kernel_rfl, fun j t ht => ?_⟩
  rw [Tryd.params3] at ht
  have hm := Array.mem_of_getElem? ht
  simp only [List.mem_toArray, List.mem_cons, List.not_mem_nil, or_false] at hm
  have h29 : Tryd.prog.wantsStandIn 29 = false := by kernel_rfl
  have h2 : Tryd.prog.wantsStandIn 2 = false := by kernel_rfl
  have h3 : Tryd.prog.wantsStandIn 3 = false := by kernel_rfl
  rcases hm with rfl | rfl | rfl
  all_goals first | exact h29 | exact h2 | exact h3
theorem card : Rows.TableOldestCardSaid :=
  Claim7.holds_tied_plain_at .later [] _ _ _ _ said (fun _ h => by cases h) (by kernel_rfl) (fun _ h => by cases h) tableOldest_row_tie rfl ⟨rfl, rfl⟩ (by kernel_rfl) rfl plain (by kernel_rfl)
end tableOldest
theorem tableOldest_holds : Rows.TableOldestCardSaid := tableOldest.card
#print axioms tableOldest_holds
end Go.Proofs.YtkccpidgeecemaaDoor
