/-
  The document: Recut.
-/
import Derived.Test.YtaicckenpplceabGreatDoorDp11
import Derived.Test.YtaicckenpplceabGreatDoorDh
import Derived.Test.YtaicckenpplceabGreatDoorDyZ
namespace Go.Proofs.YtaicckenpplceabGreatDoor
open Go.ChangeShapes Go.WideShapes Go.ChangeAt Go.RowKit Num
open S6 (wp_region_cls quiet_val quiet_call quiet_ld ld3 ld4 ld5 ld25 ld26 load28_run load24m_run)
set_option linter.unusedVariables false
set_option linter.unusedSimpArgs false
set_option maxHeartbeats 8000000
set_option maxRecDepth 100000

namespace R
theorem right_bd {p : Pk} (h : rgtP p = true) : 0 ≤ p.off ∧ p.off ≤ 65528 ∧ p.d.length ≤ 65535 := by
  unfold rgtP at h
  by_cases hv : p.v = 6
  · rw [if_pos hv, S6.right_iff] at h
    have := h.reach; have h0 := h.o0; have h1 := h.o1
    exact ⟨h0, h1, by omega⟩
  · rw [if_neg hv, right_iff] at h
    have := h.1.reach; have h0 := h.1.o0; have h1 := h.1.o1
    exact ⟨h0, h1, by omega⟩
theorem hdD_right {p : Pk} (h : rgtP p = true) : hdD p + (p.d.length : Int) = longP p := by
  rw [long_of h]
  unfold hdD topP S6.hofP
  by_cases hv : p.v = 6
  · rw [if_neg (by omega), if_pos hv]
    cases p.frag <;> simp
  · rw [if_pos (v4 h hv), if_neg hv]; push_cast; omega
theorem pcR_all (p : Pk) : pcR p p.o 0 p.d.length p.more = p := by
  unfold pcR
  rw [List.drop_zero, Nat.sub_zero, List.take_of_length_le (Nat.le_refl _)]
  simp
theorem mtu4 (m : Int) : mtuP m 4 = (decide (68 ≤ m) && decide (m ≤ 65535)) := by unfold mtuP; rw [if_neg (by decide)]
theorem drecut_c (p : Pk) (ov dv : Value) (m : Int) (w : World) (hp : Pkt w p ov dv) (hm64 : -9223372036854775808 ≤ m ∧ m ≤ 9223372036854775807) :
    Calls Tryz.prog 7 #[.agg (csP p ov dv), .int .i64 m] w fun E w' => RecOut w p m E w' := by
  have HAD := Lib.hid hp.wf.ad
  have HP := Lib.hid hp
  have HW := Lib.hid hp.wf
  have KR : Hid (∀ w', Away [] w w' → Calls Tryz.prog 17 #[.agg (csP p ov dv)] w' fun E w'' => E = .returned (.bool (rgtP p)) ∧ Away [] w' w'') := fun w' h => dright_c p ov dv w' (hp.on h)
  have KL : Hid (∀ w', Away [] w w' → Calls Tryz.prog 18 #[.agg (csP p ov dv)] w' fun E w'' => E = .returned (.int .i64 (hdD p + p.d.length)) ∧ Away [] w' w'') := fun w' h => rlen_c p ov dv w' (hp.on h) hp.wf.ol hp.wf.dn
  have HSO : Hid (Sl w ov p.o) := hp.o
  obtain ⟨-, ⟨oa, oc, rfl, x1, x2, x3⟩, ⟨da, dc, rfl, y1, y2, y3⟩⟩ := hp
  have KC : Hid (∀ W, Away [] w W → Calls Tryz.prog 20 #[.slice oa p.o.length oc] W fun E w' => S4.BytesOut W (carryP p.o) E w') := fun W h => S4.rcarry_c oa p.o _ oc W rfl x1 (x3.away h (by simp))
  have HM64 := Lib.hid hm64
  clear x1 x2 x3 y1 y2 y3
  go_enter Tryz.func7, Tryz.ntmps7
  go_wp2_with (refine wpList_box28 rfl _ rfl p _ _ rfl ?_; refine Hid.out ?_)
  refine Lib.hid ?_
  intro g w1 hg1 hb haw
  have HA : Hid (Away [] w w1) := haw
  have HB : Hid (BoxP w1 g p (.slice oa p.o.length oc) (.slice da p.d.length dc)) := hb
  clear hb haw hg1
  go_wp2_with (refine wpList_load28 rfl _ rfl g rfl p _ _ (by exact HB.out) HAD.out ?_)
  refine (KR.out _ HA.out).mono ?_
  rintro E w2 ⟨rfl, haw⟩
  replace HB := Lib.hid (HB.out.on haw)
  replace HA := Lib.hid (HA.out.next haw (by simp))
  clear haw KR
  obtain ⟨br, hbr⟩ : ∃ b, b = rgtP p := ⟨_, rfl⟩
  have HBR := Lib.hid hbr
  rw [← hbr]
  clear hbr
  cases br
  · have HN : Hid (recutP p m = ([], 1)) := by show _ = _; unfold recutP; rw [if_neg (by rw [← HBR.out]; simp)]
    go_wp2_with fail
    go_ret2
    exact ⟨_, [], by rw [HN.out]; rfl, Cuts.nil _ _, by rw [HN.out]; rfl, HA.out⟩
  have HR : Hid (rgtP p = true) := HBR.out.symm
  by_cases h68 : m < 68
  · have HN : Hid (recutP p m = ([], 1)) := by
      show _ = _; unfold recutP; rw [if_neg]
      rw [mtu4, show decide (68 ≤ m) = false by simp; omega]; simp
    go_wp2_with fail
    go_ret2
    exact ⟨_, [], by rw [HN.out]; rfl, Cuts.nil _ _, by rw [HN.out]; rfl, HA.out⟩
  by_cases h65 : 65535 < m
  · have HN : Hid (recutP p m = ([], 1)) := by
      show _ = _; unfold recutP; rw [if_neg]
      rw [mtu4, show decide (m ≤ 65535) = false by simp; omega]; simp
    go_wp2_with fail
    go_ret2
    exact ⟨_, [], by rw [HN.out]; rfl, Cuts.nil _ _, by rw [HN.out]; rfl, HA.out⟩
  have HMT : Hid (mtuP m 4 = true) := by
    show _ = _
    rw [mtu4, show decide (68 ≤ m) = true by simp; omega, show decide (m ≤ 65535) = true by simp; omega]; rfl
  have HCU : Hid (recutP p m = (if longP p ≤ m then ([p], 0) else if p.v = 6 ∨ p.df = true then ([], 100) else (recutL p m, 0))) := by
    show _ = _; unfold recutP; rw [if_pos ⟨HR.out, HMT.out⟩]
  have HBD := Lib.hid (right_bd HR.out)
  have hlen := HBD.out.2.2
  rw [hdD_right HR.out] at KL
  obtain ⟨T, hT⟩ : ∃ T, T = longP p := ⟨_, rfl⟩
  have HT := Lib.hid hT
  rw [← hT] at KL HCU
  clear hT
  go_wp2_with (refine wpList_load28 rfl _ rfl g rfl p _ _ (by exact HB.out) HAD.out ?_)
  refine (KL.out _ HA.out).mono ?_
  rintro E w3 ⟨rfl, haw⟩
  replace HB := Lib.hid (HB.out.on haw)
  replace HA := Lib.hid (HA.out.next haw (by simp))
  clear haw KL
  have KP : Hid (∀ (W : World) (o : List Int) (oo : Value) (n t : Nat) (b : Bool), Away [] w W → Sl W oo o → n ≤ t → t ≤ p.d.length → Calls Tryz.prog 19 #[.agg (csP p (.slice oa p.o.length oc) (.slice da p.d.length dc)), oo, .int .i64 (n : Int), .int .i64 (t : Int), .bool b] W fun E w' => ∃ ou du, E = .returned (.agg (csP (pcR p o n t b) ou du)) ∧ Mine w' W.heap.size (pcR p o n t b) ou du ∧ Away [] W w') := fun W o oo n t b h hs hnt ht => dpiece_c p _ _ o oo n t b W (HP.out.on h) hs hnt ht HBD.out.2.2 HBD.out.1 HBD.out.2.1
  by_cases hf : T ≤ m
  · rw [if_pos hf] at HCU
    have df : decide (T ≤ m) = true := by simp [hf]
    have cc := HB.out.cells HAD.out
    have c44 := cc.o; have c45 := cc.d; have c41 := cc.more
    clear cc
    have KP1 : Hid (Calls Tryz.prog 19 #[.agg (csP p (.slice oa p.o.length oc) (.slice da p.d.length dc)), .slice oa p.o.length oc, .int .i64 0, .int .i64 (p.d.length : Int), .bool p.more] w3 fun E w' => ∃ ou du, E = .returned (.agg (csP p ou du)) ∧ Mine w' w3.heap.size p ou du ∧ Away [] w3 w') := by
      have := KP.out w3 p.o (.slice oa p.o.length oc) 0 p.d.length p.more HA.out (HSO.out.on HA.out) (Nat.zero_le _) (Nat.le_refl _)
      rw [pcR_all] at this
      exact this
    generalize p.more = pm at *
    go_wp2_with (first
      | (refine wpList_load28 rfl _ rfl g rfl p _ _ (by exact HB.out) HAD.out ?_)
      | (go_at_call 19; refine KP1.out.mono ?_; refine Hid.out ?_))
    refine Lib.hid ?_
    rintro E w4 ⟨oq, dq, rfl, hmine, haw⟩
    have HMQ := Lib.hid hmine
    have hs3 := HA.out.size
    replace HA := Lib.hid (HA.out.next haw (by simp))
    have hs4 := HA.out.size
    clear hmine haw HB KP1 c44 c45 c41
    go_wp2_with (refine wpList_build28 rfl _ rfl p oq dq rfl HAD.out ?_; refine Hid.out ?_)
    refine Lib.hid ?_
    intro gq w5 hgq hbq haw
    have HC5 : Hid (Cuts w5 w.heap.size (.slice (some ⟨gq, 0, none⟩) 1 1) [⟨p, oq, dq⟩]) := Cuts.one hbq HW.out ((HMQ.out.on haw).mono hs3) (by omega) (fun k hk => by have := (HMQ.out.lto k hk).1; omega)
    replace HA := Lib.hid (HA.out.next haw (by simp))
    clear hgq hbq haw
    go_wp2_with fail
    go_ret2
    exact ⟨_, _, by rw [HCU.out]; rfl, HC5.out, by rw [HCU.out]; rfl, HA.out⟩
  rw [if_neg hf] at HCU
  have df : decide (T ≤ m) = false := by simp; omega
  have c0 := (HB.out.cells HAD.out).v
  have c40 := (HB.out.cells HAD.out).df
  by_cases hv : p.v = 6
  · rw [if_pos (.inl hv)] at HCU
    rw [hv] at c0
    clear hv
    go_wp2_with fail
    go_ret2
    exact ⟨_, [], by rw [HCU.out]; rfl, Cuts.nil _ _, by rw [HCU.out]; rfl, HA.out⟩
  rw [v4 HR.out hv] at c0
  obtain ⟨pd, hpd⟩ : ∃ z, z = p.df := ⟨_, rfl⟩
  rw [← hpd] at c40
  have HPD := Lib.hid hpd
  clear hpd
  cases pd
  rotate_left
  · rw [if_pos (.inr HPD.out.symm)] at HCU
    clear hv
    go_wp2_with fail
    go_ret2
    exact ⟨_, [], by rw [HCU.out]; rfl, Cuts.nil _ _, by rw [HCU.out]; rfl, HA.out⟩
  rw [if_neg (by rw [← HPD.out]; simp [hv])] at HCU
  have HCT : Hid (R.Cuttable p m) := ⟨HR.out, hv, HMT.out, HW.out⟩
  have hst := long_cut HCT.out (by rw [← HT.out]; exact hf)
  have HSW0 := Lib.hid HA.out.size
  have HST := Lib.hid hst.2
  clear hv h68 h65 hst
  obtain ⟨ln, hln⟩ : ∃ z, z = p.d.length := ⟨_, rfl⟩
  have HLN := Lib.hid hln
  rw [← hln] at hlen HB KP
  try rw [← hln]
  clear hln
  have c44 := (HB.out.cells HAD.out).o
  go_wp2_with fail
  go_loopw [6, 7, 8] (fun v o i wr => ∃ (n k : Nat) (xs : List X), i = .int .i64 (n : Int) ∧ n < ln ∧ ln - n ≤ k ∧ Sl wr o (oD p n) ∧ Cuts wr w.heap.size v xs ∧ xs.length ≤ n ∧ xs.map X.p ++ restD p m k n = recutL p m ∧ New w3.heap.size v ∧ Away [] w3 wr) (fun _ _ i _ => ln - (intOf i).toNat)
  case atStart => exact ⟨0, p.d.length, [], rfl, by rw [HLN.out]; exact HST.out, by rw [← HLN.out]; omega, by have := HSO.out.on HA.out; unfold oD; rw [if_pos rfl]; exact this, Cuts.nil _ _, by simp, by rw [rest_start]; rfl, New.nil _, Away.refl _ _⟩
  case round =>
    obtain ⟨n, k, xs, rfl, hn, hk, hso, hcu, hxl, hpc, hnv, haw⟩ := hrel
    have HC := Lib.hid hcu
    have HPC := Lib.hid hpc
    have HAW := Lib.hid haw
    have HSOR := Lib.hid hso
    have HBr := Lib.hid (HB.out.on haw)
    have HNV3 := Lib.hid hnv
    obtain ⟨hr1, hr8, hlo, hm5⟩ := HCT.out.room n
    clear hcu hpc haw hnv hr1 c44
    obtain ⟨xa, xc, hoe, -, -, -⟩ := hso
    subst hoe
    obtain ⟨lo, hloe⟩ : ∃ z, z = (oD p n).length := ⟨_, rfl⟩
    have HLO := Lib.hid hloe
    rw [← hloe] at hlo hr8 HSOR ⊢
    clear hloe
    have c45 := (HBr.out.cells HAD.out).d
    by_cases hgt : m < 20 + (lo : Int) + (ln : Int) - (n : Int)
    · obtain ⟨s, hs, hs8, hto, hk1, hrest⟩ := HCT.out.more (n := n) (k := k) (by rw [← HLN.out]; exact hn) (by rw [← HLN.out]; exact hk) (by rw [← HLN.out, ← HLO.out]; exact hgt)
      rw [← HLO.out] at hs
      rw [← HLN.out] at hto hk1
      have HREST := Lib.hid hrest
      obtain ⟨R, hR⟩ : ∃ R : Nat, (R : Int) = m - 20 - (lo : Int) := ⟨(m - 20 - (lo : Int)).toNat, by omega⟩
      obtain ⟨q8, hq8⟩ : ∃ q, q = R / 8 := ⟨_, rfl⟩
      have hRm : m - 20 - (lo : Int) = (R : Int) := hR.symm
      have hdv : Int.tdiv (R : Int) 8 = (q8 : Int) := by rw [Int.tdiv_eq_ediv_of_nonneg (by omega)]; omega
      have hmu : (q8 : Int) * 8 = (s : Int) := by rw [hs]; omega
      obtain ⟨TO, hTO⟩ : ∃ t, t = n + s := ⟨_, rfl⟩
      have hto2 : (n : Int) + (s : Int) = (TO : Int) := by omega
      have hRb : R ≤ 65535 := by omega
      have hqb : q8 ≤ 65535 := by omega
      have hsb : s ≤ 65535 := by omega
      have hTb : TO < ln := by omega
      have hTk : ln - TO ≤ k - 1 := by omega
      have hnT : n < TO := by omega
      have KP1 := Lib.hid (KP.out wr (oD p n) (.slice xa lo xc) n TO true (HA.out.trans HAW.out) HSOR.out (Nat.le_of_lt hnT) (Nat.le_of_lt hTb))
      have HWQ := Lib.hid (HCT.out.wf n TO (Nat.le_of_lt hnT) (by rw [← HLN.out]; exact Nat.le_of_lt hTb) true)
      have HPS : Hid (xs.map X.p ++ [pcR p (oD p n) n TO true] ++ restD p m (k - 1) TO = recutL p m) := by
        show _ = _
        rw [← HPC.out, HREST.out, ← hTO]; simp
      have hR8 : 8 ≤ R := by omega
      clear hs hs8 hto hk1 hrest HREST hTO hR hq8 HSOR hr8
      go_wp2_with (first
        | (refine wpList_load28 rfl _ rfl g rfl p _ _ (by exact HBr.out) HAD.out ?_)
        | (go_at_call 19; refine KP1.out.mono ?_; refine Hid.out ?_))
      refine Lib.hid ?_
      first
        | rintro E y1 ou du rfl hmi haw
        | rintro E y1 ⟨ou, du, rfl, hmi, haw⟩
      have HMI := Lib.hid hmi
      have HOLD : Hid ((∀ y ∈ xs, ∀ k, y.o.ownBlock = some k ∨ y.d.ownBlock = some k → k < wr.heap.size) ∧ (∀ k, u6.ownBlock = some k → k < wr.heap.size)) := ⟨fun y hy k hk => ((HC.out.each y hy).2.lto k hk).1, fun k hk => HC.out.lst.lt k hk⟩
      have HSY := Lib.hid (HA.out.trans HAW.out).size
      replace HC := Lib.hid (HC.out.on haw)
      replace HAW := Lib.hid (HAW.out.trans haw)
      replace HBr := Lib.hid (HBr.out.on haw)
      clear haw hmi KP1 c45
      go_wp2_with (refine wpList_build28 rfl _ rfl (pcR p (oD p n) n TO true) ou du rfl HWQ.out.ad ?_; refine Hid.out ?_)
      refine Lib.hid ?_
      intro gq y4 hgq hbq haw
      replace HC := Lib.hid (HC.out.on haw)
      replace HAW := Lib.hid (HAW.out.trans haw)
      replace HMI := Lib.hid (HMI.out.on haw)
      replace HBr := Lib.hid (HBr.out.on haw)
      have HBQ := Lib.hid hbq
      clear haw hbq hgq
      go_wp2_with (refine wpList_appP rfl _ _ rfl _ xs rfl (by exact HC.out.lst) gq 1 rfl (pcR p (oD p n) n TO true) ou du HBQ.out HWQ.out.ad HMI.out.o.one HMI.out.d.one (by omega) ?_; refine Hid.out ?_)
      refine Lib.hid ?_
      intro v' y5 hl5 hgr hmv
      have HSZ4 := Lib.hid HAW.out.size
      have HC5 : Hid (Cuts y5 w.heap.size v' (xs ++ [⟨pcR p (oD p n) n TO true, ou, du⟩])) := by
        have hmn := HMI.out
        refine HC.out.snoc (x := ⟨pcR p (oD p n) n TO true, ou, du⟩) ⟨HWQ.out, hmn.mono HSY.out⟩ (fun y hy k hk => ?_) (fun k hk e => ?_) hl5 hgr hmv (by have := HSZ4.out; have := HSW0.out; omega)
        · have h1 := HOLD.out.1 y hy k hk
          constructor
          · intro e; have := hmn.no k e; omega
          · intro e; have := hmn.nd k e; omega
        · have h1 := HOLD.out.2 k e
          have := (hmn.lto k hk).2; omega
      have HNV4 := Lib.hid (HNV3.out.moved hmv HSZ4.out)
      have HLG := Lib.hid HB.out.lt
      replace HBr : Hid (BoxP y5 g p (.slice oa p.o.length oc) (.slice da ln dc)) := (hgr.block g (lt_of_block HBr.out) (fun e => by have h1 := HNV3.out g e.symm; have h2 := HLG.out; omega)).trans HBr.out
      replace HAW : Hid (Away [] w3 y5) := HAW.out.grown hgr (fun k hk => .inr (HNV3.out k hk))
      have HPS2 : Hid ((xs ++ [(⟨pcR p (oD p n) n TO true, ou, du⟩ : X)]).map X.p ++ restD p m (k - 1) TO = recutL p m) := by
        show _ = _
        rw [← HPS.out, List.map_append]; rfl
      clear hl5 hgr hmv HC HMI HBQ HOLD HPS
      have c44 := (HBr.out.cells HAD.out).o
      go_wp2_with fail
      refine (KC.out _ (HA.out.trans HAW.out)).mono ?_
      rintro E y6 ⟨vo, rfl, hov, hnv, haw⟩
      have HOV : Hid (Sl y6 vo (oD p TO)) := by
        have hcv := carry_valid HW.out.o
        have hcl := (valid_len hcv.1).1
        have := hov.sl hcv.2.2.1 (by omega)
        show Sl y6 vo (oD p TO)
        unfold oD; rw [if_neg (by omega)]; exact this
      replace HC5 := Lib.hid (HC5.out.on haw)
      replace HAW := Lib.hid (HAW.out.trans haw)
      clear hov hnv haw c44
      go_wp2_with fail
      go_roundw
      case rel => exact ⟨TO, k - 1, xs ++ [⟨pcR p (oD p n) n TO true, ou, du⟩], by first | rfl | go_num, hTb, hTk, HOV.out, HC5.out, by simp; omega, HPS2.out, HNV4.out, HAW.out⟩
      case measure => simp [intOf]; omega
    · have hrest := HCT.out.last (n := n) (k := k) (by rw [← HLN.out]; exact hn) (by rw [← HLN.out]; exact hk) (by rw [← HLN.out, ← HLO.out]; exact hgt)
      have KP1 := Lib.hid (KP.out wr (oD p n) (.slice xa lo xc) n ln p.more (HA.out.trans HAW.out) HSOR.out (Nat.le_of_lt hn) (Nat.le_refl _))
      have HWQ := Lib.hid (HCT.out.wf n ln (Nat.le_of_lt hn) (by rw [← HLN.out]; exact Nat.le_refl _) p.more)
      have HPS : Hid (xs.map X.p ++ [pcR p (oD p n) n ln p.more] = recutL p m) := by
        show _ = _
        rw [← HPC.out, hrest, ← HLN.out]
      have c41 := (HBr.out.cells HAD.out).more
      clear hrest HSOR hr8
      generalize p.more = pm at *
      go_wp2_with (first
        | (refine wpList_load28 rfl _ rfl g rfl p _ _ (by exact HBr.out) HAD.out ?_)
        | (go_at_call 19; refine KP1.out.mono ?_; refine Hid.out ?_))
      refine Lib.hid ?_
      first
        | rintro E y1 ou du rfl hmi haw
        | rintro E y1 ⟨ou, du, rfl, hmi, haw⟩
      have HMI := Lib.hid hmi
      have HOLD : Hid ((∀ y ∈ xs, ∀ k, y.o.ownBlock = some k ∨ y.d.ownBlock = some k → k < wr.heap.size) ∧ (∀ k, u6.ownBlock = some k → k < wr.heap.size)) := ⟨fun y hy k hk => ((HC.out.each y hy).2.lto k hk).1, fun k hk => HC.out.lst.lt k hk⟩
      have HSY := Lib.hid (HA.out.trans HAW.out).size
      replace HC := Lib.hid (HC.out.on haw)
      replace HAW := Lib.hid (HAW.out.trans haw)
      clear haw hmi KP1 c45 c41 HBr
      go_wp2_with (refine wpList_build28 rfl _ rfl (pcR p (oD p n) n ln pm) ou du rfl HWQ.out.ad ?_; refine Hid.out ?_)
      refine Lib.hid ?_
      intro gq y4 hgq hbq haw
      replace HC := Lib.hid (HC.out.on haw)
      replace HAW := Lib.hid (HAW.out.trans haw)
      replace HMI := Lib.hid (HMI.out.on haw)
      have HBQ := Lib.hid hbq
      clear haw hbq hgq
      go_wp2_with (refine wpList_appP rfl _ _ rfl _ xs rfl (by exact HC.out.lst) gq 1 rfl (pcR p (oD p n) n ln pm) ou du HBQ.out HWQ.out.ad HMI.out.o.one HMI.out.d.one (by omega) ?_; refine Hid.out ?_)
      refine Lib.hid ?_
      intro v' y5 hl5 hgr hmv
      have HSZ4 := Lib.hid HAW.out.size
      have HC5 : Hid (Cuts y5 w.heap.size v' (xs ++ [⟨pcR p (oD p n) n ln pm, ou, du⟩])) := by
        have hmn := HMI.out
        refine HC.out.snoc (x := ⟨pcR p (oD p n) n ln pm, ou, du⟩) ⟨HWQ.out, hmn.mono HSY.out⟩ (fun y hy k hk => ?_) (fun k hk e => ?_) hl5 hgr hmv (by have := HSZ4.out; have := HSW0.out; omega)
        · have h1 := HOLD.out.1 y hy k hk
          constructor
          · intro e; have := hmn.no k e; omega
          · intro e; have := hmn.nd k e; omega
        · have h1 := HOLD.out.2 k e
          have := (hmn.lto k hk).2; omega
      replace HAW : Hid (Away [] w3 y5) := HAW.out.grown hgr (fun k hk => .inr (HNV3.out k hk))
      clear hl5 hgr hmv HC HMI HBQ HOLD
      go_wp2_with fail
      go_ret2
      exact ⟨_, _, by rw [HCU.out]; rfl, HC5.out, by rw [HCU.out]; show (xs ++ [(⟨pcR p (oD p n) n ln pm, ou, du⟩ : X)]).map X.p = recutL p m; rw [← HPS.out, List.map_append]; rfl, HA.out.trans HAW.out⟩
end R
#print axioms R.drecut_c
end Go.Proofs.YtaicckenpplceabGreatDoor
