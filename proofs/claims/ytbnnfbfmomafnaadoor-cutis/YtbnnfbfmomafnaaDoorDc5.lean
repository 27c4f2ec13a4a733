/-
  The document: Cut.
-/
import Derived.Test.YtbnnfbfmomafnaaDoorDc4
import Derived.Test.YtbnnfbfmomafnaaDoorCutF
namespace Go.Proofs.YtbnnfbfmomafnaaDoor
open Go.ChangeShapes Go.WideShapes Go.ChangeAt Go.RowKit Num
set_option linter.unusedVariables false
set_option linter.unusedSimpArgs false
set_option maxHeartbeats 8000000
set_option maxRecDepth 100000

theorem unc_o6 {p : Pk} (h : Unc p) (hv : p.v = 6) : p.o = [] := by
  have := h.r; unfold rgtP at this; rw [if_pos hv, S6.right_iff] at this
  exact this.o
theorem unc_v4 {p : Pk} (h : Unc p) (hv : ¬ p.v = 6) : p.v = 4 := by
  have := h.r; unfold rgtP at this; rw [if_neg hv, right_iff] at this
  exact this.1.v
theorem unc_valid {p : Pk} (h : Unc p) (hv : ¬ p.v = 6) : validP p.o = true := by
  have := h.r; unfold rgtP at this; rw [if_neg hv, right_iff] at this
  exact this.2
def frmD (p : Pk) (id : Int) (n : Nat) : Pk := if n = 0 then fstP p id else latP p id
theorem frmD_frm {p : Pk} (h : Unc p) (hw : Wf p) {id : Int} (h0 : 0 ≤ id) (h1 : id ≤ 4294967295) (n : Nat) : Frm p (frmD p id n) := by
  unfold frmD; split
  · exact h.fst hw h0 h1
  · exact h.lat hw h0 h1
theorem pcD_eq {p : Pk} (h : Unc p) (id : Int) (n t : Nat) : pcD p n t id = plcP (frmD p id n) n ((p.d.drop n).take (t - n)) (decide (t < p.d.length)) := by
  unfold pcD frmD
  by_cases hv : p.v = 6
  · rw [if_pos hv]
    have ho := unc_o6 h hv
    have hc : carryP p.o = p.o := by rw [ho]; exact carry_nil rfl
    split
    · unfold fstP plcP; rw [if_pos hv]
    · unfold latP fstP plcP; rw [if_pos hv, hc]
  · rw [if_neg hv]
    by_cases hn : n = 0
    · rw [if_pos hn, if_neg (by omega)]
      unfold fstP plcP; rw [if_neg hv]
    · rw [if_neg hn, if_pos (by omega)]
      unfold latP fstP plcP; rw [if_neg hv]
theorem frmD_top {p : Pk} (id : Int) (n : Nat) : topP (frmD p id n) = if p.v = 6 then 48 else 20 + (if n = 0 then p.o else carryP p.o).length := by
  unfold frmD
  by_cases hn : n = 0
  · rw [if_pos hn, if_pos hn, fst_top]
  · rw [if_neg hn, if_neg hn, lat_top]
theorem hdD_top {p : Pk} (h : Unc p) (id : Int) (n t : Nat) : hdD (pcD p n t id) = (topP (frmD p id n) : Int) := by
  rw [frmD_top]
  unfold hdD pcD
  by_cases hv : p.v = 6
  · rw [if_pos hv, if_pos hv]
    simp only [hv]
    rw [if_neg (by decide)]; rfl
  · have h4 := unc_v4 h hv
    rw [if_neg hv, if_neg hv]
    simp only [h4, if_true]
    by_cases hn : n = 0
    · rw [if_neg (by omega), if_pos hn]; push_cast; rfl
    · rw [if_pos (by omega), if_neg hn]; push_cast; rfl
theorem hdD_unc {p : Pk} (h : Unc p) : hdD p = (topP p : Int) := by
  unfold hdD topP S6.hofP
  by_cases hv : p.v = 6
  · rw [if_neg (by omega), if_pos hv, h.frag]; rfl
  · rw [if_pos (unc_v4 h hv), if_neg hv]; push_cast; rfl
theorem fits_len {p : Pk} (h : Unc p) (m : Int) : decide (hdD p + (p.d.length : Int) ≤ m) = fitsP p m := by
  rw [Bool.eq_iff_iff, fits_iff, decide_eq_true_eq, hdD_unc h]
  constructor
  · intro e; exact ⟨h.r, by push_cast; omega⟩
  · intro e; have := e.2; push_cast at this; omega
theorem rcut_c (p : Pk) (ov dv : Value) (m id : Int) (w : World) (hp : Pkt w p ov dv) (h0 : 0 ≤ id) (h1 : id ≤ 4294967295) (hm64 : -9223372036854775808 ≤ m ∧ m ≤ 9223372036854775807) :
    Calls Tryd.prog 26 #[.agg (csP p ov dv), .int .i64 m, .int .u32 id] w fun E w' => CutOut w p m id E w' := by
  have HAD := Lib.hid hp.wf.ad
  have HP := Lib.hid hp
  have HW := Lib.hid hp.wf
  have HM64 := Lib.hid hm64
  have KU : Hid (∀ w', Away [] w w' → Calls Tryd.prog 46 #[.agg (csP p ov dv)] w' fun E w'' => E = .returned (.bool (uncutP p)) ∧ Away [] w' w'') := fun w' h => rwhole_c p ov dv w' (hp.on h)
  have KM : Hid (∀ w', Calls Tryd.prog 47 #[.int .i64 p.v, .int .i64 m] w' fun E w'' => E = .returned (.bool (mtuP m p.v)) ∧ w'' = w') := fun w' => rmtu_c m p.v w'
  have KL : Hid (∀ w', Away [] w w' → Calls Tryd.prog 48 #[.agg (csP p ov dv)] w' fun E w'' => E = .returned (.int .i64 (hdD p + p.d.length)) ∧ Away [] w' w'') := fun w' h => rlen_c p ov dv w' (hp.on h) hp.wf.ol hp.wf.dn
  obtain ⟨-, ⟨oa, oc, rfl, x1, x2, x3⟩, ⟨da, dc, rfl, y1, y2, y3⟩⟩ := hp
  have KO : Hid (∀ W, Away [] w W → Calls Tryd.prog 49 #[.slice oa p.o.length oc] W fun E w' => ∃ v, E = .returned v ∧ Owns w' v p.o ∧ New W.heap.size v ∧ Away [] W w') := fun W h => rown_c oa p.o _ oc W rfl x2 (x3.away h (by simp))
  have KD : Hid (∀ W, Away [] w W → Calls Tryd.prog 49 #[.slice da p.d.length dc] W fun E w' => ∃ v, E = .returned v ∧ Owns w' v p.d ∧ New W.heap.size v ∧ Away [] W w') := fun W h => rown_c da p.d _ dc W rfl y2 (y3.away h (by simp))
  have HFR : Hid (∀ n t : Nat, uncutP p = true → n ≤ t → t ≤ p.d.length → Wf (pcD p n t id)) := fun n t hu hnt ht => by
    have hun := (uncut_iff p).1 hu
    have hall := hun.all.1
    rw [pcD_eq hun]
    refine (frmD_frm hun HW.out h0 h1 n).wf HW.out n (by omega) _ ?_ (by rw [List.length_take, List.length_drop]; omega) _
    intro x hx
    exact HW.out.d x (List.mem_of_mem_drop (List.mem_of_mem_take hx))
  have KP : Hid (∀ (W : World) (n t : Nat), Away [] w W → uncutP p = true → n ≤ t → t ≤ p.d.length → Calls Tryd.prog 51 #[.agg (csP p (.slice oa p.o.length oc) (.slice da p.d.length dc)), .int .i64 (n : Int), .int .i64 (t : Int), .int .u32 id] W fun E w' => ∃ ou du, E = .returned (.agg (csP (pcD p n t id) ou du)) ∧ Mine w' W.heap.size (pcD p n t id) ou du ∧ Away [] W w') := fun W n t h hu hnt ht => by
    have hun := (uncut_iff p).1 hu
    exact rpiece_c p _ _ n t id W (HP.out.on h) hnt ht hun.all.1 (fun hv => unc_valid hun hv) h0 h1
  clear x1 x2 x3 y1 y2 y3 hm64
  go_enter Tryd.func26, Tryd.ntmps26
  go_wp2_with (refine wpList_box28 rfl _ rfl p _ _ rfl ?_; refine Hid.out ?_)
  refine Lib.hid ?_
  intro g w1 hg1 hb haw
  have HA : Hid (Away [] w w1) := haw
  have HB : Hid (BoxP w1 g p (.slice oa p.o.length oc) (.slice da p.d.length dc)) := hb
  clear hb haw hg1
  go_wp2_with (refine wpList_load28 rfl _ rfl g rfl p _ _ (by exact HB.out) HAD.out ?_)
  refine (KU.out _ HA.out).mono ?_
  rintro E w2 ⟨rfl, haw⟩
  replace HB := Lib.hid (HB.out.on haw)
  replace HA := Lib.hid (HA.out.next haw (by simp))
  clear haw KU
  have c0 := (HB.out.cells HAD.out).v
  obtain ⟨bu, hbu⟩ : ∃ bu, bu = uncutP p := ⟨_, rfl⟩
  have HBU := Lib.hid hbu
  rw [← hbu]
  clear hbu
  cases bu
  · have HN : Hid (cutP p m id = ([], 1)) := cut_not (by rw [← HBU.out]; rfl)
    go_wp2_with fail
    go_ret2
    exact ⟨_, [], by rw [HN.out]; rfl, Cuts.nil _ _, by rw [HN.out]; rfl, HA.out⟩
  have HUN : Hid (Unc p) := (uncut_iff p).1 HBU.out.symm
  obtain ⟨bm, hbm⟩ : ∃ bm, bm = mtuP m p.v := ⟨_, rfl⟩
  have HBM := Lib.hid hbm
  rw [← hbm] at KM
  clear hbm
  go_wp2_with fail
  refine (KM.out _).mono ?_
  rintro E _ ⟨rfl, rfl⟩
  clear KM
  cases bm
  · have HN : Hid (cutP p m id = ([], 1)) := cut_not (by rw [← HBM.out]; simp)
    go_wp2_with fail
    go_ret2
    exact ⟨_, [], by rw [HN.out]; rfl, Cuts.nil _ _, by rw [HN.out]; rfl, HA.out⟩
  have HCU : Hid (cutP p m id = (if fitsP p m = true then ([p], 0) else if p.df = true then ([], 100) else (cutL p m id, 0))) := by
    show _ = _
    unfold cutP; rw [← HBU.out, ← HBM.out]; rfl
  have HFL := Lib.hid (fits_len HUN.out m)
  obtain ⟨T, hT⟩ : ∃ T, T = hdD p + (p.d.length : Int) := ⟨_, rfl⟩
  rw [← hT] at KL HFL
  clear hT c0
  go_wp2_with (refine wpList_load28 rfl _ rfl g rfl p _ _ (by exact HB.out) HAD.out ?_)
  refine (KL.out _ HA.out).mono ?_
  rintro E w3 ⟨rfl, haw⟩
  replace HB := Lib.hid (HB.out.on haw)
  replace HA := Lib.hid (HA.out.next haw (by simp))
  clear haw KL
  obtain ⟨bf, hbf⟩ : ∃ bf, bf = fitsP p m := ⟨_, rfl⟩
  have HBF := Lib.hid hbf
  have hfl : decide (T ≤ m) = bf := by rw [HFL.out, hbf]
  clear hbf
  cases bf
  · have c40 := (HB.out.cells HAD.out).df
    have hTm : ¬ (T ≤ m) := by simpa using hfl
    rw [← HBF.out, if_neg (by simp)] at HCU
    generalize hdf : p.df = df at c40
    have HDF := Lib.hid hdf
    clear hdf
    rw [HDF.out] at HCU
    cases df
    · have HSW0 := Lib.hid HA.out.size
      have hall := HUN.out.all.1
      obtain ⟨ln, hln⟩ : ∃ z, z = p.d.length := ⟨_, rfl⟩
      have HLN := Lib.hid hln
      rw [← hln] at hall HB KP HFR
      try rw [← hln]
      clear hln
      go_wp2_with fail
      go_loopw [9, 10] (fun v i wr => ∃ (n k : Nat) (xs : List X), i = .int .i64 (n : Int) ∧ n ≤ ln ∧ (n = ln ∨ n % 8 = 0) ∧ ln - n ≤ k ∧ Cuts wr w.heap.size v xs ∧ xs.length ≤ n ∧ xs.map X.p ++ pcsP p m (latP p id) k (frmD p id n) n = cutL p m id ∧ New w3.heap.size v ∧ Away [] w3 wr) (fun _ i _ => ln - (intOf i).toNat)
      case atStart => exact ⟨0, p.d.length, [], rfl, by omega, by omega, by rw [← HLN.out]; omega, Cuts.nil _ _, by simp, rfl, New.nil _, Away.refl _ _⟩
      case round =>
        obtain ⟨n, k, xs, rfl, hn, hn8, hk, hcu, hxl, hpc, hnv, haw⟩ := hrel
        have HC := Lib.hid hcu
        have HPC := Lib.hid hpc
        have HAW := Lib.hid haw
        have HBr := Lib.hid (HB.out.on haw)
        have HNV3 := Lib.hid hnv
        clear hcu hpc haw hnv
        have c45 := (HBr.out.cells HAD.out).d
        by_cases hlt : n < ln
        · have j1 : decide (n < ln) = true := by simp; omega
          have j0 : (n : Int) < (ln : Int) := by omega
          have KP1 := Lib.hid (KP.out wr n n (HA.out.trans HAW.out) HBU.out.symm (Nat.le_refl _) hn)
          have hn0 : n % 8 = 0 := by omega
          have HN8 := Lib.hid hn0
          clear hn8 hn0
          go_wp2_with (first
            | (refine wpList_load28 rfl _ rfl g rfl p _ _ (by exact HBr.out) HAD.out ?_)
            | (go_at_call 51; refine KP1.out.mono ?_; refine Hid.out ?_))
          refine Lib.hid ?_
          rintro E y1 ⟨ou, du, rfl, hmi, haw⟩
          have HWQ := Lib.hid (HFR.out n n HBU.out.symm (Nat.le_refl _) hn)
          have KH := Lib.hid (rhead_c (pcD p n n id) ou du y1 (hmi.pkt HWQ.out) HWQ.out.ol)
          rw [hdD_top HUN.out] at KH
          have HFF := Lib.hid (frmD_frm HUN.out HW.out h0 h1 n)
          obtain ⟨f, hf⟩ : ∃ f, f = frmD p id n := ⟨_, rfl⟩
          have HF := Lib.hid hf
          rw [← hf] at KH HFF
          have hre := room_eq HUN.out HW.out HFF.out HBM.out.symm
          obtain ⟨R, hR⟩ : ∃ R, R = roomP f m := ⟨_, rfl⟩
          have HRR := Lib.hid hR
          rw [← hR] at hre
          obtain ⟨tp, htp⟩ : ∃ t : Int, t = (topP f : Int) := ⟨_, rfl⟩
          rw [← htp] at KH
          have hmt : m - tp = (R : Int) := by rw [htp]; exact hre.2.2.2.1.symm
          have hR8 : 8 ≤ R := hre.2.2.1
          have hRb : R ≤ 65515 := hre.2.2.2.2.2.2
          replace HC := Lib.hid (HC.out.on haw)
          replace HAW := Lib.hid (HAW.out.trans haw)
          replace HBr := Lib.hid (HBr.out.on haw)
          clear haw hmi hf hR htp hre KP1 c45
          go_wp2_with (go_at_call 50; refine KH.out.mono ?_; refine Hid.out ?_)
          refine Lib.hid ?_
          first
            | rintro E y2 rfl haw
            | rintro E y2 ⟨rfl, haw⟩
          replace HC := Lib.hid (HC.out.on haw)
          replace HAW := Lib.hid (HAW.out.trans haw)
          replace HBr := Lib.hid (HBr.out.on haw)
          clear haw KH
          have c0 := (HBr.out.cells HAD.out).v
          have c45 := (HBr.out.cells HAD.out).d
          obtain ⟨q8, hq8⟩ : ∃ q, q = R / 8 := ⟨_, rfl⟩
          have hdv : Int.tdiv (R : Int) 8 = (q8 : Int) := by rw [Int.tdiv_eq_ediv_of_nonneg (by omega)]; omega
          obtain ⟨Q, hQ⟩ : ∃ q, q = R / 8 * 8 := ⟨_, rfl⟩
          have hmu : (q8 : Int) * 8 = (Q : Int) := by omega
          have hdQ : Int.tdiv (Q : Int) 8 = (q8 : Int) := by rw [Int.tdiv_eq_ediv_of_nonneg (by omega)]; omega
          have hqb : q8 ≤ 65515 := by omega
          have hQb : Q ≤ 65515 := by omega
          have HQ := Lib.hid hQ
          clear hq8 hQ
          rcases (show p.v = 6 ∨ ¬ p.v = 6 from by by_cases h : p.v = 6; exact .inl h; exact .inr h) with h6 | h6
          · have HSV : Hid (shareP (ln - n) R p.v = if ln - n ≤ Q then ln - n else Q) := by show _ = _; unfold shareP; rw [if_pos h6, ← HQ.out]
            rw [h6] at c0
            clear h6
            by_cases hle : ln - n ≤ Q
            · have hgt : ¬ ((Q : Int) < (ln : Int) - (n : Int)) := by omega
              have hsb : (ln : Int) - (n : Int) ≤ (Q : Int) := by omega
              have HS : Hid (ln = n + shareP (ln - n) R p.v) := by show _ = _; rw [HSV.out, if_pos hle]; omega
              obtain ⟨TO, hTO⟩ : ∃ t, t = ln := ⟨_, rfl⟩
              have HTS : Hid (TO = n + shareP (ln - n) R p.v) := by show _ = _; rw [hTO]; exact HS.out
              have hsp := share_pos (ln - n) R p.v (by omega) hR8
              have hsl := share_le (ln - n) R p.v
              have hs8 := share_8 (ln - n) R p.v
              have htn : n < TO := by rw [HTS.out]; omega
              have htl : TO ≤ ln := by rw [HTS.out]; omega
              have HT8 : Hid (TO = ln ∨ TO % 8 = 0) := by show _ ∨ _; have h1 := HTS.out; have h2 := HN8.out; rcases hs8 with h | h <;> omega
              have HPE : Hid (pcD p n TO id = plcP f n ((p.d.drop n).take (shareP (p.d.length - n) (roomP f m) p.v)) (decide (shareP (p.d.length - n) (roomP f m) p.v < p.d.length - n))) := by
                show _ = _
                rw [pcD_eq HUN.out, ← HF.out, ← HLN.out, ← HRR.out]
                have e1 : TO - n = shareP (ln - n) R p.v := by have := HTS.out; omega
                have e2 : decide (TO < ln) = decide (shareP (ln - n) R p.v < ln - n) := by
                  rw [Bool.eq_iff_iff, decide_eq_true_eq, decide_eq_true_eq]; have := HTS.out; omega
                rw [e1, e2]
              have HPS : Hid (xs.map X.p ++ [pcD p n TO id] ++ pcsP p m (latP p id) (k - 1) (frmD p id TO) TO = cutL p m id) := by
                show _ = _
                have e := HPC.out
                obtain ⟨k', rfl⟩ : ∃ k', k = k' + 1 := ⟨k - 1, by omega⟩
                rw [pcsP, if_pos (by rw [← HLN.out]; exact hlt), ← HF.out, ← HPE.out] at e
                have e3 : frmD p id TO = latP p id := by unfold frmD; rw [if_neg (by omega)]
                have e4 : n + shareP (p.d.length - n) (roomP f m) p.v = TO := by rw [← HLN.out, ← HRR.out]; exact HTS.out.symm
                rw [e4] at e
                rw [e3, ← e]
                simp
              have HWQ2 := Lib.hid (HFR.out n TO HBU.out.symm (Nat.le_of_lt htn) htl)
              have KP2 := Lib.hid (KP.out y2 n TO (HA.out.trans HAW.out) HBU.out.symm (Nat.le_of_lt htn) htl)
              subst hTO
              clear HPC HSV HS HTS hsp hsl hs8 hle
              go_wp2_with (first
                | (refine wpList_load28 rfl _ rfl g rfl p _ _ (by exact HBr.out) HAD.out ?_)
                | (go_at_call 51; refine KP2.out.mono ?_; refine Hid.out ?_))
              refine Lib.hid ?_
              rintro E y3 ⟨ou2, du2, rfl, hmi, haw⟩
              have HMI := Lib.hid hmi
              have HOLD : Hid ((∀ y ∈ xs, ∀ k, y.o.ownBlock = some k ∨ y.d.ownBlock = some k → k < y2.heap.size) ∧ (∀ k, u9.ownBlock = some k → k < y2.heap.size)) := ⟨fun y hy k hk => ((HC.out.each y hy).2.lto k hk).1, fun k hk => HC.out.lst.lt k hk⟩
              have HSY := Lib.hid (HA.out.trans HAW.out).size
              replace HC := Lib.hid (HC.out.on haw)
              replace HAW := Lib.hid (HAW.out.trans haw)
              clear haw hmi KP2 c45 c0
              go_wp2_with (refine wpList_build28 rfl _ rfl (pcD p n TO id) ou2 du2 rfl HWQ2.out.ad ?_; refine Hid.out ?_)
              refine Lib.hid ?_
              intro gq y4 hgq hbq haw
              replace HC := Lib.hid (HC.out.on haw)
              replace HAW := Lib.hid (HAW.out.trans haw)
              replace HMI := Lib.hid (HMI.out.on haw)
              have HBQ := Lib.hid hbq
              clear haw hbq hgq
              go_wp2_with (refine wpList_appP rfl _ _ rfl _ xs rfl (by exact HC.out.lst) gq 1 rfl (pcD p n TO id) ou2 du2 HBQ.out HWQ2.out.ad HMI.out.o.one HMI.out.d.one (by omega) ?_; refine Hid.out ?_)
              refine Lib.hid ?_
              intro v' y5 hl5 hgr hmv
              have HSZ4 := Lib.hid HAW.out.size
              have HC5 : Hid (Cuts y5 w.heap.size v' (xs ++ [⟨pcD p n TO id, ou2, du2⟩])) := by
                have hmn := HMI.out
                refine HC.out.snoc (x := ⟨pcD p n TO id, ou2, du2⟩) ⟨HWQ2.out, hmn.mono HSY.out⟩ (fun y hy k hk => ?_) (fun k hk e => ?_) hl5 hgr hmv (by have := HSZ4.out; have := HSW0.out; omega)
                · have h1 := HOLD.out.1 y hy k hk
                  constructor
                  · intro e; have := hmn.no k e; omega
                  · intro e; have := hmn.nd k e; omega
                · have h1 := HOLD.out.2 k e
                  have := (hmn.lto k hk).2; omega
              have HNV4 := Lib.hid (HNV3.out.moved hmv HSZ4.out)
              replace HAW : Hid (Away [] w3 y5) := HAW.out.grown hgr (fun k hk => .inr (HNV3.out k hk))
              have HPS2 : Hid ((xs ++ [(⟨pcD p n TO id, ou2, du2⟩ : X)]).map X.p ++ pcsP p m (latP p id) (k - 1) (frmD p id TO) TO = cutL p m id) := by
                show _ = _
                rw [← HPS.out, List.map_append]; rfl
              clear hl5 hgr hmv HC HMI HBQ HOLD HPS
              go_wp2_with fail
              go_roundw
              case rel => exact ⟨TO, k - 1, xs ++ [⟨pcD p n TO id, ou2, du2⟩], by first | rfl | go_num, htl, by first | exact HT8.out | exact .inl rfl, by omega, HC5.out, by simp; omega, HPS2.out, HNV4.out, HAW.out⟩
              case measure => simp [intOf]; omega
            · have hgt : ((Q : Int) < (ln : Int) - (n : Int)) := by omega
              have HS : Hid (n + Q = n + shareP (ln - n) R p.v) := by show _ = _; rw [HSV.out, if_neg hle]
              obtain ⟨TO, hTO⟩ : ∃ t, t = n + Q := ⟨_, rfl⟩
              have hto : (n : Int) + (Q : Int) = (TO : Int) := by omega
              have HTS : Hid (TO = n + shareP (ln - n) R p.v) := by show _ = _; rw [hTO]; exact HS.out
              have hsp := share_pos (ln - n) R p.v (by omega) hR8
              have hsl := share_le (ln - n) R p.v
              have hs8 := share_8 (ln - n) R p.v
              have htn : n < TO := by rw [HTS.out]; omega
              have htl : TO ≤ ln := by rw [HTS.out]; omega
              have HT8 : Hid (TO = ln ∨ TO % 8 = 0) := by show _ ∨ _; have h1 := HTS.out; have h2 := HN8.out; rcases hs8 with h | h <;> omega
              have HPE : Hid (pcD p n TO id = plcP f n ((p.d.drop n).take (shareP (p.d.length - n) (roomP f m) p.v)) (decide (shareP (p.d.length - n) (roomP f m) p.v < p.d.length - n))) := by
                show _ = _
                rw [pcD_eq HUN.out, ← HF.out, ← HLN.out, ← HRR.out]
                have e1 : TO - n = shareP (ln - n) R p.v := by have := HTS.out; omega
                have e2 : decide (TO < ln) = decide (shareP (ln - n) R p.v < ln - n) := by
                  rw [Bool.eq_iff_iff, decide_eq_true_eq, decide_eq_true_eq]; have := HTS.out; omega
                rw [e1, e2]
              have HPS : Hid (xs.map X.p ++ [pcD p n TO id] ++ pcsP p m (latP p id) (k - 1) (frmD p id TO) TO = cutL p m id) := by
                show _ = _
                have e := HPC.out
                obtain ⟨k', rfl⟩ : ∃ k', k = k' + 1 := ⟨k - 1, by omega⟩
                rw [pcsP, if_pos (by rw [← HLN.out]; exact hlt), ← HF.out, ← HPE.out] at e
                have e3 : frmD p id TO = latP p id := by unfold frmD; rw [if_neg (by omega)]
                have e4 : n + shareP (p.d.length - n) (roomP f m) p.v = TO := by rw [← HLN.out, ← HRR.out]; exact HTS.out.symm
                rw [e4] at e
                rw [e3, ← e]
                simp
              have HWQ2 := Lib.hid (HFR.out n TO HBU.out.symm (Nat.le_of_lt htn) htl)
              have KP2 := Lib.hid (KP.out y2 n TO (HA.out.trans HAW.out) HBU.out.symm (Nat.le_of_lt htn) htl)
              clear hTO
              clear HPC HSV HS HTS hsp hsl hs8 hle
              go_wp2_with (first
                | (refine wpList_load28 rfl _ rfl g rfl p _ _ (by exact HBr.out) HAD.out ?_)
                | (go_at_call 51; refine KP2.out.mono ?_; refine Hid.out ?_))
              refine Lib.hid ?_
              rintro E y3 ⟨ou2, du2, rfl, hmi, haw⟩
              have HMI := Lib.hid hmi
              have HOLD : Hid ((∀ y ∈ xs, ∀ k, y.o.ownBlock = some k ∨ y.d.ownBlock = some k → k < y2.heap.size) ∧ (∀ k, u9.ownBlock = some k → k < y2.heap.size)) := ⟨fun y hy k hk => ((HC.out.each y hy).2.lto k hk).1, fun k hk => HC.out.lst.lt k hk⟩
              have HSY := Lib.hid (HA.out.trans HAW.out).size
              replace HC := Lib.hid (HC.out.on haw)
              replace HAW := Lib.hid (HAW.out.trans haw)
              clear haw hmi KP2 c45 c0
              go_wp2_with (refine wpList_build28 rfl _ rfl (pcD p n TO id) ou2 du2 rfl HWQ2.out.ad ?_; refine Hid.out ?_)
              refine Lib.hid ?_
              intro gq y4 hgq hbq haw
              replace HC := Lib.hid (HC.out.on haw)
              replace HAW := Lib.hid (HAW.out.trans haw)
              replace HMI := Lib.hid (HMI.out.on haw)
              have HBQ := Lib.hid hbq
              clear haw hbq hgq
              go_wp2_with (refine wpList_appP rfl _ _ rfl _ xs rfl (by exact HC.out.lst) gq 1 rfl (pcD p n TO id) ou2 du2 HBQ.out HWQ2.out.ad HMI.out.o.one HMI.out.d.one (by omega) ?_; refine Hid.out ?_)
              refine Lib.hid ?_
              intro v' y5 hl5 hgr hmv
              have HSZ4 := Lib.hid HAW.out.size
              have HC5 : Hid (Cuts y5 w.heap.size v' (xs ++ [⟨pcD p n TO id, ou2, du2⟩])) := by
                have hmn := HMI.out
                refine HC.out.snoc (x := ⟨pcD p n TO id, ou2, du2⟩) ⟨HWQ2.out, hmn.mono HSY.out⟩ (fun y hy k hk => ?_) (fun k hk e => ?_) hl5 hgr hmv (by have := HSZ4.out; have := HSW0.out; omega)
                · have h1 := HOLD.out.1 y hy k hk
                  constructor
                  · intro e; have := hmn.no k e; omega
                  · intro e; have := hmn.nd k e; omega
                · have h1 := HOLD.out.2 k e
                  have := (hmn.lto k hk).2; omega
              have HNV4 := Lib.hid (HNV3.out.moved hmv HSZ4.out)
              replace HAW : Hid (Away [] w3 y5) := HAW.out.grown hgr (fun k hk => .inr (HNV3.out k hk))
              have HPS2 : Hid ((xs ++ [(⟨pcD p n TO id, ou2, du2⟩ : X)]).map X.p ++ pcsP p m (latP p id) (k - 1) (frmD p id TO) TO = cutL p m id) := by
                show _ = _
                rw [← HPS.out, List.map_append]; rfl
              clear hl5 hgr hmv HC HMI HBQ HOLD HPS
              go_wp2_with fail
              go_roundw
              case rel => exact ⟨TO, k - 1, xs ++ [⟨pcD p n TO id, ou2, du2⟩], by first | rfl | go_num, htl, by first | exact HT8.out | exact .inl rfl, by omega, HC5.out, by simp; omega, HPS2.out, HNV4.out, HAW.out⟩
              case measure => simp [intOf]; omega
          · have HSV : Hid (shareP (ln - n) R p.v = if ln - n ≤ R then ln - n else Q) := by show _ = _; unfold shareP; rw [if_neg h6, ← HQ.out]
            have e6 : (p.v == 6) = false := by simpa using h6
            clear h6
            by_cases hle : ln - n ≤ R
            · have hgt : ¬ ((R : Int) < (ln : Int) - (n : Int)) := by omega
              have hsb : (ln : Int) - (n : Int) ≤ (R : Int) := by omega
              have HS : Hid (ln = n + shareP (ln - n) R p.v) := by show _ = _; rw [HSV.out, if_pos hle]; omega
              obtain ⟨TO, hTO⟩ : ∃ t, t = ln := ⟨_, rfl⟩
              have HTS : Hid (TO = n + shareP (ln - n) R p.v) := by show _ = _; rw [hTO]; exact HS.out
              have hsp := share_pos (ln - n) R p.v (by omega) hR8
              have hsl := share_le (ln - n) R p.v
              have hs8 := share_8 (ln - n) R p.v
              have htn : n < TO := by rw [HTS.out]; omega
              have htl : TO ≤ ln := by rw [HTS.out]; omega
              have HT8 : Hid (TO = ln ∨ TO % 8 = 0) := by show _ ∨ _; have h1 := HTS.out; have h2 := HN8.out; rcases hs8 with h | h <;> omega
              have HPE : Hid (pcD p n TO id = plcP f n ((p.d.drop n).take (shareP (p.d.length - n) (roomP f m) p.v)) (decide (shareP (p.d.length - n) (roomP f m) p.v < p.d.length - n))) := by
                show _ = _
                rw [pcD_eq HUN.out, ← HF.out, ← HLN.out, ← HRR.out]
                have e1 : TO - n = shareP (ln - n) R p.v := by have := HTS.out; omega
                have e2 : decide (TO < ln) = decide (shareP (ln - n) R p.v < ln - n) := by
                  rw [Bool.eq_iff_iff, decide_eq_true_eq, decide_eq_true_eq]; have := HTS.out; omega
                rw [e1, e2]
              have HPS : Hid (xs.map X.p ++ [pcD p n TO id] ++ pcsP p m (latP p id) (k - 1) (frmD p id TO) TO = cutL p m id) := by
                show _ = _
                have e := HPC.out
                obtain ⟨k', rfl⟩ : ∃ k', k = k' + 1 := ⟨k - 1, by omega⟩
                rw [pcsP, if_pos (by rw [← HLN.out]; exact hlt), ← HF.out, ← HPE.out] at e
                have e3 : frmD p id TO = latP p id := by unfold frmD; rw [if_neg (by omega)]
                have e4 : n + shareP (p.d.length - n) (roomP f m) p.v = TO := by rw [← HLN.out, ← HRR.out]; exact HTS.out.symm
                rw [e4] at e
                rw [e3, ← e]
                simp
              have HWQ2 := Lib.hid (HFR.out n TO HBU.out.symm (Nat.le_of_lt htn) htl)
              have KP2 := Lib.hid (KP.out y2 n TO (HA.out.trans HAW.out) HBU.out.symm (Nat.le_of_lt htn) htl)
              subst hTO
              clear HPC HSV HS HTS hsp hsl hs8 hle
              go_wp2_with (first
                | (refine wpList_load28 rfl _ rfl g rfl p _ _ (by exact HBr.out) HAD.out ?_)
                | (go_at_call 51; refine KP2.out.mono ?_; refine Hid.out ?_))
              refine Lib.hid ?_
              rintro E y3 ⟨ou2, du2, rfl, hmi, haw⟩
              have HMI := Lib.hid hmi
              have HOLD : Hid ((∀ y ∈ xs, ∀ k, y.o.ownBlock = some k ∨ y.d.ownBlock = some k → k < y2.heap.size) ∧ (∀ k, u9.ownBlock = some k → k < y2.heap.size)) := ⟨fun y hy k hk => ((HC.out.each y hy).2.lto k hk).1, fun k hk => HC.out.lst.lt k hk⟩
              have HSY := Lib.hid (HA.out.trans HAW.out).size
              replace HC := Lib.hid (HC.out.on haw)
              replace HAW := Lib.hid (HAW.out.trans haw)
              clear haw hmi KP2 c45 c0
              go_wp2_with (refine wpList_build28 rfl _ rfl (pcD p n TO id) ou2 du2 rfl HWQ2.out.ad ?_; refine Hid.out ?_)
              refine Lib.hid ?_
              intro gq y4 hgq hbq haw
              replace HC := Lib.hid (HC.out.on haw)
              replace HAW := Lib.hid (HAW.out.trans haw)
              replace HMI := Lib.hid (HMI.out.on haw)
              have HBQ := Lib.hid hbq
              clear haw hbq hgq
              go_wp2_with (refine wpList_appP rfl _ _ rfl _ xs rfl (by exact HC.out.lst) gq 1 rfl (pcD p n TO id) ou2 du2 HBQ.out HWQ2.out.ad HMI.out.o.one HMI.out.d.one (by omega) ?_; refine Hid.out ?_)
              refine Lib.hid ?_
              intro v' y5 hl5 hgr hmv
              have HSZ4 := Lib.hid HAW.out.size
              have HC5 : Hid (Cuts y5 w.heap.size v' (xs ++ [⟨pcD p n TO id, ou2, du2⟩])) := by
                have hmn := HMI.out
                refine HC.out.snoc (x := ⟨pcD p n TO id, ou2, du2⟩) ⟨HWQ2.out, hmn.mono HSY.out⟩ (fun y hy k hk => ?_) (fun k hk e => ?_) hl5 hgr hmv (by have := HSZ4.out; have := HSW0.out; omega)
                · have h1 := HOLD.out.1 y hy k hk
                  constructor
                  · intro e; have := hmn.no k e; omega
                  · intro e; have := hmn.nd k e; omega
                · have h1 := HOLD.out.2 k e
                  have := (hmn.lto k hk).2; omega
              have HNV4 := Lib.hid (HNV3.out.moved hmv HSZ4.out)
              replace HAW : Hid (Away [] w3 y5) := HAW.out.grown hgr (fun k hk => .inr (HNV3.out k hk))
              have HPS2 : Hid ((xs ++ [(⟨pcD p n TO id, ou2, du2⟩ : X)]).map X.p ++ pcsP p m (latP p id) (k - 1) (frmD p id TO) TO = cutL p m id) := by
                show _ = _
                rw [← HPS.out, List.map_append]; rfl
              clear hl5 hgr hmv HC HMI HBQ HOLD HPS
              go_wp2_with fail
              go_roundw
              case rel => exact ⟨TO, k - 1, xs ++ [⟨pcD p n TO id, ou2, du2⟩], by first | rfl | go_num, htl, by first | exact HT8.out | exact .inl rfl, by omega, HC5.out, by simp; omega, HPS2.out, HNV4.out, HAW.out⟩
              case measure => simp [intOf]; omega
            · have hgt : ((R : Int) < (ln : Int) - (n : Int)) := by omega
              have HS : Hid (n + Q = n + shareP (ln - n) R p.v) := by show _ = _; rw [HSV.out, if_neg hle]
              obtain ⟨TO, hTO⟩ : ∃ t, t = n + Q := ⟨_, rfl⟩
              have hto : (n : Int) + (Q : Int) = (TO : Int) := by omega
              have HTS : Hid (TO = n + shareP (ln - n) R p.v) := by show _ = _; rw [hTO]; exact HS.out
              have hsp := share_pos (ln - n) R p.v (by omega) hR8
              have hsl := share_le (ln - n) R p.v
              have hs8 := share_8 (ln - n) R p.v
              have htn : n < TO := by rw [HTS.out]; omega
              have htl : TO ≤ ln := by rw [HTS.out]; omega
              have HT8 : Hid (TO = ln ∨ TO % 8 = 0) := by show _ ∨ _; have h1 := HTS.out; have h2 := HN8.out; rcases hs8 with h | h <;> omega
              have HPE : Hid (pcD p n TO id = plcP f n ((p.d.drop n).take (shareP (p.d.length - n) (roomP f m) p.v)) (decide (shareP (p.d.length - n) (roomP f m) p.v < p.d.length - n))) := by
                show _ = _
                rw [pcD_eq HUN.out, ← HF.out, ← HLN.out, ← HRR.out]
                have e1 : TO - n = shareP (ln - n) R p.v := by have := HTS.out; omega
                have e2 : decide (TO < ln) = decide (shareP (ln - n) R p.v < ln - n) := by
                  rw [Bool.eq_iff_iff, decide_eq_true_eq, decide_eq_true_eq]; have := HTS.out; omega
                rw [e1, e2]
              have HPS : Hid (xs.map X.p ++ [pcD p n TO id] ++ pcsP p m (latP p id) (k - 1) (frmD p id TO) TO = cutL p m id) := by
                show _ = _
                have e := HPC.out
                obtain ⟨k', rfl⟩ : ∃ k', k = k' + 1 := ⟨k - 1, by omega⟩
                rw [pcsP, if_pos (by rw [← HLN.out]; exact hlt), ← HF.out, ← HPE.out] at e
                have e3 : frmD p id TO = latP p id := by unfold frmD; rw [if_neg (by omega)]
                have e4 : n + shareP (p.d.length - n) (roomP f m) p.v = TO := by rw [← HLN.out, ← HRR.out]; exact HTS.out.symm
                rw [e4] at e
                rw [e3, ← e]
                simp
              have HWQ2 := Lib.hid (HFR.out n TO HBU.out.symm (Nat.le_of_lt htn) htl)
              have KP2 := Lib.hid (KP.out y2 n TO (HA.out.trans HAW.out) HBU.out.symm (Nat.le_of_lt htn) htl)
              clear hTO
              clear HPC HSV HS HTS hsp hsl hs8 hle
              go_wp2_with (first
                | (refine wpList_load28 rfl _ rfl g rfl p _ _ (by exact HBr.out) HAD.out ?_)
                | (go_at_call 51; refine KP2.out.mono ?_; refine Hid.out ?_))
              refine Lib.hid ?_
              rintro E y3 ⟨ou2, du2, rfl, hmi, haw⟩
              have HMI := Lib.hid hmi
              have HOLD : Hid ((∀ y ∈ xs, ∀ k, y.o.ownBlock = some k ∨ y.d.ownBlock = some k → k < y2.heap.size) ∧ (∀ k, u9.ownBlock = some k → k < y2.heap.size)) := ⟨fun y hy k hk => ((HC.out.each y hy).2.lto k hk).1, fun k hk => HC.out.lst.lt k hk⟩
              have HSY := Lib.hid (HA.out.trans HAW.out).size
              replace HC := Lib.hid (HC.out.on haw)
              replace HAW := Lib.hid (HAW.out.trans haw)
              clear haw hmi KP2 c45 c0
              go_wp2_with (refine wpList_build28 rfl _ rfl (pcD p n TO id) ou2 du2 rfl HWQ2.out.ad ?_; refine Hid.out ?_)
              refine Lib.hid ?_
              intro gq y4 hgq hbq haw
              replace HC := Lib.hid (HC.out.on haw)
              replace HAW := Lib.hid (HAW.out.trans haw)
              replace HMI := Lib.hid (HMI.out.on haw)
              have HBQ := Lib.hid hbq
              clear haw hbq hgq
              go_wp2_with (refine wpList_appP rfl _ _ rfl _ xs rfl (by exact HC.out.lst) gq 1 rfl (pcD p n TO id) ou2 du2 HBQ.out HWQ2.out.ad HMI.out.o.one HMI.out.d.one (by omega) ?_; refine Hid.out ?_)
              refine Lib.hid ?_
              intro v' y5 hl5 hgr hmv
              have HSZ4 := Lib.hid HAW.out.size
              have HC5 : Hid (Cuts y5 w.heap.size v' (xs ++ [⟨pcD p n TO id, ou2, du2⟩])) := by
                have hmn := HMI.out
                refine HC.out.snoc (x := ⟨pcD p n TO id, ou2, du2⟩) ⟨HWQ2.out, hmn.mono HSY.out⟩ (fun y hy k hk => ?_) (fun k hk e => ?_) hl5 hgr hmv (by have := HSZ4.out; have := HSW0.out; omega)
                · have h1 := HOLD.out.1 y hy k hk
                  constructor
                  · intro e; have := hmn.no k e; omega
                  · intro e; have := hmn.nd k e; omega
                · have h1 := HOLD.out.2 k e
                  have := (hmn.lto k hk).2; omega
              have HNV4 := Lib.hid (HNV3.out.moved hmv HSZ4.out)
              replace HAW : Hid (Away [] w3 y5) := HAW.out.grown hgr (fun k hk => .inr (HNV3.out k hk))
              have HPS2 : Hid ((xs ++ [(⟨pcD p n TO id, ou2, du2⟩ : X)]).map X.p ++ pcsP p m (latP p id) (k - 1) (frmD p id TO) TO = cutL p m id) := by
                show _ = _
                rw [← HPS.out, List.map_append]; rfl
              clear hl5 hgr hmv HC HMI HBQ HOLD HPS
              go_wp2_with fail
              go_roundw
              case rel => exact ⟨TO, k - 1, xs ++ [⟨pcD p n TO id, ou2, du2⟩], by first | rfl | go_num, htl, by first | exact HT8.out | exact .inl rfl, by omega, HC5.out, by simp; omega, HPS2.out, HNV4.out, HAW.out⟩
              case measure => simp [intOf]; omega
        · have j1 : decide (n < ln) = false := by simp; omega
          have j0 : ¬ ((n : Int) < (ln : Int)) := by omega
          go_wp2_with fail
          go_ret2
          refine ⟨_, xs, by rw [HCU.out]; rfl, HC.out, ?_, HA.out.trans HAW.out⟩
          have e := HPC.out
          rw [pcs_nil (by rw [← HLN.out]; exact hlt)] at e
          rw [HCU.out]
          simpa using e
    · go_wp2_with fail
      go_ret2
      exact ⟨_, [], by rw [HCU.out]; rfl, Cuts.nil _ _, by rw [HCU.out]; rfl, HA.out⟩
  · have hTm : T ≤ m := by simpa using hfl
    rw [← HBF.out, if_pos rfl] at HCU
    clear HFL hfl
    go_wp2_with (first
      | (refine wpList_load28 rfl _ rfl g rfl p _ _ (by exact HB.out) HAD.out ?_)
      | (refine wpList_new28 rfl rfl rfl _ _ rfl p _ _ (fun _ => rfl) (fun _ => rfl) HAD.out rfl rfl ?_; refine Hid.out ?_))
    refine Lib.hid ?_
    intro g8 w4 hg8 hb8 haw
    have HB8 := Lib.hid hb8
    have HS3 := Lib.hid HA.out.size
    have HLg := Lib.hid HB.out.lt
    replace HA := Lib.hid (HA.out.trans haw)
    replace HB := Lib.hid (HB.out.on haw)
    have HNE : Hid (g ≠ g8 ∧ w.heap.size ≤ g8) := ⟨by have h1 := HLg.out; omega, by have h1 := HS3.out; omega⟩
    clear hb8 haw hg8 HS3 HLg
    have c4o := (HB.out.cells HAD.out).o
    go_wp2_with fail
    refine (KO.out _ HA.out).mono ?_
    rintro E w5 ⟨vo, rfl, hov, hnv, haw⟩
    have HOO := Lib.hid hov
    have HNO : Hid (New w.heap.size vo) := hnv.mono HA.out.size
    have HNGo : Hid (∀ k, vo.ownBlock = some k → k ≠ g8) := fun k hk => by have h1 := hnv k hk; have h2 := HB8.out.lt; omega
    replace HA := Lib.hid (HA.out.trans haw)
    replace HB := Lib.hid (HB.out.on haw)
    replace HB8 := Lib.hid (HB8.out.on haw)
    clear hov hnv haw c4o KO
    obtain ⟨voa, von, voc, rfl⟩ := HOO.out.shp
    go_wp2_with (refine wpList_putF rfl 26 _ _ rfl g8 44 rfl (.slice voa von voc) rfl (fun u h1 h2 => put26 _ _ _ _ _ u h1 h2) p p _ _ _ _ (by exact HB8.out) HAD.out (by omega) (by exact (csP_set (p := p) HAD.out _ _).2.2.2.2.2.2.2.2.2.2.2.2.1 p.o _) ?_; refine Hid.out ?_)
    refine Lib.hid ?_
    intro w6 hb8 haw
    replace HB8 := Lib.hid hb8
    replace HB := Lib.hid (HB.out.away haw (by simp; exact HNE.out.1))
    replace HA := Lib.hid (HA.out.next haw (fun x hx => .inr (by simp at hx; subst hx; exact HNE.out.2)))
    replace HOO := Lib.hid (HOO.out.away haw (fun k hk => by simp; exact HNGo.out k hk))
    clear hb8 haw
    have c4d := (HB.out.cells HAD.out).d
    go_wp2_with fail
    refine (KD.out _ HA.out).mono ?_
    rintro E w7 ⟨vd, rfl, hov, hnv, haw⟩
    have HOD := Lib.hid hov
    have HND : Hid (New w.heap.size vd) := hnv.mono HA.out.size
    have HNGd : Hid (∀ k, vd.ownBlock = some k → k ≠ g8) := fun k hk => by have h1 := hnv k hk; have h2 := HB8.out.lt; omega
    have HAP : Hid (∀ k, (Value.slice voa von voc).ownBlock = some k → vd.ownBlock ≠ some k) := fun k hk hc => by have h1 := hnv k hc; have h2 := HOO.out.lt k hk; omega
    replace HA := Lib.hid (HA.out.trans haw)
    replace HB8 := Lib.hid (HB8.out.on haw)
    replace HOO := Lib.hid (HOO.out.on haw)
    clear hov hnv haw c4d KD HB
    obtain ⟨vda, vdn, vdc, rfl⟩ := HOD.out.shp
    go_wp2_with (refine wpList_putF rfl 26 _ _ rfl g8 45 rfl (.slice vda vdn vdc) rfl (fun u h1 h2 => put26 _ _ _ _ _ u h1 h2) p p _ _ _ _ (by exact HB8.out) HAD.out (by omega) (by exact (csP_set (p := p) HAD.out _ _).2.2.2.2.2.2.2.2.2.2.2.2.2 p.d _) ?_; refine Hid.out ?_)
    refine Lib.hid ?_
    intro w8 hb8 haw
    replace HB8 := Lib.hid hb8
    replace HA := Lib.hid (HA.out.next haw (fun x hx => .inr (by simp at hx; subst hx; exact HNE.out.2)))
    replace HOO := Lib.hid (HOO.out.away haw (fun k hk => by simp; exact HNGo.out k hk))
    replace HOD := Lib.hid (HOD.out.away haw (fun k hk => by simp; exact HNGd.out k hk))
    clear hb8 haw
    have HMQ : Hid (Mine w8 w.heap.size p (.slice voa von voc) (.slice vda vdn vdc)) := ⟨HOO.out, HOD.out, HNO.out, HND.out, HAP.out⟩
    have HSW := Lib.hid HA.out.size
    go_wp2_with (first
      | (refine wpList_load28 rfl _ rfl g8 rfl p _ _ (by exact HB8.out) HAD.out ?_)
      | (refine wpList_build28 rfl _ rfl p _ _ rfl HAD.out ?_; refine Hid.out ?_))
    refine Lib.hid ?_
    intro gq w9 hgq hbq haw
    have HC9 : Hid (Cuts w9 w.heap.size (.slice (some ⟨gq, 0, none⟩) 1 1) [⟨p, .slice voa von voc, .slice vda vdn vdc⟩]) := Cuts.one hbq HW.out (HMQ.out.on haw) (by have := HSW.out; omega) (fun k hk => by have := (HMQ.out.lto k hk).1; omega)
    replace HA := Lib.hid (HA.out.trans haw)
    clear hgq hbq haw
    go_wp2_with fail
    go_ret2
    exact ⟨_, _, by rw [HCU.out]; rfl, HC9.out, by rw [HCU.out]; rfl, HA.out⟩
end Go.Proofs.YtbnnfbfmomafnaaDoor
