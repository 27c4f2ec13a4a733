/-
  lay.
-/
import Derived.Test.YtkccpidgeecemaaGreatDoorZr
namespace Go.Proofs.YtkccpidgeecemaaGreatDoor
open Go.ChangeShapes Go.WideShapes Go.ChangeAt Go.RowKit
open S6 (wp_region_cls quiet_val quiet_call quiet_ld ld3 ld4 ld5 ld25 ld26 load28_run load24m_run)
set_option linter.unusedVariables false
set_option linter.unusedSimpArgs false
set_option maxRecDepth 20000
/-! Plain. -/
def FrIn (p : Pk) (fr : List H.Sp) : Prop := ∀ x ∈ fr, p.off ≤ x.1 ∧ x.1 < x.2 ∧ x.2 ≤ endP p
def layK (s : Es) (p : Pk) (fr : List H.Sp) : Es := { s with d := fr.foldl (laySp p.off p.d) (grow s.d (endP p).toNat), h := s.h + H.lenP fr }
theorem layK_all (s : Es) (p : Pk) (fr : List H.Sp) : layK s p fr = layS s p fr := rfl
theorem len_pos {fr : List H.Sp} (h : ∀ x ∈ fr, x.1 < x.2) : 0 ≤ H.lenP fr := by
  induction fr with
  | nil => simp [H.lenP]
  | cons x r ih =>
    have h1 := h x (by simp)
    have h2 := ih (fun y hy => h y (by simp [hy]))
    simp only [H.lenP, List.map_cons, List.sum_cons] at *
    omega
theorem len_app (a b : List H.Sp) : H.lenP (a ++ b) = H.lenP a + H.lenP b := by simp [H.lenP]
theorem layd_len {p : Pk} (hq : Plc p) : ∀ (fr : List H.Sp) (d : List Int), FrIn p fr → endP p ≤ d.length → (fr.foldl (laySp p.off p.d) d).length = d.length
  | [], d, _, _ => rfl
  | x :: r, d, h, hd => by
    have hx := h x (by simp)
    have hl : (laySp p.off p.d d x).length = d.length := by
      unfold laySp
      refine over_len ?_
      have := hq.o0
      simp only [List.length_take, List.length_drop]
      unfold endP at hx hd
      omega
    rw [List.foldl_cons, layd_len hq r _ (fun y hy => h y (by simp [hy])) (by rw [hl]; exact hd), hl]
theorem layd_bytes {p : Pk} (hp : Bytes p.d) : ∀ (fr : List H.Sp) (d : List Int), Bytes d → Bytes (fr.foldl (laySp p.off p.d) d)
  | [], d, h => h
  | x :: r, d, h => layd_bytes hp r _ (over_bytes h ((hp.drop _).take _) _)
theorem layK_snoc (s : Es) (p : Pk) (fr : List H.Sp) (x : H.Sp) : layK s p (fr ++ [x]) = { layK s p fr with d := laySp p.off p.d (layK s p fr).d x, h := (layK s p fr).h + (x.2 - x.1) } := by
  unfold layK
  rw [List.foldl_append, len_app]
  simp only [List.foldl_cons, List.foldl_nil, Es.mk.injEq, true_and, and_true]
  simp [H.lenP]; omega
def LayOut (w : World) (g : Nat) (s : Es) (p : Pk) (fr : List H.Sp) (lb : Nat) (lv dv ov : Value) (mb mn : Nat) (E : Ending) (w' : World) : Prop :=
  E = .returned (.tuple #[]) ∧ ∃ dv', EntG w' g (layS s p fr) lb lv dv' ov mb mn ∧ Moved w dv dv' ∧ Away (g :: dv.ownBlock.toList) w w'
theorem EntG.data {w w' : World} {g : Nat} {s : Es} {lb : Nat} {lv dv dv' ov : Value} {mb mn : Nat} {d' : List Int} {h' : Int} (h : EntG w g s lb lv dv ov mb mn) (hw : Away (g :: dv.ownBlock.toList) w w')
    (hb : w'.heap[g]? = some (.cells (csE { s with d := d', h := h' } (.pointer (some ⟨lb, 0, none⟩)) dv' ov (.map (some mb))) 101 (0, 0))) (hd : Owns w' dv' d') (hm : Moved w dv dv') : EntG w' g { s with d := d', h := h' } lb lv dv' ov mb mn := by
  have ap := h.ap
  have lt := h.lt
  have nS : ∀ x, x ≠ g → dv.ownBlock ≠ some x → x ∉ g :: dv.ownBlock.toList := fun x h1 h2 hx => by
    simp at hx
    rcases hx with hx | hx
    · exact h1 hx
    · exact h2 hx
  have mv : ∀ x, x ∈ fpE g lb lv dv ov mb → dv.ownBlock ≠ some x → dv'.ownBlock ≠ some x := fun x hx h1 e => by
    rcases hm x e with h2 | h2
    · exact h1 h2
    · have := lt x hx; omega
  refine ⟨hb, h.nb, h.kad, h.fad, h.hl.away hw (nS lb (fun e => ap.gl e.symm) ap.ld) (fun k hk => nS k (fun e => by subst e; exact ap.gv hk) (ap.vd k hk)), hd, h.oo.away hw (fun k hk => nS k (fun e => by subst e; exact ap.go hk) (fun e => ap.dO k e hk)),
    h.mp.away hw (nS mb (fun e => ap.gm e.symm) ap.md), { ap with gd := mv g (mem_fp.2 (by simp)) ap.gd, ld := mv lb (mem_fp.2 (by simp)) ap.ld, md := mv mb (mem_fp.2 (by simp)) ap.md, vd := fun k hk => mv k (mem_fp.2 (by simp [hk])) (ap.vd k hk), dO := fun k hk e => ?_ }⟩
  rcases hm k hk with h2 | h2
  · exact ap.dO k h2 e
  · have := lt k (mem_fp.2 (by simp [e])); omega
theorem csE_d (s : Es) (hk : Ad s.k) (hf : Ad s.f) (lp dv ov mp : Value) (x : Value) (d' : List Int) : (listE s lp dv ov mp).set 40 x = listE { s with d := d' } lp x ov mp := by
  rw [listE_F, listE_F]; exact (listF_set hk _ _ _ _ _ _ _ _ _ (listP_len hf _ _)).2.2.2.2.1 x
theorem csE_h (s : Es) (hk : Ad s.k) (hf : Ad s.f) (lp dv ov mp : Value) (n : Int) : (listE s lp dv ov mp).set 41 (.int .i64 n) = listE { s with h := n } lp dv ov mp := by
  rw [listE_F, listE_F]; exact (listF_set hk _ _ _ _ _ _ _ _ _ (listP_len hf _ _)).2.2.2.2.2 n
theorem step_run {ops : Array Oper} {o : Oper} {a : Act} {w w' : World} {v : Value} {K : Act → World → Prop} {Q : Exit → Act → World → Prop} {E : Prop} (hg : o.guard = none) (ts : Array TypeId) {xs : Array Operand} (ho : o.op = .call { callee := .builtin .copy, args := xs, argTypes := ts }) (vx vy : Value)
    (hx : xs.map a.eval = #[vx, vy]) (hr : (Builtin.copy_ ts o.type #[vx, vy]).run Tryz.prog w = .ok v w') (hK : K (a.put o.dst v) w') : if Region.wanted o (yielded ops a.tmps) = true then Oper.wp Tryz.prog o a w K Q else E := by
  have hw : Region.wanted o (yielded ops a.tmps) = true := by simp [Region.wanted, hg]
  rw [if_pos hw]
  unfold Oper.wp execOp
  simp only [ho, resolve, invoke, builtin, Sem.run_bind, Sem.run_pure, Result.andThen_ok, hx, hr]
  exact hK
section
variable {w : World} {g : Nat} {s : Es} {lb : Nat} {lv dv ov : Value} {mb mn : Nat}
set_option maxHeartbeats 8000000 in
theorem lay_c (h : EntG w g s lb lv dv ov mb mn) (p : Pk) (po pd : Value) (hp : Pkt w p po pd) (hq : Plc p) (r : Value) (fr : List H.Sp) (hr : H.Lst w r fr) (hfr : FrIn p fr) (hfl : fr.length ≤ 65535) (hrb : ∀ k, r.ownBlock = some k → k ≠ g ∧ dv.ownBlock ≠ some k)
    (ho : Outs p po pd (g :: dv.ownBlock.toList)) (hb : Bytes s.d) (hl : s.d.length ≤ 65535) (hh0 : 0 ≤ s.h) (hh1 : s.h + H.lenP fr ≤ 65535) :
    Calls Tryz.prog 90 #[.pointer (some ⟨g, 0, none⟩), .agg (csP p po pd), r] w (LayOut w g s p fr lb lv dv ov mb mn) := by
  have HE := Lib.hid h
  have HP := Lib.hid hp
  have HQ := Lib.hid hq
  have HAD := Lib.hid hp.wf.ad
  have HFR := Lib.hid hfr
  have HRB := Lib.hid hrb
  have HOU := Lib.hid ho
  have HBY := Lib.hid hb
  have HPB : Hid (Bytes p.d) := hp.wf.d
  have HH1 := Lib.hid hh1
  have HSP : Hid (∀ x ∈ fr, x.1 < x.2) := fun x hx => (hfr x hx).2.1
  obtain ⟨ra, rc, hre, -, -, hrow, hrab⟩ := hr.row (by omega) (fun x hx => by have h1 := hfr x hx; have h2 := hq.o0; have h3 := hq.tt; unfold endP at h1; exact ⟨⟨by omega, by omega⟩, ⟨by omega, by omega⟩⟩)
  have HROW := Lib.hid hrow
  have HRAB : Hid (∀ q, ra = some q → q.block ≠ g ∧ dv.ownBlock ≠ some q.block) := fun q hq' => hrb _ (hrab q hq').1
  have HRLT : Hid (∀ q, ra = some q → q.block < w.heap.size) := fun q hq' => hr.lt _ (hrab q hq').1
  obtain ⟨nf, hnf⟩ : ∃ nf, nf = fr.length := ⟨_, rfl⟩
  rw [← hnf] at hre hfl
  have HNF := Lib.hid hnf
  obtain ⟨da, dc, hd, hcap, hnone, -, -, -⟩ := h.da.row (by omega) hb
  obtain ⟨pa, pc, hpd, hpcap, hpnone, hprow⟩ := hp.d
  obtain ⟨o0, o1, n1, tt⟩ := hq
  obtain ⟨dn, hdn⟩ : ∃ dn, dn = s.d.length := ⟨_, rfl⟩
  rw [← hdn] at hd hl
  obtain ⟨pn, hpn⟩ : ∃ pn, pn = p.d.length := ⟨_, rfl⟩
  rw [← hpn] at hpd tt n1
  have HDN := Lib.hid hdn
  have HPN := Lib.hid hpn
  have HEP : Hid (endP p = p.off + pn) := by show _ = _; unfold endP; rw [hpn]
  have hep1 : 1 ≤ endP p := by have := HEP.out; omega
  have hep2 : endP p ≤ 65535 := by have := HEP.out; omega
  have K0 : Hid (∀ W, Away [] w W → Calls Tryz.prog 91 #[.agg (csP p po pd)] W fun E w' => E = .returned (.int .i64 (endP p)) ∧ Away [] W w') := fun W hW => endOf_c p po pd W (HP.out.on hW) HQ.out
  obtain ⟨ep, hep⟩ : ∃ ep : Nat, endP p = ep := ⟨(endP p).toNat, by omega⟩
  rw [hep] at K0 hep1 hep2
  have HEPN := Lib.hid hep
  have HCP : Hid (dn ≤ dc) := by show _ ≤ _; rw [hdn]; exact hcap
  clear h hp hfr hr hrb ho hb hnone hpnone hprow hrow hrab hdn hpn hep hh1 hpcap hcap hnf
  subst hre
  subst hd
  subst hpd
  go_enter Tryz.func90, Tryz.ntmps90
  go_wp2_with (refine wpList_box28 rfl _ rfl p _ _ rfl ?_; refine Hid.out ?_)
  refine Lib.hid ?_
  intro g4 w4 hg4 hb4 haw4
  have HB4 := Lib.hid hb4
  have HA4 := Lib.hid haw4
  have hl4 := hb4.lt
  have HG4 : Hid (g4 ≠ g ∧ (Value.slice da dn dc).ownBlock ≠ some g4) := ⟨by have := lt_of_block HE.out.blk; omega, fun e => by have := HE.out.da.lt _ e; omega⟩
  replace HE := Lib.hid (HE.out.on haw4)
  replace HROW : Hid (H.Row w4 ra fr) := HROW.out.on haw4
  clear hb4 haw4
  obtain ⟨lk, hlk0⟩ : ∃ lk : Int, lk = (ep : Int) - dn := ⟨_, rfl⟩
  have hsubw : IntKind.i64.wrap ((ep : Int) - dn) = lk := by rw [IntKind.wrap_i64]; omega
  have HLK := Lib.hid hlk0
  clear hlk0
  have HC : Hid (Away [] w4 w4.drew) := (Away.refl _ _).drew
  have K56 : Hid (∀ W, Away [] w4 W → Calls Tryz.prog 91 #[.agg (csP p po (.slice pa pn pc))] W fun E w' => E = .returned (.int .i64 (ep : Int)) ∧ Away [] w4 w') := fun W hW => (K0.out W (HA4.out.trans hW)).mono (fun E w' h => ⟨h.1, hW.trans h.2⟩)
  go_wp2_with fail
  refine wp_region_cls (C := fun w' => Away [] w4 w') (by kernel_rfl) (by kernel_rfl) HC.out ?_
  go_big_quiet_want; refine quiet_ld _ rfl (ad := ⟨g4, 0, none⟩) rfl (fun w' h => load28_run (HB4.out.on h) HAD.out) ?_; go_simp; go_big_quiet_on
  go_big_quiet_want; refine quiet_call 91 #[.agg (csP p po (.slice pa pn pc))] (.int .i64 (ep : Int)) ?_ K56.out ?_
  · intro w; go_simp; all_goals (with_reducible rfl)
  go_simp; go_big_quiet_on
  iterate 3 (go_big_quiet_want; (refine quiet_val ?_ ?_ ?_; rotate_left; (intro w; go_simp; rfl); go_simp; go_big_quiet_on))
  go_big_quiet_want; refine quiet_ld _ rfl (ad := ⟨g, 40, none⟩) rfl (fun w' h => ld26 (HE.out.on h).cells.2.2.2.1) ?_; go_simp; go_big_quiet_on
  iterate 3 (go_big_quiet_want; (refine quiet_val ?_ ?_ ?_; rotate_left; (intro w; go_simp; rfl); go_simp; go_big_quiet_on))
  refine wpQuiet_nil ?_
  intro V hV
  replace HE := Lib.hid (HE.out.on hV)
  replace HB4 := Lib.hid (HB4.out.on hV)
  replace HA4 := Lib.hid (HA4.out.trans hV)
  replace HROW : Hid (H.Row V ra fr) := HROW.out.on hV
  have hlV := hV.size
  clear hV HC K56 K0
  have c40 := HE.out.cells.2.2.2.1
  have f40 := HE.out.free 40
  rcases Nat.lt_or_ge dn ep with hlk | hlk
  · obtain ⟨kz, hkz⟩ : ∃ kz : Nat, lk = kz := ⟨lk.toNat, by have := HLK.out; omega⟩
    subst hkz
    have hcmp : (0 : Int) < (kz : Int) := by have := HLK.out; omega
    have HKZ : Hid (ep = dn + kz) := by have := HLK.out; show _ = _; omega
    obtain ⟨v9, w9, hrun, hov, haw9, hmv⟩ := run_appZ 37 V (.slice da dn dc) s.d (by exact HE.out.da) HBY.out kz (by omega) (by have := HDN.out; have := HKZ.out; omega)
    have HOV := Lib.hid hov
    have HA9 := Lib.hid haw9
    have HM9 := Lib.hid hmv
    have HGR : Hid (s.d ++ List.replicate kz 0 = grow s.d ep) := by
      show _ = _
      unfold grow
      have hz9 : ep - s.d.length = kz := by have := HDN.out; have := HKZ.out; omega
      rw [hz9]
    obtain ⟨da2, dc2, hd2, hcap2, -, -, hb2, -⟩ := hov.row (by simp; have := HDN.out; have := HKZ.out; omega) (HBY.out.app (Bytes.zeros kz))
    have hlen9 : (s.d ++ List.replicate kz (0 : Int)).length = ep := by simp; have := HDN.out; have := HKZ.out; omega
    rw [hlen9] at hd2 hcap2
    subst hd2
    have nS : ∀ x, (Value.slice da dn dc).ownBlock ≠ some x → x ∉ (Value.slice da dn dc).ownBlock.toList := fun x h1 hx => h1 (by simpa using hx)
    have HBK : Hid (w9.heap[g]? = some (.cells (listE s (.pointer (some ⟨lb, 0, none⟩)) (.slice da dn dc) ov (.map (some mb))).toArray 101 (0, 0))) := Away.keep haw9 (nS g HE.out.ap.gd) HE.out.blk
    have c409 : w9.cell? ⟨g, 40, none⟩ = some (.slice da dn dc) := Away.cell haw9 (nS g HE.out.ap.gd) c40
    have f409 : w9.frozen? ⟨g, 40, none⟩ = false := free_of_block HBK.out 40
    have HB49 := Lib.hid (HB4.out.away haw9 (nS g4 HG4.out.2))
    have HROW9 : Hid (H.Row w9 ra fr) := HROW.out.away haw9 (fun q hq' => nS q.block (HRAB.out q hq').2)
    have HCAP := Lib.hid hcap2
    clear hov haw9 hmv hcap2 hb2
    clear hlen9 hsubw
    go_wp2_with (at_builtin; refine Lib.wpList_append_run _ rfl _ _ _ _ rfl _ _ rfl rfl _ _ hrun ?_; refine Hid.out ?_)
    refine Lib.hid ?_
    go_wp2_with fail
    have HBK2 := Lib.hid (blk_set HBK.out 40 (.slice da2 ep dc2))
    rw [csE_d s HE.out.kad HE.out.fad _ _ _ _ _ (grow s.d ep)] at HBK2
    have HAP := Lib.hid (away_put (w := w9) (g := g) 40 (.slice da2 ep dc2))
    have HAWV : Hid (Away (g :: (Value.slice da dn dc).ownBlock.toList) V (w9.setCell ⟨g, 40, none⟩ (.slice da2 ep dc2))) := (HA9.out.mono (fun z hz => by simp at hz; simp [hz])).setCell (.inl (by simp)) _
    have HOV2 : Hid (Owns (w9.setCell ⟨g, 40, none⟩ (.slice da2 ep dc2)) (.slice da2 ep dc2) (grow s.d ep)) := by
      show Owns _ _ _
      rw [← HGR.out]
      exact HOV.out.away HAP.out (fun z hz => by
        simp; intro e; subst e
        rcases HM9.out z hz with h1 | h1
        · exact HE.out.ap.gd h1
        · have := lt_of_block HE.out.blk; omega)
    replace HB4 := Lib.hid (HB49.out.away HAP.out (by simpa using HG4.out.1))
    replace HROW : Hid (H.Row (w9.setCell ⟨g, 40, none⟩ (.slice da2 ep dc2)) ra fr) := HROW9.out.away HAP.out (fun q hq' => by simpa using (HRAB.out q hq').1)
    have HEV := HE
    replace HE : Hid (EntG (w9.setCell ⟨g, 40, none⟩ (.slice da2 ep dc2)) g (layK s p []) lb lv (.slice da2 ep dc2) ov mb mn) := by
      show EntG _ _ _ _ _ _ _ _ _
      have e : layK s p [] = { s with d := grow s.d ep, h := s.h } := by unfold layK; rw [HEPN.out]; simp [H.lenP]
      rw [e]
      exact HEV.out.data HAWV.out HBK2.out HOV2.out HM9.out
    have HAW : Hid (Away (g :: (Value.slice da dn dc).ownBlock.toList) w (w9.setCell ⟨g, 40, none⟩ (.slice da2 ep dc2))) := (HA4.out.mono (by simp)).next HAWV.out (fun z hz => .inl hz)
    have HMV : Hid (Moved w (.slice da dn dc) (.slice da2 ep dc2)) := fun z hz => by
      rcases HM9.out z hz with h1 | h1
      · exact .inl h1
      · exact .inr (by have := HA4.out.size; omega)
    have HLL : Hid (∀ fr', FrIn p fr' → (layK s p fr').d.length = ep) := fun fr' h' => by
      have e1 : (grow s.d (endP p).toNat).length = ep := by rw [HEPN.out, grow_len]; have := HDN.out; simp; omega
      show (fr'.foldl (laySp p.off p.d) (grow s.d (endP p).toNat)).length = ep
      rw [layd_len HQ.out fr' _ h' (by rw [e1, HEPN.out]; omega), e1]
    have HG4D : Hid ((Value.slice da2 ep dc2).ownBlock ≠ some g4) := fun e => by
      rcases HM9.out g4 e with h1 | h1
      · exact HG4.out.2 h1
      · omega
    have HRDq : Hid (∀ q, ra = some q → (Value.slice da2 ep dc2).ownBlock ≠ some q.block) := fun q hq' e => by
      rcases HM9.out _ e with h1 | h1
      · exact (HRAB.out q hq').2 h1
      · have h2 := HRLT.out q hq'; have h3 := HA4.out.size; omega
    have HFOLD : Hid (∀ z ∈ g :: (Value.slice da2 ep dc2).ownBlock.toList, z ∈ g :: (Value.slice da dn dc).ownBlock.toList ∨ w.heap.size ≤ z) := fun z hz => by
      simp only [List.mem_cons, Option.mem_toList] at hz ⊢
      rcases hz with rfl | hz
      · exact .inl (.inl rfl)
      · rcases HMV.out z hz with h1 | h1
        · exact .inl (.inr h1)
        · exact .inr h1
    clear HBK HBK2 HAP HAWV HOV HOV2 HB49 HROW9 HEV c409 f409 nS hrun HGR HA9 HM9 c40 f40 hcmp
    generalize w9.setCell ⟨g, 40, none⟩ (.slice da2 ep dc2) = V2 at *
    go_loopw [30] (fun i wr => ∃ k : Nat, k ≤ nf ∧ i = .int .i64 (k : Int) ∧ EntG wr g (layK s p (fr.take k)) lb lv (.slice da2 ep dc2) ov mb mn ∧ BoxP wr g4 p po (.slice pa pn pc) ∧ H.Row wr ra fr ∧ Away (g :: (Value.slice da dn dc).ownBlock.toList) w wr ∧ Away (g :: (Value.slice da2 ep dc2).ownBlock.toList) V2 wr) (fun i _ => nf - (intOf i).toNat)
    case atStart => exact ⟨0, by omega, rfl, by rw [List.take_zero]; exact HE.out, HB4.out, HROW.out, HAW.out, Away.refl _ _⟩
    case round =>
      obtain ⟨k, hk, rfl, he, hb4, hrow, haw, hawV⟩ := hrel
      replace HE := Lib.hid he
      replace HB4 := Lib.hid hb4
      replace HROW := Lib.hid hrow
      replace HAW := Lib.hid haw
      have HAV := Lib.hid hawV
      clear he hb4 hrow haw hawV
      by_cases hlt : k < nf
      · obtain ⟨x, hx, hxm⟩ := H.get_of (show k < fr.length by have := HNF.out; omega)
        have hxi := HFR.out x hxm
        obtain ⟨b, off, rfl, c1, c2, -⟩ := HROW.out.at hx
        have HRD := Lib.hid (HRDq.out _ rfl)
        have HXT : Hid (fr.take (k + 1) = fr.take k ++ [x]) := H.take_snoc hx
        have hlen1 : H.lenP (fr.take (k + 1)) ≤ H.lenP fr := by
          have e := len_app (fr.take (k + 1)) (fr.drop (k + 1))
          rw [List.take_append_drop] at e
          have := len_pos (fr := fr.drop (k + 1)) (fun y hy => HSP.out y (List.mem_of_mem_drop hy))
          omega
        have hlen0 : 0 ≤ H.lenP (fr.take k) := len_pos (fun y hy => HSP.out y (List.mem_of_mem_take hy))
        have hlen2 : H.lenP (fr.take (k + 1)) = H.lenP (fr.take k) + (x.2 - x.1) := by rw [HXT.out, len_app]; simp [H.lenP]
        have hhk : (layK s p (fr.take k)).h = s.h + H.lenP (fr.take k) := rfl
        have HKL : Hid ((layK s p (fr.take k)).d.length = ep) := HLL.out (fr.take k) (fun y hy => HFR.out y (List.mem_of_mem_take hy))
        have HKB : Hid (Bytes (layK s p (fr.take k)).d) := layd_bytes HPB.out _ _ (grow_bytes HBY.out _)
        have HSN := Lib.hid (layK_snoc s p (fr.take k) x)
        rw [← HXT.out] at HSN
        generalize hs' : layK s p (fr.take k) = s' at *
        obtain ⟨x1, x2⟩ := x
        simp only at hxi c1 c2 HSN hlen2
        have hep' := HEPN.out
        rw [hep'] at hxi
        obtain ⟨i1, rfl⟩ : ∃ i : Nat, x1 = i := ⟨x1.toNat, by omega⟩
        obtain ⟨i2, rfl⟩ : ∃ i : Nat, x2 = i := ⟨x2.toNat, by omega⟩
        obtain ⟨kk, hkk⟩ : ∃ kk : Nat, (i1 : Int) - p.off = kk := ⟨((i1 : Int) - p.off).toNat, by omega⟩
        have hepn : (ep : Int) = p.off + pn := by rw [← hep']; exact HEP.out
        have q1 : i1 < i2 := by omega
        have q2 : i2 ≤ ep := by omega
        have q3 : kk + (i2 - i1) ≤ pn := by omega
        have q5 : i2 ≤ ep := by omega
        have hcapD : ep ≤ dc2 := HCAP.out
        obtain ⟨A, hA⟩ : ∃ A, A = if dc2 = i1 then da2 else da2.map (·.add i1) := ⟨_, rfl⟩
        obtain ⟨B, hB⟩ : ∃ B, B = if pc = kk then pa else pa.map (·.add kk) := ⟨_, rfl⟩
        have hsA := slice_lh da2 A ep dc2 i1 (i2 - i1) (i1 : Int) (i2 : Int) hA rfl (by omega) (by omega)
        have hsB := slice_l pa B pn pc kk (kk : Int) hB rfl (by omega)
        have hw1 : IntKind.i64.wrap ((i1 : Int) - p.off) = kk := by rw [IntKind.wrap_i64]; omega
        have HA := Lib.hid hA
        have HPK := Lib.hid ((HP.out.away HAW.out HOU.out).d)
        have HBR : Hid (H.Row wr (some ⟨b, off, none⟩) fr) := HROW.out
        have HKK := Lib.hid hkk
        have hhx : s'.h = s.h + H.lenP (fr.take k) := hhk
        obtain ⟨hv, hhv⟩ : ∃ hv, hv = s'.h := ⟨_, rfl⟩
        have hv0 : 0 ≤ hv := by omega
        have hv1 : hv + ((i2 : Int) - i1) ≤ 65535 := by have := HH1.out; omega
        have hw2 : IntKind.i64.wrap ((i2 : Int) - i1) = (i2 : Int) - i1 := by rw [IntKind.wrap_i64]; omega
        have hw3 : IntKind.i64.wrap (hv + ((i2 : Int) - i1)) = hv + ((i2 : Int) - i1) := by rw [IntKind.wrap_i64]; omega
        have HHV := Lib.hid hhv
        have t1 : (k : Int) < (nf : Int) := by omega
        have t2 : 0 ≤ (k : Int) := by omega
        have t3 : ((k : Int)).toNat = k := by omega
        have hBB := Lib.hid hB
        have HE0 := HE
        clear hhv hhk hhx hA hB hkk hs' hlen1 hlen0 hlen2 hep' hepn hx hxm hxi
        go_wp2_with fail
        have HAL : Hid (Away [] wr (wr.alloc (.cells #[.int .i64 (i1 : Int), .int .i64 (i2 : Int)] 112))) := (Away.refl _ _).alloc _
        have d1 : (wr.alloc (.cells #[.int .i64 (i1 : Int), .int .i64 (i2 : Int)] 112)).cell? ⟨wr.heap.size, 0, none⟩ = some (.int .i64 (i1 : Int)) := by simp
        have d2 : (wr.alloc (.cells #[.int .i64 (i1 : Int), .int .i64 (i2 : Int)] 112)).cell? ⟨wr.heap.size, 1, none⟩ = some (.int .i64 (i2 : Int)) := by simp
        obtain ⟨b8, hb8⟩ : ∃ b8, b8 = wr.heap.size := ⟨_, rfl⟩
        have HB8 := Lib.hid hb8
        rw [← hb8] at d1 d2 ⊢
        generalize wr.alloc (.cells #[.int .i64 (i1 : Int), .int .i64 (i2 : Int)] 112) = w8 at *
        replace HE := Lib.hid (HE.out.on HAL.out)
        replace HB4 := Lib.hid (HB4.out.on HAL.out)
        replace HROW := Lib.hid (HROW.out.on HAL.out)
        have HPL : Hid (Row w8 B (p.d.drop kk)) := by
          obtain ⟨a', c', e', k', -, r'⟩ := HPK.out.on HAL.out
          simp only [Value.slice.injEq] at e'
          obtain ⟨rfl, -, rfl⟩ := e'
          show Row _ _ _
          rw [hBB.out]; exact r'.tail kk _ k' (by have := HPN.out; omega)
        have HB8g : Hid (b8 ≠ g ∧ (Value.slice da2 ep dc2).ownBlock ≠ some b8) := ⟨fun e => by have h1 := lt_of_block HE0.out.blk; have h2 := HB8.out; omega, fun e => by have h1 := HE0.out.da.lt _ e; have h2 := HB8.out; omega⟩
        clear hb8 c1 c2
        have S0 : Hid (w8.drew.cell? ⟨g, 40, none⟩ = some (.slice da2 ep dc2) ∧ BoxP w8.drew g4 p po (.slice pa pn pc) ∧ w8.drew.cell? ⟨b8, 0, none⟩ = some (.int .i64 (i1 : Int)) ∧ w8.drew.cell? ⟨b8, 1, none⟩ = some (.int .i64 (i2 : Int))) := ⟨HE.out.cells.2.2.2.1, HB4.out, d1, d2⟩
        refine wp_region_held_drew (S := fun w' => w'.cell? ⟨g, 40, none⟩ = some (.slice da2 ep dc2) ∧ BoxP w' g4 p po (.slice pa pn pc) ∧ w'.cell? ⟨b8, 0, none⟩ = some (.int .i64 (i1 : Int)) ∧ w'.cell? ⟨b8, 1, none⟩ = some (.int .i64 (i2 : Int))) (by kernel_rfl) (by exact S0.out) (fun hHeld => ?_)
        refine tkA 0 (v := ?_) (by simp only [gA, g1, g0]; rfl) (by kernel_rfl) (by exact fun _ _ _ h => h) (Or.inl ⟨by rfl, ?_⟩) (by assumption) ?_; rotate_left; focus (intro wq hSw; (try dsimp only at hSw); go_simp; all_goals (with_reducible rfl))
        try simp only [Act.put, sA, s0, s1]
        refine tkA 1 (v := ?_) (by simp only [gA, g1, g0]; rfl) (by kernel_rfl) (by exact fun _ _ _ h => h) (Or.inl ⟨by rfl, ?_⟩) (by assumption) ?_; rotate_left; focus (intro wq hSw; (try dsimp only at hSw); go_simp; all_goals (with_reducible rfl))
        try simp only [Act.put, sA, s0, s1]
        refine tkA 2 (v := ?_) (by simp only [gA, g1, g0]; rfl) (by kernel_rfl) (by exact fun _ _ _ h => h) (Or.inl ⟨by rfl, ?_⟩) (by assumption) ?_; rotate_left; focus (intro wq hSw; (try dsimp only at hSw); go_simp; all_goals (with_reducible rfl))
        try simp only [Act.put, sA, s0, s1]
        refine tkA 3 (by simp only [gA, g1, g0]; rfl) (by kernel_rfl) (by exact fun _ _ _ h => h) (yields_ld (ad := ⟨g, 40, none⟩) (by rfl) _ rfl rfl (fun w' h => ld26 h.1)) (by assumption) ?_; try simp only [Act.put, sA, s0, s1]
        refine tkA 4 (v := ?_) (by simp only [gA, g1, g0]; rfl) (by kernel_rfl) (by exact fun _ _ _ h => h) (Or.inl ⟨by rfl, ?_⟩) (by assumption) ?_; rotate_left; focus (intro wq hSw; (try dsimp only at hSw); go_simp; all_goals (with_reducible rfl))
        try simp only [Act.put, sA, s0, s1]
        refine tkA 5 (by simp only [gA, g1, g0]; rfl) (by kernel_rfl) (by exact fun _ _ _ h => h) (yields_ld (ad := ⟨b8, 0, none⟩) (by rfl) _ rfl rfl (fun w' h => ld3 h.2.2.1)) (by assumption) ?_; try simp only [Act.put, sA, s0, s1]
        refine tkA 6 (v := ?_) (by simp only [gA, g1, g0]; rfl) (by kernel_rfl) (by exact fun _ _ _ h => h) (Or.inl ⟨by rfl, ?_⟩) (by assumption) ?_; rotate_left; focus (intro wq hSw; (try dsimp only at hSw); go_simp; all_goals (with_reducible rfl))
        try simp only [Act.put, sA, s0, s1]
        refine tkA 7 (by simp only [gA, g1, g0]; rfl) (by kernel_rfl) (by exact fun _ _ _ h => h) (yields_ld (ad := ⟨b8, 1, none⟩) (by rfl) _ rfl rfl (fun w' h => ld3 h.2.2.2)) (by assumption) ?_; try simp only [Act.put, sA, s0, s1]
        refine tkA 8 (v := ?_) (by simp only [gA, g1, g0]; rfl) (by kernel_rfl) (by exact fun _ _ _ h => h) (Or.inl ⟨by rfl, ?_⟩) (by assumption) ?_; rotate_left; focus (intro wq hSw; (try dsimp only at hSw); go_simp; all_goals (with_reducible rfl))
        try simp only [Act.put, sA, s0, s1]
        refine tkA 9 (v := ?_) (by simp only [gA, g1, g0]; rfl) (by kernel_rfl) (by exact fun _ _ _ h => h) (Or.inl ⟨by rfl, ?_⟩) (by assumption) ?_; rotate_left; focus (intro wq hSw; (try dsimp only at hSw); go_simp; all_goals (with_reducible rfl))
        try simp only [Act.put, sA, s0, s1]
        refine tkA 10 (by simp only [gA, g1, g0]; rfl) (by kernel_rfl) (by exact fun _ _ _ h => h) (yields_ld (ad := ⟨g4, 45, none⟩) (by rfl) _ rfl rfl (fun w' h => ld26 (BoxP.cells h.2.1 HAD.out).d)) (by assumption) ?_; try simp only [Act.put, sA, s0, s1]
        refine tkA 11 (v := ?_) (by simp only [gA, g1, g0]; rfl) (by kernel_rfl) (by exact fun _ _ _ h => h) (Or.inl ⟨by rfl, ?_⟩) (by assumption) ?_; rotate_left; focus (intro wq hSw; (try dsimp only at hSw); go_simp; all_goals (with_reducible rfl))
        try simp only [Act.put, sA, s0, s1]
        refine tkA 12 (by simp only [gA, g1, g0]; rfl) (by kernel_rfl) (by exact fun _ _ _ h => h) (yields_ld (ad := ⟨b8, 0, none⟩) (by rfl) _ rfl rfl (fun w' h => ld3 h.2.2.1)) (by assumption) ?_; try simp only [Act.put, sA, s0, s1]
        refine tkA 13 (v := ?_) (by simp only [gA, g1, g0]; rfl) (by kernel_rfl) (by exact fun _ _ _ h => h) (Or.inl ⟨by rfl, ?_⟩) (by assumption) ?_; rotate_left; focus (intro wq hSw; (try dsimp only at hSw); go_simp; all_goals (with_reducible rfl))
        try simp only [Act.put, sA, s0, s1]
        refine tkA 14 (by simp only [gA, g1, g0]; rfl) (by kernel_rfl) (by exact fun _ _ _ h => h) (yields_ld (ad := ⟨g4, 43, none⟩) (by rfl) _ rfl rfl (fun w' h => ld3 (BoxP.cells h.2.1 HAD.out).off)) (by assumption) ?_; try simp only [Act.put, sA, s0, s1]
        refine tkA 15 (v := ?_) (by simp only [gA, g1, g0]; rfl) (by kernel_rfl) (by exact fun _ _ _ h => h) (Or.inl ⟨by rfl, ?_⟩) (by assumption) ?_; rotate_left; focus (intro wq hSw; (try dsimp only at hSw); go_simp; all_goals (with_reducible rfl))
        try simp only [Act.put, sA, s0, s1]
        refine tkA 16 (v := ?_) (by simp only [gA, g1, g0]; rfl) (by kernel_rfl) (by exact fun _ _ _ h => h) (Or.inl ⟨by rfl, ?_⟩) (by assumption) ?_; rotate_left; focus (intro wq hSw; (try dsimp only at hSw); go_simp; all_goals (with_reducible rfl))
        try simp only [Act.put, sA, s0, s1]
        refine wpAnyH_ready (rs := [17]) (by kernel_rfl) (by simp) ?_
        refine AllReadyH.cons (by simp only [gA, g1, g0]; rfl) (fun K hK => ?_) AllReadyH.nil
        obtain ⟨w9, hrun, hov, haw9⟩ := run_copyO 3 w8.drew da2 ep dc2 s'.d (by exact HE.out.da) i1 (i2 - i1) (by omega) (by have := HKL.out; omega) A HA.out (dc2 - i1) B (pn - kk) (pc - kk) (p.d.drop kk) (by rw [List.length_drop]; have := HPN.out; omega) (by rw [List.length_drop]; have := HPN.out; omega) (by exact HPL.out)
        refine step_run rfl _ rfl _ _ (by simp only [List.map_toArray, List.map_cons, List.map_nil]; rfl) hrun ?_
        have HOV := Lib.hid hov
        have HA9 := Lib.hid haw9
        have nS : ∀ x, (Value.slice da2 ep dc2).ownBlock ≠ some x → x ∉ (Value.slice da2 ep dc2).ownBlock.toList := fun x h1 hx => h1 (by simpa using hx)
        have S1 : Hid (w9.cell? ⟨g, 40, none⟩ = some (.slice da2 ep dc2) ∧ BoxP w9 g4 p po (.slice pa pn pc) ∧ w9.cell? ⟨b8, 0, none⟩ = some (.int .i64 (i1 : Int)) ∧ w9.cell? ⟨b8, 1, none⟩ = some (.int .i64 (i2 : Int))) := ⟨Away.cell haw9 (nS g HE.out.ap.gd) S0.out.1, BoxP.away S0.out.2.1 haw9 (nS g4 HG4D.out), Away.cell haw9 (nS b8 HB8g.out.2) S0.out.2.2.1, Away.cell haw9 (nS b8 HB8g.out.2) S0.out.2.2.2⟩
        refine hK.out _ _ (by exact S1.out) (fun hHeld => ?_)
        clear hK K
        try simp only [Act.put, sA, s0, s1]
        refine wpAnyH_done (by kernel_rfl) ?_ _
        have HBK : Hid (w9.heap[g]? = some (.cells (listE s' (.pointer (some ⟨lb, 0, none⟩)) (.slice da2 ep dc2) ov (.map (some mb))).toArray 101 (0, 0))) := Away.keep HA9.out (nS g HE.out.ap.gd) HE.out.blk
        have c41 : w9.cell? ⟨g, 41, none⟩ = some (.int .i64 hv) := Away.cell HA9.out (nS g HE.out.ap.gd) (by rw [HHV.out]; exact HE.out.cells.2.2.2.2.1)
        have f41 : w9.frozen? ⟨g, 41, none⟩ = false := free_of_block HBK.out 41
        have e8 := S1.out.2.2.1
        have e9 := S1.out.2.2.2
        have HS1 := S1
        clear hHeld hov haw9 hrun
        go_wp2_with fail
        refine wp_region_held_drew (S := fun w' => w'.cell? ⟨b8, 0, none⟩ = some (.int .i64 (i1 : Int)) ∧ w'.cell? ⟨b8, 1, none⟩ = some (.int .i64 (i2 : Int))) (by kernel_rfl) (by exact ⟨e8, e9⟩) (fun hHeld => ?_)
        refine tkA 0 (v := ?_) (by simp only [gA, g1, g0]; rfl) (by kernel_rfl) (by exact fun _ _ _ h => h) (Or.inl ⟨by rfl, ?_⟩) (by assumption) ?_; rotate_left; focus (intro wq hSw; (try dsimp only at hSw); go_simp; all_goals (with_reducible rfl))
        try simp only [Act.put, sA, s0, s1]
        refine tkA 1 (v := ?_) (by simp only [gA, g1, g0]; rfl) (by kernel_rfl) (by exact fun _ _ _ h => h) (Or.inl ⟨by rfl, ?_⟩) (by assumption) ?_; rotate_left; focus (intro wq hSw; (try dsimp only at hSw); go_simp; all_goals (with_reducible rfl))
        try simp only [Act.put, sA, s0, s1]
        refine tkA 2 (v := ?_) (by simp only [gA, g1, g0]; rfl) (by kernel_rfl) (by exact fun _ _ _ h => h) (Or.inl ⟨by rfl, ?_⟩) (by assumption) ?_; rotate_left; focus (intro wq hSw; (try dsimp only at hSw); go_simp; all_goals (with_reducible rfl))
        try simp only [Act.put, sA, s0, s1]
        refine tkA 4 (v := ?_) (by simp only [gA, g1, g0]; rfl) (by kernel_rfl) (by exact fun _ _ _ h => h) (Or.inl ⟨by rfl, ?_⟩) (by assumption) ?_; rotate_left; focus (intro wq hSw; (try dsimp only at hSw); go_simp; all_goals (with_reducible rfl))
        try simp only [Act.put, sA, s0, s1]
        refine tkA 5 (by simp only [gA, g1, g0]; rfl) (by kernel_rfl) (by exact fun _ _ _ h => h) (yields_ld (ad := ⟨b8, 1, none⟩) (by rfl) _ rfl rfl (fun w' h => ld3 h.2)) (by assumption) ?_; try simp only [Act.put, sA, s0, s1]
        refine tkA 6 (v := ?_) (by simp only [gA, g1, g0]; rfl) (by kernel_rfl) (by exact fun _ _ _ h => h) (Or.inl ⟨by rfl, ?_⟩) (by assumption) ?_; rotate_left; focus (intro wq hSw; (try dsimp only at hSw); go_simp; all_goals (with_reducible rfl))
        try simp only [Act.put, sA, s0, s1]
        refine tkA 7 (by simp only [gA, g1, g0]; rfl) (by kernel_rfl) (by exact fun _ _ _ h => h) (yields_ld (ad := ⟨b8, 0, none⟩) (by rfl) _ rfl rfl (fun w' h => ld3 h.1)) (by assumption) ?_; try simp only [Act.put, sA, s0, s1]
        refine tkA 8 (v := ?_) (by simp only [gA, g1, g0]; rfl) (by kernel_rfl) (by exact fun _ _ _ h => h) (Or.inl ⟨by rfl, ?_⟩) (by assumption) ?_; rotate_left; focus (intro wq hSw; (try dsimp only at hSw); go_simp; all_goals (with_reducible rfl))
        try simp only [Act.put, sA, s0, s1]
        refine wpAnyH_ready (rs := [3]) (by kernel_rfl) (by simp) ?_
        refine AllReadyH.cons (by simp only [gA, g1, g0]; rfl) (fun K hK => ?_) AllReadyH.nil
        go_simp
        refine hK.out _ _ (by exact ⟨e8, e9⟩) (fun hHeld => ?_)
        clear hK K
        try simp only [Act.put, sA, s0, s1]
        refine tkA 9 (v := ?_) (by simp only [gA, g1, g0]; rfl) (by kernel_rfl) (by exact fun _ _ _ h => h) (Or.inl ⟨by rfl, ?_⟩) (by assumption) ?_; rotate_left; focus (intro wq hSw; (try dsimp only at hSw); go_simp; all_goals (with_reducible rfl))
        try simp only [Act.put, sA, s0, s1]
        refine tkA 10 (v := ?_) (by simp only [gA, g1, g0]; rfl) (by kernel_rfl) (by exact fun _ _ _ h => h) (Or.inl ⟨by rfl, ?_⟩) (by assumption) ?_; rotate_left; focus (intro wq hSw; (try dsimp only at hSw); go_simp; all_goals (with_reducible rfl))
        try simp only [Act.put, sA, s0, s1]
        refine tkA 11 (v := ?_) (by simp only [gA, g1, g0]; rfl) (by kernel_rfl) (by exact fun _ _ _ h => h) (Or.inl ⟨by rfl, ?_⟩) (by assumption) ?_; rotate_left; focus (intro wq hSw; (try dsimp only at hSw); go_simp; all_goals (with_reducible rfl))
        try simp only [Act.put, sA, s0, s1]
        refine wpAnyH_ready (rs := [12]) (by kernel_rfl) (by simp) ?_
        refine AllReadyH.cons (by simp only [gA, g1, g0]; rfl) (fun K hK => ?_) AllReadyH.nil
        refine step_store3 rfl 63 61 rfl g 41 rfl (hv + ((i2 : Int) - i1)) rfl (.int .i64 hv) (by exact c41) (by exact f41) ?_
        have S2 : Hid ((w9.drew.setCell ⟨g, 41, none⟩ (.int .i64 (hv + ((i2 : Int) - i1)))).cell? ⟨b8, 0, none⟩ = some (.int .i64 (i1 : Int)) ∧ (w9.drew.setCell ⟨g, 41, none⟩ (.int .i64 (hv + ((i2 : Int) - i1)))).cell? ⟨b8, 1, none⟩ = some (.int .i64 (i2 : Int))) := ⟨Away.cell (away_put (w := w9.drew) (g := g) 41 _) (by simpa using HB8g.out.1) e8, Away.cell (away_put (w := w9.drew) (g := g) 41 _) (by simpa using HB8g.out.1) e9⟩
        refine hK.out _ _ (by exact S2.out) (fun hHeld => ?_)
        clear hK K
        try simp only [Act.put]
        refine wpAnyH_done (by kernel_rfl) ?_ _
        have HBK2 := Lib.hid (blk_set (w := w9.drew) HBK.out 41 (.int .i64 (hv + ((i2 : Int) - i1))))
        rw [csE_h s' HE.out.kad HE.out.fad] at HBK2
        have HAWT : Hid (Away (g :: (Value.slice da2 ep dc2).ownBlock.toList) w8 (w9.drew.setCell ⟨g, 41, none⟩ (.int .i64 (hv + ((i2 : Int) - i1))))) := (((Away.refl [] w8).drew.mono (by simp)).trans (HA9.out.mono (fun z hz => by simp at hz; simp [hz]))).drew.setCell (.inl (by simp)) _
        have HOV2 : Hid (Owns (w9.drew.setCell ⟨g, 41, none⟩ (.int .i64 (hv + ((i2 : Int) - i1)))) (.slice da2 ep dc2) (over s'.d i1 ((p.d.drop kk).take (i2 - i1)))) := HOV.out.away (S := [g]) ((Away.refl [g] w9).drew.setCell (.inl (by simp)) _) (fun z hz => by simp; intro e; subst e; exact HE.out.ap.gd hz)
        generalize w9.drew.setCell ⟨g, 41, none⟩ (.int .i64 (hv + ((i2 : Int) - i1))) = w10 at *
        have HFE : Hid (EntG w10 g (layK s p (fr.take (k + 1))) lb lv (.slice da2 ep dc2) ov mb mn) := by
          show EntG _ _ _ _ _ _ _ _ _
          rw [HSN.out]
          refine HE.out.data HAWT.out ?_ ?_ (Moved.refl _ _)
          · rw [HBK2.out, HHV.out]; rfl
          · unfold laySp
            have e1 : ((i1 : Int)).toNat = i1 := by omega
            have e2 : ((i2 : Int) - i1).toNat = i2 - i1 := by omega
            simp only [e1, e2, HKK.out, Int.toNat_natCast]
            exact HOV2.out
        have hnb : ∀ z, z ≠ g → (Value.slice da2 ep dc2).ownBlock ≠ some z → z ∉ g :: (Value.slice da2 ep dc2).ownBlock.toList := fun z h1 h2 hz => by
          simp at hz
          rcases hz with hz | hz
          · exact h1 hz
          · exact h2 hz
        have HFB := Lib.hid (HB4.out.away HAWT.out (hnb g4 HG4.out.1 HG4D.out))
        have HFR2 : Hid (H.Row w10 (some ⟨b, off, none⟩) fr) := HROW.out.away HAWT.out (fun q hq' => by simp only [Option.some.injEq] at hq'; subst hq'; exact hnb b (HRAB.out _ rfl).1 HRD.out)
        have HFA : Hid (Away (g :: (Value.slice da dn dc).ownBlock.toList) w w10) := (HAW.out.next HAL.out (by simp)).next HAWT.out (fun z hz => HFOLD.out z hz)
        have HFV : Hid (Away (g :: (Value.slice da2 ep dc2).ownBlock.toList) V2 w10) := (HAV.out.next HAL.out (by simp)).next HAWT.out (fun z hz => .inl hz)
        clear HBK HBK2 HOV HOV2 S0 S1 HS1 S2 hHeld e8 e9 d1 d2 c41 f41 nS hnb
        go_wp2_with fail
        go_roundw
        case rel => exact ⟨k + 1, by omega, by go_num, HFE.out, HFB.out, HFR2.out, HFA.out, HFV.out⟩
        case measure => simp [intOf]; omega
      · have hkn : k = nf := by omega
        go_wp2_with fail
        go_end0
        have hf := HE.out
        rw [List.take_of_length_le (by rw [← HNF.out]; omega), layK_all] at hf
        exact ⟨rfl, _, hf, HMV.out, HAW.out⟩
  · have hcmp : ¬ ((0 : Int) < lk) := by have := HLK.out; omega
    go_wp2_with fail
    have HEV := HE
    replace HE : Hid (EntG V g (layK s p []) lb lv (.slice da dn dc) ov mb mn) := by
      show EntG _ _ _ _ _ _ _ _ _
      have e : layK s p [] = s := by
        have e1 : grow s.d ep = s.d := by unfold grow; rw [show ep - s.d.length = 0 from by have := HDN.out; omega]; simp
        unfold layK; rw [HEPN.out]; simp [H.lenP, e1]
      rw [e]; exact HEV.out
    have HCAP : Hid (dn ≤ dc) := HCP.out
    have HAW : Hid (Away (g :: (Value.slice da dn dc).ownBlock.toList) w V) := HA4.out.mono (by simp)
    have HMV : Hid (Moved w (.slice da dn dc) (.slice da dn dc)) := Moved.refl _ _
    have HLL : Hid (∀ fr', FrIn p fr' → (layK s p fr').d.length = dn) := fun fr' h' => by
      have e1 : (grow s.d (endP p).toNat).length = dn := by rw [HEPN.out, grow_len]; have := HDN.out; simp; omega
      show (fr'.foldl (laySp p.off p.d) (grow s.d (endP p).toNat)).length = dn
      rw [layd_len HQ.out fr' _ h' (by rw [e1, HEPN.out]; omega), e1]
    have HG4D : Hid ((Value.slice da dn dc).ownBlock ≠ some g4) := HG4.out.2
    have HRDq : Hid (∀ q, ra = some q → (Value.slice da dn dc).ownBlock ≠ some q.block) := fun q hq' => (HRAB.out q hq').2
    have HFOLD : Hid (∀ z ∈ g :: (Value.slice da dn dc).ownBlock.toList, z ∈ g :: (Value.slice da dn dc).ownBlock.toList ∨ w.heap.size ≤ z) := fun z hz => .inl hz
    clear HEV c40 f40 hsubw hcmp
    go_loopw [30] (fun i wr => ∃ k : Nat, k ≤ nf ∧ i = .int .i64 (k : Int) ∧ EntG wr g (layK s p (fr.take k)) lb lv (.slice da dn dc) ov mb mn ∧ BoxP wr g4 p po (.slice pa pn pc) ∧ H.Row wr ra fr ∧ Away (g :: (Value.slice da dn dc).ownBlock.toList) w wr ∧ Away (g :: (Value.slice da dn dc).ownBlock.toList) V wr) (fun i _ => nf - (intOf i).toNat)
    case atStart => exact ⟨0, by omega, rfl, by rw [List.take_zero]; exact HE.out, HB4.out, HROW.out, HAW.out, Away.refl _ _⟩
    case round =>
      obtain ⟨k, hk, rfl, he, hb4, hrow, haw, hawV⟩ := hrel
      replace HE := Lib.hid he
      replace HB4 := Lib.hid hb4
      replace HROW := Lib.hid hrow
      replace HAW := Lib.hid haw
      have HAV := Lib.hid hawV
      clear he hb4 hrow haw hawV
      by_cases hlt : k < nf
      · obtain ⟨x, hx, hxm⟩ := H.get_of (show k < fr.length by have := HNF.out; omega)
        have hxi := HFR.out x hxm
        obtain ⟨b, off, rfl, c1, c2, -⟩ := HROW.out.at hx
        have HRD := Lib.hid (HRDq.out _ rfl)
        have HXT : Hid (fr.take (k + 1) = fr.take k ++ [x]) := H.take_snoc hx
        have hlen1 : H.lenP (fr.take (k + 1)) ≤ H.lenP fr := by
          have e := len_app (fr.take (k + 1)) (fr.drop (k + 1))
          rw [List.take_append_drop] at e
          have := len_pos (fr := fr.drop (k + 1)) (fun y hy => HSP.out y (List.mem_of_mem_drop hy))
          omega
        have hlen0 : 0 ≤ H.lenP (fr.take k) := len_pos (fun y hy => HSP.out y (List.mem_of_mem_take hy))
        have hlen2 : H.lenP (fr.take (k + 1)) = H.lenP (fr.take k) + (x.2 - x.1) := by rw [HXT.out, len_app]; simp [H.lenP]
        have hhk : (layK s p (fr.take k)).h = s.h + H.lenP (fr.take k) := rfl
        have HKL : Hid ((layK s p (fr.take k)).d.length = dn) := HLL.out (fr.take k) (fun y hy => HFR.out y (List.mem_of_mem_take hy))
        have HKB : Hid (Bytes (layK s p (fr.take k)).d) := layd_bytes HPB.out _ _ (grow_bytes HBY.out _)
        have HSN := Lib.hid (layK_snoc s p (fr.take k) x)
        rw [← HXT.out] at HSN
        generalize hs' : layK s p (fr.take k) = s' at *
        obtain ⟨x1, x2⟩ := x
        simp only at hxi c1 c2 HSN hlen2
        have hep' := HEPN.out
        rw [hep'] at hxi
        obtain ⟨i1, rfl⟩ : ∃ i : Nat, x1 = i := ⟨x1.toNat, by omega⟩
        obtain ⟨i2, rfl⟩ : ∃ i : Nat, x2 = i := ⟨x2.toNat, by omega⟩
        obtain ⟨kk, hkk⟩ : ∃ kk : Nat, (i1 : Int) - p.off = kk := ⟨((i1 : Int) - p.off).toNat, by omega⟩
        have hepn : (ep : Int) = p.off + pn := by rw [← hep']; exact HEP.out
        have q1 : i1 < i2 := by omega
        have q2 : i2 ≤ ep := by omega
        have q3 : kk + (i2 - i1) ≤ pn := by omega
        have q5 : i2 ≤ dn := by omega
        have hcapD : dn ≤ dc := HCAP.out
        obtain ⟨A, hA⟩ : ∃ A, A = if dc = i1 then da else da.map (·.add i1) := ⟨_, rfl⟩
        obtain ⟨B, hB⟩ : ∃ B, B = if pc = kk then pa else pa.map (·.add kk) := ⟨_, rfl⟩
        have hsA := slice_lh da A dn dc i1 (i2 - i1) (i1 : Int) (i2 : Int) hA rfl (by omega) (by omega)
        have hsB := slice_l pa B pn pc kk (kk : Int) hB rfl (by omega)
        have hw1 : IntKind.i64.wrap ((i1 : Int) - p.off) = kk := by rw [IntKind.wrap_i64]; omega
        have HA := Lib.hid hA
        have HPK := Lib.hid ((HP.out.away HAW.out HOU.out).d)
        have HBR : Hid (H.Row wr (some ⟨b, off, none⟩) fr) := HROW.out
        have HKK := Lib.hid hkk
        have hhx : s'.h = s.h + H.lenP (fr.take k) := hhk
        obtain ⟨hv, hhv⟩ : ∃ hv, hv = s'.h := ⟨_, rfl⟩
        have hv0 : 0 ≤ hv := by omega
        have hv1 : hv + ((i2 : Int) - i1) ≤ 65535 := by have := HH1.out; omega
        have hw2 : IntKind.i64.wrap ((i2 : Int) - i1) = (i2 : Int) - i1 := by rw [IntKind.wrap_i64]; omega
        have hw3 : IntKind.i64.wrap (hv + ((i2 : Int) - i1)) = hv + ((i2 : Int) - i1) := by rw [IntKind.wrap_i64]; omega
        have HHV := Lib.hid hhv
        have t1 : (k : Int) < (nf : Int) := by omega
        have t2 : 0 ≤ (k : Int) := by omega
        have t3 : ((k : Int)).toNat = k := by omega
        have hBB := Lib.hid hB
        have HE0 := HE
        clear hhv hhk hhx hA hB hkk hs' hlen1 hlen0 hlen2 hep' hepn hx hxm hxi
        go_wp2_with fail
        have HAL : Hid (Away [] wr (wr.alloc (.cells #[.int .i64 (i1 : Int), .int .i64 (i2 : Int)] 112))) := (Away.refl _ _).alloc _
        have d1 : (wr.alloc (.cells #[.int .i64 (i1 : Int), .int .i64 (i2 : Int)] 112)).cell? ⟨wr.heap.size, 0, none⟩ = some (.int .i64 (i1 : Int)) := by simp
        have d2 : (wr.alloc (.cells #[.int .i64 (i1 : Int), .int .i64 (i2 : Int)] 112)).cell? ⟨wr.heap.size, 1, none⟩ = some (.int .i64 (i2 : Int)) := by simp
        obtain ⟨b8, hb8⟩ : ∃ b8, b8 = wr.heap.size := ⟨_, rfl⟩
        have HB8 := Lib.hid hb8
        rw [← hb8] at d1 d2 ⊢
        generalize wr.alloc (.cells #[.int .i64 (i1 : Int), .int .i64 (i2 : Int)] 112) = w8 at *
        replace HE := Lib.hid (HE.out.on HAL.out)
        replace HB4 := Lib.hid (HB4.out.on HAL.out)
        replace HROW := Lib.hid (HROW.out.on HAL.out)
        have HPL : Hid (Row w8 B (p.d.drop kk)) := by
          obtain ⟨a', c', e', k', -, r'⟩ := HPK.out.on HAL.out
          simp only [Value.slice.injEq] at e'
          obtain ⟨rfl, -, rfl⟩ := e'
          show Row _ _ _
          rw [hBB.out]; exact r'.tail kk _ k' (by have := HPN.out; omega)
        have HB8g : Hid (b8 ≠ g ∧ (Value.slice da dn dc).ownBlock ≠ some b8) := ⟨fun e => by have h1 := lt_of_block HE0.out.blk; have h2 := HB8.out; omega, fun e => by have h1 := HE0.out.da.lt _ e; have h2 := HB8.out; omega⟩
        clear hb8 c1 c2
        have S0 : Hid (w8.drew.cell? ⟨g, 40, none⟩ = some (.slice da dn dc) ∧ BoxP w8.drew g4 p po (.slice pa pn pc) ∧ w8.drew.cell? ⟨b8, 0, none⟩ = some (.int .i64 (i1 : Int)) ∧ w8.drew.cell? ⟨b8, 1, none⟩ = some (.int .i64 (i2 : Int))) := ⟨HE.out.cells.2.2.2.1, HB4.out, d1, d2⟩
        refine wp_region_held_drew (S := fun w' => w'.cell? ⟨g, 40, none⟩ = some (.slice da dn dc) ∧ BoxP w' g4 p po (.slice pa pn pc) ∧ w'.cell? ⟨b8, 0, none⟩ = some (.int .i64 (i1 : Int)) ∧ w'.cell? ⟨b8, 1, none⟩ = some (.int .i64 (i2 : Int))) (by kernel_rfl) (by exact S0.out) (fun hHeld => ?_)
        refine tkA 0 (v := ?_) (by simp only [gA, g1, g0]; rfl) (by kernel_rfl) (by exact fun _ _ _ h => h) (Or.inl ⟨by rfl, ?_⟩) (by assumption) ?_; rotate_left; focus (intro wq hSw; (try dsimp only at hSw); go_simp; all_goals (with_reducible rfl))
        try simp only [Act.put, sA, s0, s1]
        refine tkA 1 (v := ?_) (by simp only [gA, g1, g0]; rfl) (by kernel_rfl) (by exact fun _ _ _ h => h) (Or.inl ⟨by rfl, ?_⟩) (by assumption) ?_; rotate_left; focus (intro wq hSw; (try dsimp only at hSw); go_simp; all_goals (with_reducible rfl))
        try simp only [Act.put, sA, s0, s1]
        refine tkA 2 (v := ?_) (by simp only [gA, g1, g0]; rfl) (by kernel_rfl) (by exact fun _ _ _ h => h) (Or.inl ⟨by rfl, ?_⟩) (by assumption) ?_; rotate_left; focus (intro wq hSw; (try dsimp only at hSw); go_simp; all_goals (with_reducible rfl))
        try simp only [Act.put, sA, s0, s1]
        refine tkA 3 (by simp only [gA, g1, g0]; rfl) (by kernel_rfl) (by exact fun _ _ _ h => h) (yields_ld (ad := ⟨g, 40, none⟩) (by rfl) _ rfl rfl (fun w' h => ld26 h.1)) (by assumption) ?_; try simp only [Act.put, sA, s0, s1]
        refine tkA 4 (v := ?_) (by simp only [gA, g1, g0]; rfl) (by kernel_rfl) (by exact fun _ _ _ h => h) (Or.inl ⟨by rfl, ?_⟩) (by assumption) ?_; rotate_left; focus (intro wq hSw; (try dsimp only at hSw); go_simp; all_goals (with_reducible rfl))
        try simp only [Act.put, sA, s0, s1]
        refine tkA 5 (by simp only [gA, g1, g0]; rfl) (by kernel_rfl) (by exact fun _ _ _ h => h) (yields_ld (ad := ⟨b8, 0, none⟩) (by rfl) _ rfl rfl (fun w' h => ld3 h.2.2.1)) (by assumption) ?_; try simp only [Act.put, sA, s0, s1]
        refine tkA 6 (v := ?_) (by simp only [gA, g1, g0]; rfl) (by kernel_rfl) (by exact fun _ _ _ h => h) (Or.inl ⟨by rfl, ?_⟩) (by assumption) ?_; rotate_left; focus (intro wq hSw; (try dsimp only at hSw); go_simp; all_goals (with_reducible rfl))
        try simp only [Act.put, sA, s0, s1]
        refine tkA 7 (by simp only [gA, g1, g0]; rfl) (by kernel_rfl) (by exact fun _ _ _ h => h) (yields_ld (ad := ⟨b8, 1, none⟩) (by rfl) _ rfl rfl (fun w' h => ld3 h.2.2.2)) (by assumption) ?_; try simp only [Act.put, sA, s0, s1]
        refine tkA 8 (v := ?_) (by simp only [gA, g1, g0]; rfl) (by kernel_rfl) (by exact fun _ _ _ h => h) (Or.inl ⟨by rfl, ?_⟩) (by assumption) ?_; rotate_left; focus (intro wq hSw; (try dsimp only at hSw); go_simp; all_goals (with_reducible rfl))
        try simp only [Act.put, sA, s0, s1]
        refine tkA 9 (v := ?_) (by simp only [gA, g1, g0]; rfl) (by kernel_rfl) (by exact fun _ _ _ h => h) (Or.inl ⟨by rfl, ?_⟩) (by assumption) ?_; rotate_left; focus (intro wq hSw; (try dsimp only at hSw); go_simp; all_goals (with_reducible rfl))
        try simp only [Act.put, sA, s0, s1]
        refine tkA 10 (by simp only [gA, g1, g0]; rfl) (by kernel_rfl) (by exact fun _ _ _ h => h) (yields_ld (ad := ⟨g4, 45, none⟩) (by rfl) _ rfl rfl (fun w' h => ld26 (BoxP.cells h.2.1 HAD.out).d)) (by assumption) ?_; try simp only [Act.put, sA, s0, s1]
        refine tkA 11 (v := ?_) (by simp only [gA, g1, g0]; rfl) (by kernel_rfl) (by exact fun _ _ _ h => h) (Or.inl ⟨by rfl, ?_⟩) (by assumption) ?_; rotate_left; focus (intro wq hSw; (try dsimp only at hSw); go_simp; all_goals (with_reducible rfl))
        try simp only [Act.put, sA, s0, s1]
        refine tkA 12 (by simp only [gA, g1, g0]; rfl) (by kernel_rfl) (by exact fun _ _ _ h => h) (yields_ld (ad := ⟨b8, 0, none⟩) (by rfl) _ rfl rfl (fun w' h => ld3 h.2.2.1)) (by assumption) ?_; try simp only [Act.put, sA, s0, s1]
        refine tkA 13 (v := ?_) (by simp only [gA, g1, g0]; rfl) (by kernel_rfl) (by exact fun _ _ _ h => h) (Or.inl ⟨by rfl, ?_⟩) (by assumption) ?_; rotate_left; focus (intro wq hSw; (try dsimp only at hSw); go_simp; all_goals (with_reducible rfl))
        try simp only [Act.put, sA, s0, s1]
        refine tkA 14 (by simp only [gA, g1, g0]; rfl) (by kernel_rfl) (by exact fun _ _ _ h => h) (yields_ld (ad := ⟨g4, 43, none⟩) (by rfl) _ rfl rfl (fun w' h => ld3 (BoxP.cells h.2.1 HAD.out).off)) (by assumption) ?_; try simp only [Act.put, sA, s0, s1]
        refine tkA 15 (v := ?_) (by simp only [gA, g1, g0]; rfl) (by kernel_rfl) (by exact fun _ _ _ h => h) (Or.inl ⟨by rfl, ?_⟩) (by assumption) ?_; rotate_left; focus (intro wq hSw; (try dsimp only at hSw); go_simp; all_goals (with_reducible rfl))
        try simp only [Act.put, sA, s0, s1]
        refine tkA 16 (v := ?_) (by simp only [gA, g1, g0]; rfl) (by kernel_rfl) (by exact fun _ _ _ h => h) (Or.inl ⟨by rfl, ?_⟩) (by assumption) ?_; rotate_left; focus (intro wq hSw; (try dsimp only at hSw); go_simp; all_goals (with_reducible rfl))
        try simp only [Act.put, sA, s0, s1]
        refine wpAnyH_ready (rs := [17]) (by kernel_rfl) (by simp) ?_
        refine AllReadyH.cons (by simp only [gA, g1, g0]; rfl) (fun K hK => ?_) AllReadyH.nil
        obtain ⟨w9, hrun, hov, haw9⟩ := run_copyO 3 w8.drew da dn dc s'.d (by exact HE.out.da) i1 (i2 - i1) (by omega) (by have := HKL.out; omega) A HA.out (dc - i1) B (pn - kk) (pc - kk) (p.d.drop kk) (by rw [List.length_drop]; have := HPN.out; omega) (by rw [List.length_drop]; have := HPN.out; omega) (by exact HPL.out)
        refine step_run rfl _ rfl _ _ (by simp only [List.map_toArray, List.map_cons, List.map_nil]; rfl) hrun ?_
        have HOV := Lib.hid hov
        have HA9 := Lib.hid haw9
        have nS : ∀ x, (Value.slice da dn dc).ownBlock ≠ some x → x ∉ (Value.slice da dn dc).ownBlock.toList := fun x h1 hx => h1 (by simpa using hx)
        have S1 : Hid (w9.cell? ⟨g, 40, none⟩ = some (.slice da dn dc) ∧ BoxP w9 g4 p po (.slice pa pn pc) ∧ w9.cell? ⟨b8, 0, none⟩ = some (.int .i64 (i1 : Int)) ∧ w9.cell? ⟨b8, 1, none⟩ = some (.int .i64 (i2 : Int))) := ⟨Away.cell haw9 (nS g HE.out.ap.gd) S0.out.1, BoxP.away S0.out.2.1 haw9 (nS g4 HG4D.out), Away.cell haw9 (nS b8 HB8g.out.2) S0.out.2.2.1, Away.cell haw9 (nS b8 HB8g.out.2) S0.out.2.2.2⟩
        refine hK.out _ _ (by exact S1.out) (fun hHeld => ?_)
        clear hK K
        try simp only [Act.put, sA, s0, s1]
        refine wpAnyH_done (by kernel_rfl) ?_ _
        have HBK : Hid (w9.heap[g]? = some (.cells (listE s' (.pointer (some ⟨lb, 0, none⟩)) (.slice da dn dc) ov (.map (some mb))).toArray 101 (0, 0))) := Away.keep HA9.out (nS g HE.out.ap.gd) HE.out.blk
        have c41 : w9.cell? ⟨g, 41, none⟩ = some (.int .i64 hv) := Away.cell HA9.out (nS g HE.out.ap.gd) (by rw [HHV.out]; exact HE.out.cells.2.2.2.2.1)
        have f41 : w9.frozen? ⟨g, 41, none⟩ = false := free_of_block HBK.out 41
        have e8 := S1.out.2.2.1
        have e9 := S1.out.2.2.2
        have HS1 := S1
        clear hHeld hov haw9 hrun
        go_wp2_with fail
        refine wp_region_held_drew (S := fun w' => w'.cell? ⟨b8, 0, none⟩ = some (.int .i64 (i1 : Int)) ∧ w'.cell? ⟨b8, 1, none⟩ = some (.int .i64 (i2 : Int))) (by kernel_rfl) (by exact ⟨e8, e9⟩) (fun hHeld => ?_)
        refine tkA 0 (v := ?_) (by simp only [gA, g1, g0]; rfl) (by kernel_rfl) (by exact fun _ _ _ h => h) (Or.inl ⟨by rfl, ?_⟩) (by assumption) ?_; rotate_left; focus (intro wq hSw; (try dsimp only at hSw); go_simp; all_goals (with_reducible rfl))
        try simp only [Act.put, sA, s0, s1]
        refine tkA 1 (v := ?_) (by simp only [gA, g1, g0]; rfl) (by kernel_rfl) (by exact fun _ _ _ h => h) (Or.inl ⟨by rfl, ?_⟩) (by assumption) ?_; rotate_left; focus (intro wq hSw; (try dsimp only at hSw); go_simp; all_goals (with_reducible rfl))
        try simp only [Act.put, sA, s0, s1]
        refine tkA 2 (v := ?_) (by simp only [gA, g1, g0]; rfl) (by kernel_rfl) (by exact fun _ _ _ h => h) (Or.inl ⟨by rfl, ?_⟩) (by assumption) ?_; rotate_left; focus (intro wq hSw; (try dsimp only at hSw); go_simp; all_goals (with_reducible rfl))
        try simp only [Act.put, sA, s0, s1]
        refine tkA 4 (v := ?_) (by simp only [gA, g1, g0]; rfl) (by kernel_rfl) (by exact fun _ _ _ h => h) (Or.inl ⟨by rfl, ?_⟩) (by assumption) ?_; rotate_left; focus (intro wq hSw; (try dsimp only at hSw); go_simp; all_goals (with_reducible rfl))
        try simp only [Act.put, sA, s0, s1]
        refine tkA 5 (by simp only [gA, g1, g0]; rfl) (by kernel_rfl) (by exact fun _ _ _ h => h) (yields_ld (ad := ⟨b8, 1, none⟩) (by rfl) _ rfl rfl (fun w' h => ld3 h.2)) (by assumption) ?_; try simp only [Act.put, sA, s0, s1]
        refine tkA 6 (v := ?_) (by simp only [gA, g1, g0]; rfl) (by kernel_rfl) (by exact fun _ _ _ h => h) (Or.inl ⟨by rfl, ?_⟩) (by assumption) ?_; rotate_left; focus (intro wq hSw; (try dsimp only at hSw); go_simp; all_goals (with_reducible rfl))
        try simp only [Act.put, sA, s0, s1]
        refine tkA 7 (by simp only [gA, g1, g0]; rfl) (by kernel_rfl) (by exact fun _ _ _ h => h) (yields_ld (ad := ⟨b8, 0, none⟩) (by rfl) _ rfl rfl (fun w' h => ld3 h.1)) (by assumption) ?_; try simp only [Act.put, sA, s0, s1]
        refine tkA 8 (v := ?_) (by simp only [gA, g1, g0]; rfl) (by kernel_rfl) (by exact fun _ _ _ h => h) (Or.inl ⟨by rfl, ?_⟩) (by assumption) ?_; rotate_left; focus (intro wq hSw; (try dsimp only at hSw); go_simp; all_goals (with_reducible rfl))
        try simp only [Act.put, sA, s0, s1]
        refine wpAnyH_ready (rs := [3]) (by kernel_rfl) (by simp) ?_
        refine AllReadyH.cons (by simp only [gA, g1, g0]; rfl) (fun K hK => ?_) AllReadyH.nil
        go_simp
        refine hK.out _ _ (by exact ⟨e8, e9⟩) (fun hHeld => ?_)
        clear hK K
        try simp only [Act.put, sA, s0, s1]
        refine tkA 9 (v := ?_) (by simp only [gA, g1, g0]; rfl) (by kernel_rfl) (by exact fun _ _ _ h => h) (Or.inl ⟨by rfl, ?_⟩) (by assumption) ?_; rotate_left; focus (intro wq hSw; (try dsimp only at hSw); go_simp; all_goals (with_reducible rfl))
        try simp only [Act.put, sA, s0, s1]
        refine tkA 10 (v := ?_) (by simp only [gA, g1, g0]; rfl) (by kernel_rfl) (by exact fun _ _ _ h => h) (Or.inl ⟨by rfl, ?_⟩) (by assumption) ?_; rotate_left; focus (intro wq hSw; (try dsimp only at hSw); go_simp; all_goals (with_reducible rfl))
        try simp only [Act.put, sA, s0, s1]
        refine tkA 11 (v := ?_) (by simp only [gA, g1, g0]; rfl) (by kernel_rfl) (by exact fun _ _ _ h => h) (Or.inl ⟨by rfl, ?_⟩) (by assumption) ?_; rotate_left; focus (intro wq hSw; (try dsimp only at hSw); go_simp; all_goals (with_reducible rfl))
        try simp only [Act.put, sA, s0, s1]
        refine wpAnyH_ready (rs := [12]) (by kernel_rfl) (by simp) ?_
        refine AllReadyH.cons (by simp only [gA, g1, g0]; rfl) (fun K hK => ?_) AllReadyH.nil
        refine step_store3 rfl 63 61 rfl g 41 rfl (hv + ((i2 : Int) - i1)) rfl (.int .i64 hv) (by exact c41) (by exact f41) ?_
        have S2 : Hid ((w9.drew.setCell ⟨g, 41, none⟩ (.int .i64 (hv + ((i2 : Int) - i1)))).cell? ⟨b8, 0, none⟩ = some (.int .i64 (i1 : Int)) ∧ (w9.drew.setCell ⟨g, 41, none⟩ (.int .i64 (hv + ((i2 : Int) - i1)))).cell? ⟨b8, 1, none⟩ = some (.int .i64 (i2 : Int))) := ⟨Away.cell (away_put (w := w9.drew) (g := g) 41 _) (by simpa using HB8g.out.1) e8, Away.cell (away_put (w := w9.drew) (g := g) 41 _) (by simpa using HB8g.out.1) e9⟩
        refine hK.out _ _ (by exact S2.out) (fun hHeld => ?_)
        clear hK K
        try simp only [Act.put]
        refine wpAnyH_done (by kernel_rfl) ?_ _
        have HBK2 := Lib.hid (blk_set (w := w9.drew) HBK.out 41 (.int .i64 (hv + ((i2 : Int) - i1))))
        rw [csE_h s' HE.out.kad HE.out.fad] at HBK2
        have HAWT : Hid (Away (g :: (Value.slice da dn dc).ownBlock.toList) w8 (w9.drew.setCell ⟨g, 41, none⟩ (.int .i64 (hv + ((i2 : Int) - i1))))) := (((Away.refl [] w8).drew.mono (by simp)).trans (HA9.out.mono (fun z hz => by simp at hz; simp [hz]))).drew.setCell (.inl (by simp)) _
        have HOV2 : Hid (Owns (w9.drew.setCell ⟨g, 41, none⟩ (.int .i64 (hv + ((i2 : Int) - i1)))) (.slice da dn dc) (over s'.d i1 ((p.d.drop kk).take (i2 - i1)))) := HOV.out.away (S := [g]) ((Away.refl [g] w9).drew.setCell (.inl (by simp)) _) (fun z hz => by simp; intro e; subst e; exact HE.out.ap.gd hz)
        generalize w9.drew.setCell ⟨g, 41, none⟩ (.int .i64 (hv + ((i2 : Int) - i1))) = w10 at *
        have HFE : Hid (EntG w10 g (layK s p (fr.take (k + 1))) lb lv (.slice da dn dc) ov mb mn) := by
          show EntG _ _ _ _ _ _ _ _ _
          rw [HSN.out]
          refine HE.out.data HAWT.out ?_ ?_ (Moved.refl _ _)
          · rw [HBK2.out, HHV.out]; rfl
          · unfold laySp
            have e1 : ((i1 : Int)).toNat = i1 := by omega
            have e2 : ((i2 : Int) - i1).toNat = i2 - i1 := by omega
            simp only [e1, e2, HKK.out, Int.toNat_natCast]
            exact HOV2.out
        have hnb : ∀ z, z ≠ g → (Value.slice da dn dc).ownBlock ≠ some z → z ∉ g :: (Value.slice da dn dc).ownBlock.toList := fun z h1 h2 hz => by
          simp at hz
          rcases hz with hz | hz
          · exact h1 hz
          · exact h2 hz
        have HFB := Lib.hid (HB4.out.away HAWT.out (hnb g4 HG4.out.1 HG4D.out))
        have HFR2 : Hid (H.Row w10 (some ⟨b, off, none⟩) fr) := HROW.out.away HAWT.out (fun q hq' => by simp only [Option.some.injEq] at hq'; subst hq'; exact hnb b (HRAB.out _ rfl).1 HRD.out)
        have HFA : Hid (Away (g :: (Value.slice da dn dc).ownBlock.toList) w w10) := (HAW.out.next HAL.out (by simp)).next HAWT.out (fun z hz => HFOLD.out z hz)
        have HFV : Hid (Away (g :: (Value.slice da dn dc).ownBlock.toList) V w10) := (HAV.out.next HAL.out (by simp)).next HAWT.out (fun z hz => .inl hz)
        clear HBK HBK2 HOV HOV2 S0 S1 HS1 S2 hHeld e8 e9 d1 d2 c41 f41 nS hnb
        go_wp2_with fail
        go_roundw
        case rel => exact ⟨k + 1, by omega, by go_num, HFE.out, HFB.out, HFR2.out, HFA.out, HFV.out⟩
        case measure => simp [intOf]; omega
      · have hkn : k = nf := by omega
        go_wp2_with fail
        go_end0
        have hf := HE.out
        rw [List.take_of_length_le (by rw [← HNF.out]; omega), layK_all] at hf
        exact ⟨rfl, _, hf, HMV.out, HAW.out⟩
end
end Go.Proofs.YtkccpidgeecemaaGreatDoor
