/-
  Whole.
-/
import Derived.Test.YtkccpidgeecemaaGreatDoorEnt
import Derived.Deep.RegionHeld3
import Derived.Carry
import Derived.Test.YtkccpidgeecemaaGreatDoorUnt
import Derived.Deep.CutBlock
import Derived.Deep.DeepCutAuto
namespace Go.Proofs.YtkccpidgeecemaaGreatDoor
open Go.ChangeShapes Go.WideShapes Go.ChangeAt Go.RowKit
set_option linter.unusedVariables false
set_option linter.unusedSimpArgs false
set_option maxRecDepth 20000
structure Plc (p : Pk) : Prop where
  o0 : 0 ≤ p.off
  o1 : p.off ≤ 65528
  n1 : 1 ≤ p.d.length
  tt : p.off + p.d.length ≤ 65535
set_option maxHeartbeats 2000000 in
theorem endOf_c (p : Pk) (ov dv : Value) (w : World) (hp : Pkt w p ov dv) (hq : Plc p) :
    Calls Tryz.prog 91 #[.agg (csP p ov dv)] w fun E w' => E = .returned (.int .i64 (endP p)) ∧ Away [] w w' := by
  have HP := Lib.hid hp
  obtain ⟨o0, o1, n1, tt⟩ := hq
  obtain ⟨da, dc, hd, hcap, -, -⟩ := hp.d
  obtain ⟨dn, hdn⟩ : ∃ dn, dn = p.d.length := ⟨_, rfl⟩
  have HE : Hid (endP p = p.off + dn) := by show _ = _; rw [hdn]; rfl
  rw [← hdn] at hd tt n1
  subst hd
  clear hp hcap hdn
  go_enter Tryz.func91, Tryz.ntmps91
  go_wp2_with (refine wpList_box28 rfl _ rfl p _ _ rfl ?_; refine Hid.out ?_)
  refine Lib.hid ?_
  intro g1 w1 hg1 hb1 haw1
  have s0 := (hb1.cells HP.out.wf.ad).off
  have s1 := (hb1.cells HP.out.wf.ad).d
  have HA1 := Lib.hid haw1
  clear hb1 haw1
  go_wp2_with fail
  go_ret
  exact ⟨ret_int HE.out.symm, HA1.out⟩
section
variable {w : World} {g : Nat} {s : Es} {lb : Nat} {lv dv ov : Value} {mb mn : Nat}
set_option maxHeartbeats 2000000 in
theorem progress_c (h : EntG w g s lb lv dv ov mb mn) : Calls Tryz.prog 92 #[.pointer (some ⟨g, 0, none⟩)] w fun E w' => E = .returned (.int .i64 (progN s)) ∧ w' = w := by
  obtain ⟨-, -, c39, -, -, -, -, -⟩ := h.cells
  have K := Lib.hid (H.done_c h.hl)
  have HP : Hid (progN s = if H.doneP s.m s.e = true then 6 else 5) := rfl
  clear h
  generalize H.doneP s.m s.e = b at *
  cases b with
  | true =>
    go_enter Tryz.func92, Tryz.ntmps92
    go_wp2_with fail
    refine K.out.mono ?_
    rintro E w' ⟨rfl, rfl⟩
    go_wp2_with fail
    go_ret
    exact ⟨ret_int HP.out.symm, rfl⟩
  | false =>
    go_enter Tryz.func92, Tryz.ntmps92
    go_wp2_with fail
    refine K.out.mono ?_
    rintro E w' ⟨rfl, rfl⟩
    go_wp2_with fail
    go_ret
    exact ⟨ret_int HP.out.symm, rfl⟩
set_option maxHeartbeats 2000000 in
theorem tooLong_c (h : EntG w g s lb lv dv ov mb mn) (h0 : 0 ≤ s.hd ∧ s.hd ≤ 60) (h1 : -1 ≤ s.e ∧ s.e ≤ 65535) : Calls Tryz.prog 94 #[.pointer (some ⟨g, 0, none⟩)] w fun E w' => E = .returned (.bool (long4 s)) ∧ Away [] w w' := by
  obtain ⟨-, -, c39, -, -, -, c89, -⟩ := h.cells
  have K : Hid (∀ q, Calls Tryz.prog 71 #[.pointer (some ⟨lb, 0, none⟩)] (w.drewN q) fun E w' => E = .returned (.int .i64 s.e) ∧ w' = w.drewN q) := fun q => H.end_c (h.hl.on ((Away.refl _ _).drewN q))
  have HP : Hid (long4 s = decide (65535 < s.hd + s.e)) := rfl
  obtain ⟨a1, a2⟩ := h0
  obtain ⟨b1, b2⟩ := h1
  clear h
  generalize s.hd = x at *
  generalize s.e = y at *
  go_enter Tryz.func94, Tryz.ntmps94
  go_wp2_with fail
  go_quiet ((go_at_call 71; exact Calls.quiet_of_same (K.out _)))
  go_wp2_with fail
  go_ret
  exact ⟨ret_bool HP.out.symm, (Away.refl _ _).drewN _⟩
end
end Go.Proofs.YtkccpidgeecemaaGreatDoor
namespace Go.Proofs.YtkccpidgeecemaaGreatDoor
open Go.ChangeShapes Go.WideShapes Go.ChangeAt Go.RowKit
open S6 (wp_region_cls quiet_val quiet_call quiet_ld ld3 ld4 ld5 ld25 ld26 load28_run load24m_run)
set_option linter.unusedVariables false
set_option linter.unusedSimpArgs false
set_option maxRecDepth 20000
theorem ld56 {w : World} {ad : Addr} {z : Value} (p : Option Addr) (h : w.cell? ad = some (.pointer p)) : (Instr.loadAt 98 (.pointer (some ad))).run Tryz.prog w = .ok (.pointer p) w := by
  simp [go_sem, Instr.loadAt, Instr.sureAddr, h]
theorem load29_run {w : World} {g k : Nat} {p : Pk} (hc : w.rangeAt g k (listK p)) (ha : Ad p) : (Instr.loadAt 55 (.pointer (some ⟨g, k, none⟩))).run Tryz.prog w = .ok (.agg (csK p)) w :=
  run_loadAt_mid (P := Tryz.prog) w g k 55 (listK p) _ hc Tryz.underlying55 rfl (by rw [listK_len ha]; exact info78)
section
variable {w : World} {g : Nat} {s : Es} {lb : Nat} {lv dv ov : Value} {mb mn : Nat}
set_option maxHeartbeats 4000000 in
theorem agrees_c (h : EntG w g s lb lv dv ov mb mn) (p : Pk) (po pd : Value) (hp : Pkt w p po pd) (hq : Plc p) (hlen : p.off + p.d.length ≤ s.d.length) (hb : Bytes s.d) (hl : s.d.length ≤ 65535) :
    Calls Tryz.prog 93 #[.pointer (some ⟨g, 0, none⟩), .agg (csP p po pd)] w fun E w' => E = .returned (.bool (agrP s p)) ∧ Away [] w w' := by
  have HE := Lib.hid h
  have HP := Lib.hid hp
  have HQ := Lib.hid hq
  have HAD := Lib.hid hp.wf.ad
  obtain ⟨da, dc, hd, hcap, hnone, hrow, -, -⟩ := h.da.row (by omega) hb
  obtain ⟨pa, pc, hpd, hpcap, hpnone, hprow⟩ := hp.d
  obtain ⟨o0, o1, n1, tt⟩ := hq
  have HNone := Lib.hid hnone
  have HPN := Lib.hid hpnone
  obtain ⟨k, hk⟩ : ∃ k : Nat, p.off = k := ⟨p.off.toNat, by omega⟩
  obtain ⟨A, hA⟩ : ∃ A, A = if dc = k then da else da.map (·.add k) := ⟨_, rfl⟩
  have hsl := slice_lh da A s.d.length dc k p.d.length p.off (endP p) hA hk (by unfold endP; omega) (by omega)
  have HRA : Hid (Row w A ((s.d.drop k).take p.d.length)) := by show Row _ _ _; rw [hA]; exact hrow.sub k p.d.length dc hcap (by omega)
  have HRL : Hid (((s.d.drop k).take p.d.length).length = p.d.length) := by show _ = _; simp; omega
  have HAN : Hid (A = none → dc - k = 0) := fun e => by
    rw [hA] at e
    split at e
    · omega
    · have := HNone.out (by simpa using e); omega
  have HPR := Lib.hid hprow
  have HAG : Hid (agrP s p = decide ((s.d.drop k).take p.d.length = p.d)) := by show _ = _; unfold agrP; rw [hk]; rfl
  have HL := Lib.hid hl
  obtain ⟨dn, hdn⟩ : ∃ dn, dn = s.d.length := ⟨_, rfl⟩
  obtain ⟨pn, hpn⟩ : ∃ pn, pn = p.d.length := ⟨_, rfl⟩
  have HPL : Hid (p.d.length = pn) := hpn.symm
  rw [← hdn] at hsl hd hlen hcap
  rw [← hpn] at hsl hpd hlen hpcap HRA HRL tt HAG
  have K0 : Hid (∀ W, Away [] w W → Calls Tryz.prog 91 #[.agg (csP p po pd)] W fun E w' => E = .returned (.int .i64 (endP p)) ∧ Away [] W w') := fun W hW => endOf_c p po pd W (HP.out.on hW) HQ.out
  generalize endP p = ep at *
  clear h hp hnone hrow hpnone hprow hA hk hl hdn hpn
  subst hd
  subst hpd
  go_enter Tryz.func93, Tryz.ntmps93
  go_wp2_with (refine wpList_box28 rfl _ rfl p _ _ rfl ?_; refine Hid.out ?_)
  refine Lib.hid ?_
  intro g1 w1 hg1 hb1 haw1
  have HB := Lib.hid hb1
  have HA1 := Lib.hid haw1
  replace HE := Lib.hid (HE.out.on haw1)
  replace HP := Lib.hid (HP.out.on haw1)
  replace HRA := Lib.hid (HRA.out.away haw1 (by simp))
  replace HPR := Lib.hid (HPR.out.away haw1 (by simp))
  clear hb1 haw1
  replace K0 : Hid (∀ W, Away [] w1 W → Calls Tryz.prog 91 #[.agg (csP p po (.slice pa pn pc))] W fun E w' => E = .returned (.int .i64 ep) ∧ Away [] W w') := fun W hW => K0.out W (HA1.out.trans hW)
  have HC : Hid (Away [] w1 w1.drew) := (Away.refl _ _).drew
  have K56 : Hid (∀ W, Away [] w1 W → Calls Tryz.prog 91 #[.agg (csP p po (.slice pa pn pc))] W fun E w' => E = .returned (.int .i64 ep) ∧ Away [] w1 w') := fun W hW => (K0.out W hW).mono (fun E w' h => ⟨h.1, hW.trans h.2⟩)
  have K71 : Hid (∀ W, Away [] w1 W → Calls Tryz.prog 101 #[.slice A pn (dc - k), .slice pa pn pc] W fun E w' => E = .returned (.bool (agrP s p)) ∧ Away [] w1 w') := fun W hW => by
    refine (bequal_any A pa _ p.d pn pn (dc - k) pc W HRL.out HPL.out HAN.out HPN.out (HRA.out.away hW (by simp)) (HPR.out.away hW (by simp))).mono (fun E w' h => ⟨?_, by rw [h.2]; exact hW⟩)
    rw [h.1, HAG.out]
  go_wp2_with fail
  refine wp_region_cls (C := fun w' => Away [] w1 w') (by kernel_rfl) (by kernel_rfl) HC.out ?_
  iterate 3 (go_big_quiet_want; (refine quiet_val ?_ ?_ ?_; rotate_left; (intro w; go_simp; rfl); go_simp; go_big_quiet_on))
  go_big_quiet_want; refine quiet_ld _ rfl (ad := ⟨g, 40, none⟩) rfl (fun w' h => ld26 (HE.out.on h).cells.2.2.2.1) ?_; go_simp; go_big_quiet_on
  go_big_quiet_want; (refine quiet_val ?_ ?_ ?_; rotate_left; (intro w; go_simp; rfl); go_simp; go_big_quiet_on)
  go_big_quiet_want; refine quiet_ld _ rfl (ad := ⟨g1, 43, none⟩) rfl (fun w' h => ld3 ((HB.out.on h).cells HAD.out).off) ?_; go_simp; go_big_quiet_on
  go_big_quiet_want; refine quiet_ld _ rfl (ad := ⟨g1, 0, none⟩) rfl (fun w' h => load28_run (HB.out.on h) HAD.out) ?_; go_simp; go_big_quiet_on
  go_big_quiet_want; refine quiet_call 91 #[.agg (csP p po (.slice pa pn pc))] (.int .i64 ep) ?_ K56.out ?_
  · intro w; go_simp; all_goals (with_reducible rfl)
  go_simp; go_big_quiet_on
  go_big_quiet_want; (refine quiet_val ?_ ?_ ?_; rotate_left; (intro w; go_simp; rfl); go_simp; go_big_quiet_on)
  go_big_quiet_want; (refine quiet_val ?_ ?_ ?_; rotate_left; (intro w; go_simp; rfl); go_simp; go_big_quiet_on)
  go_big_quiet_want; refine quiet_ld _ rfl (ad := ⟨g1, 45, none⟩) rfl (fun w' h => ld26 ((HB.out.on h).cells HAD.out).d) ?_; go_simp; go_big_quiet_on
  go_big_quiet_want; refine quiet_call 101 #[.slice A pn (dc - k), .slice pa pn pc] (.bool (agrP s p)) ?_ K71.out ?_
  · intro w; go_simp; all_goals (with_reducible rfl)
  go_simp; go_big_quiet_on
  go_big_quiet_want; (refine quiet_val ?_ ?_ ?_; rotate_left; (intro w; go_simp; rfl); go_simp; go_big_quiet_on)
  refine wpQuiet_nil ?_
  intro V hV
  have HV := Lib.hid (HA1.out.trans hV)
  clear hV
  go_wp2_with fail
  go_ret
  exact ⟨rfl, HV.out⟩
end
theorem quiet_eq78 {o : Oper} {a : Act} {C : World → Prop} {K : Act → Prop} (x y : Operand) (ho : o.op = .binOp .eql 55 x y 55) (c1 c2 : Array Value) (hx : a.eval x = .agg c1) (hy : a.eval y = .agg c2) (b : Bool) (hq : ∀ w, (Op.equalIn 10000 55 (.agg c1) (.agg c2)).run Tryz.prog w = .ok b w) (hk : K (a.put o.dst (.bool b))) : o.quiet Tryz.prog a C K :=
  quiet_val (.bool b) (fun w => by
    have hg := guard78
    unfold execOp
    simp only [ho, hx, hy]
    simp [go_sem, hq, hg]) hk
theorem key_ky (p q : Pk) : keyB p q = kyB p q := by simp [keyB, kyB, eqL]
set_option maxHeartbeats 8000000 in
theorem isOwn_c {w : World} {g : Nat} (s : Es) (hk : w.rangeAt g 0 (listK s.k)) (hka : Ad s.k) (p : Pk) (po pd : Value) (hp : Pkt w p po pd) (hg : Glob w) :
    Calls Tryz.prog 67 #[.pointer (some ⟨g, 0, none⟩), .agg (csP p po pd)] w fun E w' => E = .returned (.bool (ownB s p)) ∧ Away [] w w' := by
  have HK := Lib.hid hk
  have HKA := Lib.hid hka
  have HP := Lib.hid hp
  have HG := Lib.hid hg
  have HAD := Lib.hid hp.wf.ad
  have HQ : Hid (∀ w, (Op.equalIn 10000 55 (.agg (csK p)) (.agg (csK s.k))).run Tryz.prog w = .ok (kyB p s.k) w) := fun w => by rw [← key_ky]; exact eq78 _ _ HAD.out HKA.out w
  have HO : Hid (ownB s p = (kyB p s.k && (decide (0 < p.off) || p.more) && (rightP p || S6.rightP p))) := rfl
  have R4 : Hid (∀ W0 W, Away [] w W0 → Away [] W0 W → Calls Tryz.prog 30 #[.agg (csP p po pd)] W fun E w' => E = .returned (.bool (rightP p)) ∧ Away [] W0 w') := fun W0 W h0 hW => (right_c p po pd W ((HP.out.on h0).on hW) ((HG.out.on h0).on hW)).mono (fun E w' h => ⟨h.1, hW.trans h.2⟩)
  have R6 : Hid (∀ W0 W, Away [] w W0 → Away [] W0 W → Calls Tryz.prog 31 #[.agg (csP p po pd)] W fun E w' => E = .returned (.bool (S6.rightP p)) ∧ Away [] W0 w') := fun W0 W h0 hW => (S6.right_c p po pd W (((HP.out.on h0).on hW).six)).mono (fun E w' h => ⟨h.1, hW.trans h.2⟩)
  have RK : Hid (∀ W0 W, Away [] w W0 → Away [] W0 W → Calls Tryz.prog 79 #[.agg (csP p po pd)] W fun E w' => E = .returned (.agg (csK p)) ∧ Away [] W0 w') := fun W0 W h0 hW => (key_c p po pd W HAD.out).mono (fun E w' h => ⟨h.1, hW.trans h.2⟩)
  obtain ⟨mo, hmo⟩ : ∃ mo, mo = p.more := ⟨_, rfl⟩
  rw [← hmo] at HO
  have HMO := Lib.hid hmo
  generalize kyB p s.k = kb at *
  generalize rightP p = r4 at *
  generalize S6.rightP p = r6 at *
  clear hk hka hp hg hmo
  go_enter Tryz.func67, Tryz.ntmps67
  go_wp2_with (refine wpList_box28 rfl _ rfl p _ _ rfl ?_; refine Hid.out ?_)
  refine Lib.hid ?_
  intro g1 w1 hg1 hb1 haw1
  have HB := Lib.hid hb1
  have HA1 := Lib.hid haw1
  replace HK := Lib.hid (range_away haw1 (by simp) HK.out)
  have Q4 := Lib.hid (fun W hW => R4.out w1 W haw1 hW)
  have Q6 := Lib.hid (fun W hW => R6.out w1 W haw1 hW)
  have QK := Lib.hid (fun W hW => RK.out w1 W haw1 hW)
  clear hb1 haw1 R4 R6 RK
  have HC : Hid (Away [] w1 w1.drew) := (Away.refl _ _).drew
  have HM : Hid (∀ W, Away [] w1 W → W.cell? ⟨g1, 41, none⟩ = some (.bool mo)) := fun W hW => by rw [HMO.out]; exact ((HB.out.on hW).cells HAD.out).more
  clear HMO
  go_wp2_with fail
  cases kb with
  | false =>
    refine wp_region_cls (C := fun w' => Away [] w1 w') (by kernel_rfl) (by kernel_rfl) HC.out ?_
    go_big_quiet_want; refine quiet_ld _ rfl (ad := ⟨g1, 0, none⟩) rfl (fun w' h => load28_run (HB.out.on h) HAD.out) ?_; go_simp; go_big_quiet_on
    go_big_quiet_want; refine quiet_call 79 #[.agg (csP p po pd)] (.agg (csK p)) ?_ QK.out ?_
    · intro w; go_simp; all_goals (with_reducible rfl)
    go_simp; go_big_quiet_on
    iterate 3 (go_big_quiet_want; (refine quiet_val ?_ ?_ ?_; rotate_left; (intro w; go_simp; rfl); go_simp; go_big_quiet_on))
    go_big_quiet_want; refine quiet_ld _ rfl (ad := ⟨g, 0, none⟩) rfl (fun w' h => load29_run (range_away h (by simp) HK.out) HKA.out) ?_; go_simp; go_big_quiet_on
    go_big_quiet_want; refine quiet_eq78 _ _ rfl (csK p) (csK s.k) rfl rfl false HQ.out ?_; go_simp; go_big_quiet_on
    go_big_quiet_want; (refine quiet_val ?_ ?_ ?_; rotate_left; (intro w; go_simp; rfl); go_simp; go_big_quiet_on)
    iterate 7 (go_big_quiet_skip)
    go_big_quiet_want; (refine quiet_val ?_ ?_ ?_; rotate_left; (intro w; go_simp; rfl); go_simp; go_big_quiet_on)
    go_big_quiet_want; (refine quiet_val ?_ ?_ ?_; rotate_left; (intro w; go_simp; rfl); go_simp; go_big_quiet_on)
    iterate 6 (go_big_quiet_skip)
    go_big_quiet_want; (refine quiet_val ?_ ?_ ?_; rotate_left; (intro w; go_simp; rfl); go_simp; go_big_quiet_on)
    go_big_quiet_want; (refine quiet_val ?_ ?_ ?_; rotate_left; (intro w; go_simp; rfl); go_simp; go_big_quiet_on)
    refine wpQuiet_nil ?_
    intro V hV
    have HV := Lib.hid (HA1.out.trans hV)
    clear hV
    go_wp2_with fail
    go_ret
    exact ⟨ret_bool (by rw [HO.out]; first | rfl | simp [*]), HV.out⟩
  | true =>
    by_cases ho : 0 < p.off
    · cases r4 with
      | true =>
        refine wp_region_cls (C := fun w' => Away [] w1 w') (by kernel_rfl) (by kernel_rfl) HC.out ?_
        go_big_quiet_want; refine quiet_ld _ rfl (ad := ⟨g1, 0, none⟩) rfl (fun w' h => load28_run (HB.out.on h) HAD.out) ?_; go_simp; go_big_quiet_on
        go_big_quiet_want; refine quiet_call 79 #[.agg (csP p po pd)] (.agg (csK p)) ?_ QK.out ?_
        · intro w; go_simp; all_goals (with_reducible rfl)
        go_simp; go_big_quiet_on
        iterate 3 (go_big_quiet_want; (refine quiet_val ?_ ?_ ?_; rotate_left; (intro w; go_simp; rfl); go_simp; go_big_quiet_on))
        go_big_quiet_want; refine quiet_ld _ rfl (ad := ⟨g, 0, none⟩) rfl (fun w' h => load29_run (range_away h (by simp) HK.out) HKA.out) ?_; go_simp; go_big_quiet_on
        go_big_quiet_want; refine quiet_eq78 _ _ rfl (csK p) (csK s.k) rfl rfl true HQ.out ?_; go_simp; go_big_quiet_on
        go_big_quiet_want; (refine quiet_val ?_ ?_ ?_; rotate_left; (intro w; go_simp; rfl); go_simp; go_big_quiet_on)
        go_big_quiet_want; (refine quiet_val ?_ ?_ ?_; rotate_left; (intro w; go_simp; rfl); go_simp; go_big_quiet_on)
        go_big_quiet_want; refine quiet_ld _ rfl (ad := ⟨g1, 43, none⟩) rfl (fun w' h => ld3 ((HB.out.on h).cells HAD.out).off) ?_; go_simp; go_big_quiet_on
        go_big_quiet_want; (refine quiet_val ?_ ?_ ?_; rotate_left; (intro w; go_simp; rfl); go_simp; go_big_quiet_on)
        go_big_quiet_want; (refine quiet_val ?_ ?_ ?_; rotate_left; (intro w; go_simp; rfl); go_simp; go_big_quiet_on)
        go_big_quiet_skip
        go_big_quiet_skip
        iterate 3 (go_big_quiet_want; (refine quiet_val ?_ ?_ ?_; rotate_left; (intro w; go_simp; rfl); go_simp; go_big_quiet_on))
        go_big_quiet_want; refine quiet_ld _ rfl (ad := ⟨g1, 0, none⟩) rfl (fun w' h => load28_run (HB.out.on h) HAD.out) ?_; go_simp; go_big_quiet_on
        go_big_quiet_want; refine quiet_call 30 #[.agg (csP p po pd)] (.bool true) ?_ Q4.out ?_
        · intro w; go_simp; all_goals (with_reducible rfl)
        go_simp; go_big_quiet_on
        go_big_quiet_want; (refine quiet_val ?_ ?_ ?_; rotate_left; (intro w; go_simp; rfl); go_simp; go_big_quiet_on)
        go_big_quiet_skip
        go_big_quiet_skip
        iterate 3 (go_big_quiet_want; (refine quiet_val ?_ ?_ ?_; rotate_left; (intro w; go_simp; rfl); go_simp; go_big_quiet_on))
        refine wpQuiet_nil ?_
        intro V hV
        have HV := Lib.hid (HA1.out.trans hV)
        clear hV
        go_wp2_with fail
        go_ret
        exact ⟨ret_bool (by rw [HO.out]; first | rfl | simp [*]), HV.out⟩
      | false =>
        refine wp_region_cls (C := fun w' => Away [] w1 w') (by kernel_rfl) (by kernel_rfl) HC.out ?_
        go_big_quiet_want; refine quiet_ld _ rfl (ad := ⟨g1, 0, none⟩) rfl (fun w' h => load28_run (HB.out.on h) HAD.out) ?_; go_simp; go_big_quiet_on
        go_big_quiet_want; refine quiet_call 79 #[.agg (csP p po pd)] (.agg (csK p)) ?_ QK.out ?_
        · intro w; go_simp; all_goals (with_reducible rfl)
        go_simp; go_big_quiet_on
        iterate 3 (go_big_quiet_want; (refine quiet_val ?_ ?_ ?_; rotate_left; (intro w; go_simp; rfl); go_simp; go_big_quiet_on))
        go_big_quiet_want; refine quiet_ld _ rfl (ad := ⟨g, 0, none⟩) rfl (fun w' h => load29_run (range_away h (by simp) HK.out) HKA.out) ?_; go_simp; go_big_quiet_on
        go_big_quiet_want; refine quiet_eq78 _ _ rfl (csK p) (csK s.k) rfl rfl true HQ.out ?_; go_simp; go_big_quiet_on
        go_big_quiet_want; (refine quiet_val ?_ ?_ ?_; rotate_left; (intro w; go_simp; rfl); go_simp; go_big_quiet_on)
        go_big_quiet_want; (refine quiet_val ?_ ?_ ?_; rotate_left; (intro w; go_simp; rfl); go_simp; go_big_quiet_on)
        go_big_quiet_want; refine quiet_ld _ rfl (ad := ⟨g1, 43, none⟩) rfl (fun w' h => ld3 ((HB.out.on h).cells HAD.out).off) ?_; go_simp; go_big_quiet_on
        go_big_quiet_want; (refine quiet_val ?_ ?_ ?_; rotate_left; (intro w; go_simp; rfl); go_simp; go_big_quiet_on)
        go_big_quiet_want; (refine quiet_val ?_ ?_ ?_; rotate_left; (intro w; go_simp; rfl); go_simp; go_big_quiet_on)
        go_big_quiet_skip
        go_big_quiet_skip
        iterate 3 (go_big_quiet_want; (refine quiet_val ?_ ?_ ?_; rotate_left; (intro w; go_simp; rfl); go_simp; go_big_quiet_on))
        go_big_quiet_want; refine quiet_ld _ rfl (ad := ⟨g1, 0, none⟩) rfl (fun w' h => load28_run (HB.out.on h) HAD.out) ?_; go_simp; go_big_quiet_on
        go_big_quiet_want; refine quiet_call 30 #[.agg (csP p po pd)] (.bool false) ?_ Q4.out ?_
        · intro w; go_simp; all_goals (with_reducible rfl)
        go_simp; go_big_quiet_on
        go_big_quiet_want; (refine quiet_val ?_ ?_ ?_; rotate_left; (intro w; go_simp; rfl); go_simp; go_big_quiet_on)
        go_big_quiet_want; refine quiet_ld _ rfl (ad := ⟨g1, 0, none⟩) rfl (fun w' h => load28_run (HB.out.on h) HAD.out) ?_; go_simp; go_big_quiet_on
        go_big_quiet_want; refine quiet_call 31 #[.agg (csP p po pd)] (.bool r6) ?_ Q6.out ?_
        · intro w; go_simp; all_goals (with_reducible rfl)
        go_simp; go_big_quiet_on
        iterate 3 (go_big_quiet_want; (refine quiet_val ?_ ?_ ?_; rotate_left; (intro w; go_simp; rfl); go_simp; go_big_quiet_on))
        refine wpQuiet_nil ?_
        intro V hV
        have HV := Lib.hid (HA1.out.trans hV)
        clear hV
        go_wp2_with fail
        go_ret
        exact ⟨ret_bool (by rw [HO.out]; first | rfl | simp [*]), HV.out⟩
    · have hd : decide (0 < p.off) = false := by simpa using ho
      cases mo with
      | false =>
        refine wp_region_cls (C := fun w' => Away [] w1 w') (by kernel_rfl) (by kernel_rfl) HC.out ?_
        go_big_quiet_want; refine quiet_ld _ rfl (ad := ⟨g1, 0, none⟩) rfl (fun w' h => load28_run (HB.out.on h) HAD.out) ?_; go_simp; go_big_quiet_on
        go_big_quiet_want; refine quiet_call 79 #[.agg (csP p po pd)] (.agg (csK p)) ?_ QK.out ?_
        · intro w; go_simp; all_goals (with_reducible rfl)
        go_simp; go_big_quiet_on
        iterate 3 (go_big_quiet_want; (refine quiet_val ?_ ?_ ?_; rotate_left; (intro w; go_simp; rfl); go_simp; go_big_quiet_on))
        go_big_quiet_want; refine quiet_ld _ rfl (ad := ⟨g, 0, none⟩) rfl (fun w' h => load29_run (range_away h (by simp) HK.out) HKA.out) ?_; go_simp; go_big_quiet_on
        go_big_quiet_want; refine quiet_eq78 _ _ rfl (csK p) (csK s.k) rfl rfl true HQ.out ?_; go_simp; go_big_quiet_on
        go_big_quiet_want; (refine quiet_val ?_ ?_ ?_; rotate_left; (intro w; go_simp; rfl); go_simp; go_big_quiet_on)
        go_big_quiet_want; (refine quiet_val ?_ ?_ ?_; rotate_left; (intro w; go_simp; rfl); go_simp; go_big_quiet_on)
        go_big_quiet_want; refine quiet_ld _ rfl (ad := ⟨g1, 43, none⟩) rfl (fun w' h => ld3 ((HB.out.on h).cells HAD.out).off) ?_; go_simp; go_big_quiet_on
        iterate 3 (go_big_quiet_want; (refine quiet_val ?_ ?_ ?_; rotate_left; (intro w; go_simp; rfl); go_simp; go_big_quiet_on))
        go_big_quiet_want; refine quiet_ld _ rfl (ad := ⟨g1, 41, none⟩) rfl (fun w' h => ld4 (HM.out w' h)) ?_; go_simp; go_big_quiet_on
        iterate 3 (go_big_quiet_want; (refine quiet_val ?_ ?_ ?_; rotate_left; (intro w; go_simp; rfl); go_simp; go_big_quiet_on))
        iterate 6 (go_big_quiet_skip)
        go_big_quiet_want; (refine quiet_val ?_ ?_ ?_; rotate_left; (intro w; go_simp; rfl); go_simp; go_big_quiet_on)
        go_big_quiet_want; (refine quiet_val ?_ ?_ ?_; rotate_left; (intro w; go_simp; rfl); go_simp; go_big_quiet_on)
        refine wpQuiet_nil ?_
        intro V hV
        have HV := Lib.hid (HA1.out.trans hV)
        clear hV
        go_wp2_with fail
        go_ret
        exact ⟨ret_bool (by rw [HO.out]; first | rfl | simp [*]), HV.out⟩
      | true =>
        cases r4 with
        | true =>
          refine wp_region_cls (C := fun w' => Away [] w1 w') (by kernel_rfl) (by kernel_rfl) HC.out ?_
          go_big_quiet_want; refine quiet_ld _ rfl (ad := ⟨g1, 0, none⟩) rfl (fun w' h => load28_run (HB.out.on h) HAD.out) ?_; go_simp; go_big_quiet_on
          go_big_quiet_want; refine quiet_call 79 #[.agg (csP p po pd)] (.agg (csK p)) ?_ QK.out ?_
          · intro w; go_simp; all_goals (with_reducible rfl)
          go_simp; go_big_quiet_on
          iterate 3 (go_big_quiet_want; (refine quiet_val ?_ ?_ ?_; rotate_left; (intro w; go_simp; rfl); go_simp; go_big_quiet_on))
          go_big_quiet_want; refine quiet_ld _ rfl (ad := ⟨g, 0, none⟩) rfl (fun w' h => load29_run (range_away h (by simp) HK.out) HKA.out) ?_; go_simp; go_big_quiet_on
          go_big_quiet_want; refine quiet_eq78 _ _ rfl (csK p) (csK s.k) rfl rfl true HQ.out ?_; go_simp; go_big_quiet_on
          go_big_quiet_want; (refine quiet_val ?_ ?_ ?_; rotate_left; (intro w; go_simp; rfl); go_simp; go_big_quiet_on)
          go_big_quiet_want; (refine quiet_val ?_ ?_ ?_; rotate_left; (intro w; go_simp; rfl); go_simp; go_big_quiet_on)
          go_big_quiet_want; refine quiet_ld _ rfl (ad := ⟨g1, 43, none⟩) rfl (fun w' h => ld3 ((HB.out.on h).cells HAD.out).off) ?_; go_simp; go_big_quiet_on
          iterate 3 (go_big_quiet_want; (refine quiet_val ?_ ?_ ?_; rotate_left; (intro w; go_simp; rfl); go_simp; go_big_quiet_on))
          go_big_quiet_want; refine quiet_ld _ rfl (ad := ⟨g1, 41, none⟩) rfl (fun w' h => ld4 (HM.out w' h)) ?_; go_simp; go_big_quiet_on
          iterate 3 (go_big_quiet_want; (refine quiet_val ?_ ?_ ?_; rotate_left; (intro w; go_simp; rfl); go_simp; go_big_quiet_on))
          go_big_quiet_want; refine quiet_ld _ rfl (ad := ⟨g1, 0, none⟩) rfl (fun w' h => load28_run (HB.out.on h) HAD.out) ?_; go_simp; go_big_quiet_on
          go_big_quiet_want; refine quiet_call 30 #[.agg (csP p po pd)] (.bool true) ?_ Q4.out ?_
          · intro w; go_simp; all_goals (with_reducible rfl)
          go_simp; go_big_quiet_on
          go_big_quiet_want; (refine quiet_val ?_ ?_ ?_; rotate_left; (intro w; go_simp; rfl); go_simp; go_big_quiet_on)
          go_big_quiet_skip
          go_big_quiet_skip
          iterate 3 (go_big_quiet_want; (refine quiet_val ?_ ?_ ?_; rotate_left; (intro w; go_simp; rfl); go_simp; go_big_quiet_on))
          refine wpQuiet_nil ?_
          intro V hV
          have HV := Lib.hid (HA1.out.trans hV)
          clear hV
          go_wp2_with fail
          go_ret
          exact ⟨ret_bool (by rw [HO.out]; first | rfl | simp [*]), HV.out⟩
        | false =>
          refine wp_region_cls (C := fun w' => Away [] w1 w') (by kernel_rfl) (by kernel_rfl) HC.out ?_
          go_big_quiet_want; refine quiet_ld _ rfl (ad := ⟨g1, 0, none⟩) rfl (fun w' h => load28_run (HB.out.on h) HAD.out) ?_; go_simp; go_big_quiet_on
          go_big_quiet_want; refine quiet_call 79 #[.agg (csP p po pd)] (.agg (csK p)) ?_ QK.out ?_
          · intro w; go_simp; all_goals (with_reducible rfl)
          go_simp; go_big_quiet_on
          iterate 3 (go_big_quiet_want; (refine quiet_val ?_ ?_ ?_; rotate_left; (intro w; go_simp; rfl); go_simp; go_big_quiet_on))
          go_big_quiet_want; refine quiet_ld _ rfl (ad := ⟨g, 0, none⟩) rfl (fun w' h => load29_run (range_away h (by simp) HK.out) HKA.out) ?_; go_simp; go_big_quiet_on
          go_big_quiet_want; refine quiet_eq78 _ _ rfl (csK p) (csK s.k) rfl rfl true HQ.out ?_; go_simp; go_big_quiet_on
          go_big_quiet_want; (refine quiet_val ?_ ?_ ?_; rotate_left; (intro w; go_simp; rfl); go_simp; go_big_quiet_on)
          go_big_quiet_want; (refine quiet_val ?_ ?_ ?_; rotate_left; (intro w; go_simp; rfl); go_simp; go_big_quiet_on)
          go_big_quiet_want; refine quiet_ld _ rfl (ad := ⟨g1, 43, none⟩) rfl (fun w' h => ld3 ((HB.out.on h).cells HAD.out).off) ?_; go_simp; go_big_quiet_on
          iterate 3 (go_big_quiet_want; (refine quiet_val ?_ ?_ ?_; rotate_left; (intro w; go_simp; rfl); go_simp; go_big_quiet_on))
          go_big_quiet_want; refine quiet_ld _ rfl (ad := ⟨g1, 41, none⟩) rfl (fun w' h => ld4 (HM.out w' h)) ?_; go_simp; go_big_quiet_on
          iterate 3 (go_big_quiet_want; (refine quiet_val ?_ ?_ ?_; rotate_left; (intro w; go_simp; rfl); go_simp; go_big_quiet_on))
          go_big_quiet_want; refine quiet_ld _ rfl (ad := ⟨g1, 0, none⟩) rfl (fun w' h => load28_run (HB.out.on h) HAD.out) ?_; go_simp; go_big_quiet_on
          go_big_quiet_want; refine quiet_call 30 #[.agg (csP p po pd)] (.bool false) ?_ Q4.out ?_
          · intro w; go_simp; all_goals (with_reducible rfl)
          go_simp; go_big_quiet_on
          go_big_quiet_want; (refine quiet_val ?_ ?_ ?_; rotate_left; (intro w; go_simp; rfl); go_simp; go_big_quiet_on)
          go_big_quiet_want; refine quiet_ld _ rfl (ad := ⟨g1, 0, none⟩) rfl (fun w' h => load28_run (HB.out.on h) HAD.out) ?_; go_simp; go_big_quiet_on
          go_big_quiet_want; refine quiet_call 31 #[.agg (csP p po pd)] (.bool r6) ?_ Q6.out ?_
          · intro w; go_simp; all_goals (with_reducible rfl)
          go_simp; go_big_quiet_on
          iterate 3 (go_big_quiet_want; (refine quiet_val ?_ ?_ ?_; rotate_left; (intro w; go_simp; rfl); go_simp; go_big_quiet_on))
          refine wpQuiet_nil ?_
          intro V hV
          have HV := Lib.hid (HA1.out.trans hV)
          clear hV
          go_wp2_with fail
          go_ret
          exact ⟨ret_bool (by rw [HO.out]; first | rfl | simp [*]), HV.out⟩
theorem yields_ld {ops : Array Oper} {S : World → Prop} {op : Oper} {a : Act} {t : TypeId} {v : Value} {ad : Addr} (hw : Region.wanted op (yielded ops a.tmps) = true) (x : Operand) (ho : op.op = .load t x) (hx : a.eval x = .pointer (some ad))
    (hS : ∀ w, S w → (Instr.loadAt t (.pointer (some ad))).run Tryz.prog w = .ok v w) : YieldsIf Tryz.prog ops S op v a :=
  .inl ⟨hw, fun w hw' => by
    unfold execOp
    simp only [ho, hx, Sem.run_bind, hS w hw', Result.andThen_ok, Sem.run_pure]⟩
theorem yields_build {ops : Array Oper} {S : World → Prop} {op : Oper} {a : Act} {ty : TypeId} {parts : Array (Nat × Operand)} {v : Value} (hw : Region.wanted op (yielded ops a.tmps) = true) (ho : op.op = .build ty parts) (vs : Array (Nat × Value)) (hvs : (parts.map fun x => (x.1, a.eval x.2)) = vs)
    (hr : ∀ w, (Instr.build ty vs).run Tryz.prog w = .ok v w) : YieldsIf Tryz.prog ops S op v a :=
  .inl ⟨hw, fun w _ => by
    unfold execOp
    simp only [ho, hvs, Sem.run_bind, hr w, Result.andThen_ok, Sem.run_pure]⟩
theorem ld2 {w : World} {ad : Addr} {z : Int} (h : w.cell? ad = some (.int .i64 z)) : (Instr.loadAt 2 (.pointer (some ad))).run Tryz.prog w = .ok (.int .i64 z) w := by
  simp [go_sem, Instr.loadAt, Instr.sureAddr, h]
theorem info60 : (Tryz.prog.info? 101).map (·.size) = some 91 := by kernel_rfl
theorem step_storeR {ops : Array Oper} {o : Oper} {a : Act} {w : World} {K : Act → World → Prop} {Q : Exit → Act → World → Prop} {E : Prop} (hg : o.guard = none) (ty : TypeId) (x y : Operand) (ho : o.op = .store ty x y)
    (g : Nat) (cells : Array Value) (hx : a.eval x = .pointer (some ⟨g, 0, none⟩)) (hy : a.eval y = .agg cells) (t : TypeId) (old : Array Value) (hb : w.heap[g]? = some (.cells old t (0, 0))) (hi : (Tryz.prog.info? ty).map (·.size) = some cells.size)
    (hold : old.size = cells.size) (h1 : cells.all (·.oneCell') = true) (hK : K (a.put o.dst undef) (w.setRow g cells)) : if Region.wanted o (yielded ops a.tmps) = true then Oper.wp Tryz.prog o a w K Q else E := by
  have hw : Region.wanted o (yielded ops a.tmps) = true := by simp [Region.wanted, hg]
  rw [if_pos hw]
  exact wp_store_row ty x y ho g cells hx hy t old hb hi hold h1 hK
theorem run_build60 {k : Pk} (h : Ad k) (t : Int) (w : World) : (Instr.build 101 #[(0, .agg (csK k)), (1, .int .i64 t), (2, .bool true)]).run Tryz.prog w = .ok (.agg (csE ⟨k, t, true, [], -1, [], 0, zeroPk, 0, 0, fun _ => (0, false)⟩ (.pointer none) (.slice none 0 0) (.slice none 0 0) (.map none))) w := by
  obtain ⟨v, tos, flow, sv, sb, dv', db, proto, ttl, id, df, more, frag, off, o, d⟩ := k
  obtain ⟨h1, h2⟩ := h
  simp only at h1 h2
  obtain ⟨b0, b1, b2, b3, b4, b5, b6, b7, b8, b9, b10, b11, b12, b13, b14, b15, rfl⟩ := list16 h1
  obtain ⟨c0, c1, c2, c3, c4, c5, c6, c7, c8, c9, c10, c11, c12, c13, c14, c15, rfl⟩ := list16 h2
  kernel_rfl
theorem run_build60n {k : Pk} (h : Ad k) (t : Int) (p : Option Addr) (m : Option Nat) (w : World) : (Instr.build 101 #[(0, .agg (csK k)), (1, .int .i64 t), (3, .pointer p), (9, .map m)]).run Tryz.prog w = .ok (.agg (csE (newS k t) (.pointer p) (.slice none 0 0) (.slice none 0 0) (.map m))) w := by
  obtain ⟨v, tos, flow, sv, sb, dv', db, proto, ttl, id, df, more, frag, off, o, d⟩ := k
  obtain ⟨h1, h2⟩ := h
  simp only at h1 h2
  obtain ⟨b0, b1, b2, b3, b4, b5, b6, b7, b8, b9, b10, b11, b12, b13, b14, b15, rfl⟩ := list16 h1
  obtain ⟨c0, c1, c2, c3, c4, c5, c6, c7, c8, c9, c10, c11, c12, c13, c14, c15, rfl⟩ := list16 h2
  kernel_rfl
theorem ad_zero : Ad zeroPk := ⟨rfl, rfl⟩
set_option maxHeartbeats 4000000 in
theorem poison_c {w : World} {g : Nat} (s : Es) (lp dv ov mp : Value) (hb : w.heap[g]? = some (.cells (csE s lp dv ov mp) 101 (0, 0))) (hka : Ad s.k) (hfa : Ad s.f) :
    Calls Tryz.prog 55 #[.pointer (some ⟨g, 0, none⟩)] w fun E w' => E = .returned (.tuple #[]) ∧ EntB w' g (poisS s) ∧ Away [g] w w' := by
  have HB := Lib.hid hb
  have HKA := Lib.hid hka
  have HFA := Lib.hid hfa
  have hbd := run_build60 hka s.tb
  have HSZ : Hid ((csE s lp dv ov mp).size = 91) := csE_size hka hfa _ _ _ _
  have HS0 : Hid (w.rangeAt g 0 (listK s.k) ∧ w.cell? ⟨g, 37, none⟩ = some (.int .i64 s.tb)) := ⟨csE_key hb, by rw [cell_of_block hb]; exact (csE_mid hka _ _ _ _).1⟩
  generalize csE s lp dv ov mp = old at *
  have hps : poisS s = ⟨s.k, s.tb, true, [], -1, [], 0, zeroPk, 0, 0, fun _ => (0, false)⟩ := rfl
  rw [← hps] at hbd
  obtain ⟨cs, hcs⟩ : ∃ cs, cs = csE (poisS s) (.pointer none) (.slice none 0 0) (.slice none 0 0) (.map none) := ⟨_, rfl⟩
  rw [← hcs] at hbd
  have HCS : Hid (cs.size = 91) := by show _ = _; rw [hcs]; exact csE_size (s := poisS s) hka ad_zero _ _ _ _
  have HC1 : Hid (cs.all (·.oneCell') = true) := by show _ = _; rw [hcs]; exact csE_one _ _ _ _ _ rfl rfl rfl rfl
  have HCE := Lib.hid hcs
  have HSN : Hid (∀ W : World, W.heap[g]? = some (.cells cs 101 (0, 0)) → W.rangeAt g 0 (listK s.k) ∧ W.cell? ⟨g, 37, none⟩ = some (.int .i64 s.tb)) := fun W hW => by
    rw [HCE.out] at hW
    exact ⟨csE_key (s := poisS s) hW, by rw [cell_of_block hW]; exact (csE_mid (s := poisS s) hka _ _ _ _).1⟩
  generalize s.tb = tb at *
  clear hb hka hfa hcs hps
  go_enter Tryz.func55, Tryz.ntmps55
  go_wp2_with fail
  refine wp_region_held_drew (S := fun w' => w'.rangeAt g 0 (listK s.k) ∧ w'.cell? ⟨g, 37, none⟩ = some (.int .i64 tb)) (by kernel_rfl) HS0.out (fun hHeld => ?_)
  refine tkA 0 (v := ?_) (by simp only [gA, g1, g0]; rfl) (by kernel_rfl) (by exact fun _ _ _ h => h) (Or.inl ⟨by rfl, ?_⟩) (by assumption) ?_; rotate_left; focus (intro wq hSw; (try dsimp only at hSw); go_simp; all_goals (with_reducible rfl))
  try simp only [Act.put, sA, s0, s1]
  refine tkA 1 (v := ?_) (by simp only [gA, g1, g0]; rfl) (by kernel_rfl) (by exact fun _ _ _ h => h) (Or.inl ⟨by rfl, ?_⟩) (by assumption) ?_; rotate_left; focus (intro wq hSw; (try dsimp only at hSw); go_simp; all_goals (with_reducible rfl))
  try simp only [Act.put, sA, s0, s1]
  refine tkA 2 (v := ?_) (by simp only [gA, g1, g0]; rfl) (by kernel_rfl) (by exact fun _ _ _ h => h) (Or.inl ⟨by rfl, ?_⟩) (by assumption) ?_; rotate_left; focus (intro wq hSw; (try dsimp only at hSw); go_simp; all_goals (with_reducible rfl))
  try simp only [Act.put, sA, s0, s1]
  refine tkA 3 (v := ?_) (by simp only [gA, g1, g0]; rfl) (by kernel_rfl) (by exact fun _ _ _ h => h) (Or.inl ⟨by rfl, ?_⟩) (by assumption) ?_; rotate_left; focus (intro wq hSw; (try dsimp only at hSw); go_simp; all_goals (with_reducible rfl))
  try simp only [Act.put, sA, s0, s1]
  refine tkA 4 (by simp only [gA, g1, g0]; rfl) (by kernel_rfl) (by exact fun _ _ _ h => h) (yields_ld (ad := ⟨g, 0, none⟩) (by rfl) _ rfl rfl (fun w' h => load29_run h.1 HKA.out)) (by assumption) ?_; try simp only [Act.put, sA, s0, s1]
  refine tkA 5 (v := ?_) (by simp only [gA, g1, g0]; rfl) (by kernel_rfl) (by exact fun _ _ _ h => h) (Or.inl ⟨by rfl, ?_⟩) (by assumption) ?_; rotate_left; focus (intro wq hSw; (try dsimp only at hSw); go_simp; all_goals (with_reducible rfl))
  try simp only [Act.put, sA, s0, s1]
  refine tkA 6 (v := ?_) (by simp only [gA, g1, g0]; rfl) (by kernel_rfl) (by exact fun _ _ _ h => h) (Or.inl ⟨by rfl, ?_⟩) (by assumption) ?_; rotate_left; focus (intro wq hSw; (try dsimp only at hSw); go_simp; all_goals (with_reducible rfl))
  try simp only [Act.put, sA, s0, s1]
  refine tkA 7 (v := ?_) (by simp only [gA, g1, g0]; rfl) (by kernel_rfl) (by exact fun _ _ _ h => h) (Or.inl ⟨by rfl, ?_⟩) (by assumption) ?_; rotate_left; focus (intro wq hSw; (try dsimp only at hSw); go_simp; all_goals (with_reducible rfl))
  try simp only [Act.put, sA, s0, s1]
  refine tkA 8 (by simp only [gA, g1, g0]; rfl) (by kernel_rfl) (by exact fun _ _ _ h => h) (yields_ld (ad := ⟨g, 37, none⟩) (by rfl) _ rfl rfl (fun w' h => ld2 h.2)) (by assumption) ?_; try simp only [Act.put, sA, s0, s1]
  refine tkA 9 (by simp only [gA, g1, g0]; rfl) (by kernel_rfl) (by exact fun _ _ _ h => h) (yields_build (by rfl) rfl #[(0, .agg (csK s.k)), (1, .int .i64 tb), (2, .bool true)] (by simp only [List.map_toArray, List.map_cons, List.map_nil]; rfl) hbd) (by assumption) ?_; try simp only [Act.put, sA, s0, s1]
  refine tkA 10 (v := ?_) (by simp only [gA, g1, g0]; rfl) (by kernel_rfl) (by exact fun _ _ _ h => h) (Or.inl ⟨by rfl, ?_⟩) (by assumption) ?_; rotate_left; focus (intro wq hSw; (try dsimp only at hSw); go_simp; all_goals (with_reducible rfl))
  try simp only [Act.put, sA, s0, s1]
  refine wpAnyH_ready (rs := [11]) (by kernel_rfl) (by simp) ?_
  refine AllReadyH.cons (by simp only [gA, g1, g0]; rfl) (fun K hK => ?_) AllReadyH.nil
  refine step_storeR rfl 101 _ _ rfl g cs rfl rfl 101 old (by exact HB.out) (by rw [HCS.out]; exact info60) (by rw [HSZ.out, HCS.out]) HC1.out ?_
  have HBN : Hid ((w.drew.setRow g cs).heap[g]? = some (.cells cs 101 (0, 0))) := setRow_heap w.drew g old cs 101 (0, 0) HB.out
  refine hK.out _ _ (by exact HSN.out _ HBN.out) (fun hHeld => ?_)
  clear hK K
  try simp only [Act.put, sA, s0, s1]
  refine wpAnyH_done (by kernel_rfl) ?_ _
  have HF : Hid (EntB (w.drew.setRow g cs) g (poisS s)) := ⟨HKA.out, rfl, rfl, by rw [← HCE.out]; exact HBN.out⟩
  have HAW : Hid (Away [g] w (w.drew.setRow g cs)) := (Away.refl [g] w).drew.setRow (.inl (by simp)) _
  go_wp2_with fail
  go_end0
  exact ⟨rfl, HF.out, HAW.out⟩
theorem wpList_boxR {ops : Array Oper} {rest : List Oper} {o : Oper} {a : Act} {w : World} {Q : Exit → Act → World → Prop} (hg : o.guard = none) (ty : TypeId) (x : Operand) (ho : o.op = .box ty x) (cs : Array Value) (hx : a.eval x = .agg cs)
    (h : ∀ g w1, w.heap.size ≤ g → w1.heap[g]? = some (.cells cs ty (0, 0)) → Away [] w w1 → wpList Tryz.prog ops Q rest (a.put o.dst (.pointer (some ⟨g, 0, none⟩))) w1) : wpList Tryz.prog ops Q (o :: rest) a w := by
  refine wpList_plain hg fun K hK => ?_
  unfold Oper.wp execOp
  simp only [ho, hx, Sem.run_bind, Instr.box, newVar, newRow, run_newObj_alloc, Sem.run_pure, Result.andThen_ok]
  exact hK _ _ (h w.heap.size _ (Nat.le_refl _) (block_new _ _) ((Away.refl [] w).alloc _))
theorem step_boxR {ops : Array Oper} {o : Oper} {a : Act} {w : World} {K : Act → World → Prop} {Q : Exit → Act → World → Prop} {E : Prop} (hg : o.guard = none) (ty : TypeId) (x : Operand) (ho : o.op = .box ty x) (cs : Array Value) (hx : a.eval x = .agg cs)
    (hK : K (a.put o.dst (.pointer (some ⟨w.heap.size, 0, none⟩))) (w.alloc (.cells cs ty))) : if Region.wanted o (yielded ops a.tmps) = true then Oper.wp Tryz.prog o a w K Q else E := by
  have hw : Region.wanted o (yielded ops a.tmps) = true := by simp [Region.wanted, hg]
  rw [if_pos hw]
  unfold Oper.wp execOp
  simp only [ho, hx, Sem.run_bind, Instr.box, newVar, newRow, run_newObj_alloc, Sem.run_pure, Result.andThen_ok]
  exact hK
theorem step_makeMap {ops : Array Oper} {o : Oper} {a : Act} {w : World} {K : Act → World → Prop} {Q : Exit → Act → World → Prop} {E : Prop} (hg : o.guard = none) (ho : o.op = .makeMap 99 none)
    (hK : K (a.put o.dst (.map (some w.heap.size))) (w.alloc (.map #[] 0))) : if Region.wanted o (yielded ops a.tmps) = true then Oper.wp Tryz.prog o a w K Q else E := by
  have hw : Region.wanted o (yielded ops a.tmps) = true := by simp [Region.wanted, hg]
  rw [if_pos hw]
  unfold Oper.wp execOp
  simp only [ho, Option.map_none, Sem.run_bind, run_makeMap, Sem.run_pure, Result.andThen_ok]
  exact hK
theorem boxK_range {w : World} {g : Nat} {p : Pk} (h : BoxK w g (csK p)) : w.rangeAt g 0 (listK p) := fun j v hj => by
  rw [cell_of_block h]
  simp only [csK, List.getElem?_toArray, Nat.zero_add]
  exact hj
theorem new_ent {w : World} {g lb mb : Nat} {lv : Value} {k : Pk} {t : Int} (hka : Ad k) (hb : w.heap[g]? = some (.cells (csE (newS k t) (.pointer (some ⟨lb, 0, none⟩)) (.slice none 0 0) (.slice none 0 0) (.map (some mb))) 101 (0, 0)))
    (hl : H.Hl w lb lv [(0, 65535)] (-1)) (hm : MapP w mb 0 (fun _ => (0, false))) (h1 : g ≠ lb) (h2 : g ≠ mb) (h3 : lb ≠ mb) (h4 : lv.ownBlock ≠ some g) (h5 : lv.ownBlock ≠ some mb) :
    Ent w g (newS k t) (fpE g lb lv (.slice none 0 0) (.slice none 0 0) mb) := by
  refine .inr ⟨lb, lv, _, _, mb, 0, ⟨hb, rfl, hka, ad_zero, hl, Owns.nil _, Owns.nil _, hm, ⟨h1, h2, h3, h4, by simp [Value.ownBlock], by simp [Value.ownBlock], fun e => hl.own lb e rfl, by simp [Value.ownBlock], by simp [Value.ownBlock], h5, by simp [Value.ownBlock], by simp [Value.ownBlock], by simp [Value.ownBlock], by simp [Value.ownBlock], by simp [Value.ownBlock]⟩⟩, rfl, by simp⟩
set_option maxHeartbeats 8000000 in
theorem new_c (w : World) (k : Pk) (t : Int) (hka : Ad k) :
    Calls Tryz.prog 66 #[.agg (csK k), .int .i64 t] w fun E w' => ∃ g fp, E = .returned (.pointer (some ⟨g, 0, none⟩)) ∧ Ent w' g (newS k t) fp ∧ (∀ x ∈ fp, w.heap.size ≤ x) ∧ Away [] w w' := by
  have HKA := Lib.hid hka
  have hbd := fun p m => run_build60n hka t p m
  clear hka
  go_enter Tryz.func66, Tryz.ntmps66
  go_wp2_with (refine wpList_boxR rfl 55 _ rfl (csK k) rfl ?_; refine Hid.out ?_)
  refine Lib.hid ?_
  intro g1 w1 hg1 hb1 haw1
  have HB : Hid (BoxK w1 g1 (csK k)) := hb1
  have HAW := Lib.hid haw1
  clear hb1 haw1 hg1
  go_wp2_with fail
  have HSZ : Hid (w.heap.size ≤ w1.heap.size) := HAW.out.size
  replace HAW : Hid (Away [] w w1.drew) := HAW.out.drew
  replace HB : Hid (BoxK w1.drew g1 (csK k)) := HB.out
  refine wp_region_held_drew (S := fun w' => BoxK w' g1 (csK k)) (by kernel_rfl) HB.out (fun hHeld => ?_)
  refine tkA 0 (by simp only [gA, List.getElem?_cons_succ, List.getElem?_cons_zero]; rfl) (by kernel_rfl) (by exact fun _ _ _ h => h) (yields_ld (ad := ⟨g1, 0, none⟩) (by rfl) _ rfl rfl (fun w' h => load29_run (boxK_range h) HKA.out)) (by assumption) ?_; try simp only [Act.put, sA, s0, s1]
  refine tkA 1 (v := ?_) (by simp only [gA, List.getElem?_cons_succ, List.getElem?_cons_zero]; rfl) (by kernel_rfl) (by exact fun _ _ _ h => h) (Or.inl ⟨by rfl, ?_⟩) (by assumption) ?_; rotate_left; focus (intro wq hSw; (try dsimp only at hSw); go_simp; all_goals (with_reducible rfl))
  try simp only [Act.put, sA, s0, s1]
  refine wpAnyH_ready (rs := [2, 3]) (by kernel_rfl) (by simp) ?_
  refine AllReadyH.cons (by simp only [gA, List.getElem?_cons_succ, List.getElem?_cons_zero]; rfl) (fun K hK => ?_) (AllReadyH.cons (by simp only [gA, List.getElem?_cons_succ, List.getElem?_cons_zero]; rfl) (fun K hK => ?_) AllReadyH.nil)
  · go_simp
    refine (H.new_c _).mono ?_
    rintro E y2 ⟨lb, lv, rfl, hl, hglb, hnlv, haw2⟩
    have haw2' : Away [] w1.drew y2 := ⟨haw2.os, haw2.tape, haw2.output, haw2.size, haw2.block⟩
    have HL := Lib.hid hl
    have HLB : Hid (w1.drew.heap.size ≤ lb ∧ lb < y2.heap.size) := ⟨hglb, lt_of_block hl.blk⟩
    have HLV : Hid (∀ x, lv.ownBlock = some x → w1.drew.heap.size ≤ x ∧ x < y2.heap.size) := fun x hx => ⟨hnlv x hx, hl.lst.lt x hx⟩
    replace HB : Hid (BoxK y2 g1 (csK k)) := haw2'.keep (by simp) HB.out
    have hsz2 := haw2'.size
    replace HAW := Lib.hid (HAW.out.trans haw2')
    clear hl hglb hnlv haw2 haw2'
    go_wp2_with fail
    refine hK.out _ _ (by exact HB.out) (fun hHeld => ?_)
    clear hK K
    try simp only [Act.put, sA, s0, s1]
    refine wpAnyH_ready (rs := [3]) (by kernel_rfl) (by simp) ?_
    refine AllReadyH.cons (by simp only [gA, List.getElem?_cons_succ, List.getElem?_cons_zero]; rfl) (fun K hK => ?_) AllReadyH.nil
    refine step_makeMap rfl rfl ?_
    have HA3 : Hid (Away [] y2 (y2.alloc (.map #[] 0))) := (Away.refl _ _).alloc _
    have HM := Lib.hid (MapP.made y2)
    replace HB : Hid (BoxK (y2.alloc (.map #[] 0)) g1 (csK k)) := HA3.out.keep (by simp) HB.out
    replace HAW := Lib.hid (HAW.out.trans HA3.out)
    have HMZ : Hid ((y2.alloc (.map #[] 0)).heap.size = y2.heap.size + 1) := by show _ = _; simp
    obtain ⟨mb, hmb⟩ : ∃ mb, mb = y2.heap.size := ⟨_, rfl⟩
    have HMB := Lib.hid hmb
    rw [← hmb] at HM
    replace HL := Lib.hid (HL.out.on HA3.out)
    refine hK.out _ _ (by exact HB.out) (fun hHeld => ?_)
    clear hK K
    try simp only [Act.put, sA, s0, s1]
    rw [← hmb]
    clear hmb
    generalize hy3 : y2.alloc (.map #[] 0) = y3 at *
    clear hy3
    refine tkA 4 (by simp only [gA, List.getElem?_cons_succ, List.getElem?_cons_zero]; rfl) (by kernel_rfl) (by exact fun _ _ _ h => h) (yields_build (by rfl) rfl #[(0, .agg (csK k)), (1, .int .i64 t), (3, .pointer (some ⟨lb, 0, none⟩)), (9, .map (some mb))] (by simp only [List.map_toArray, List.map_cons, List.map_nil]; rfl) (hbd _ _)) (by assumption) ?_; try simp only [Act.put, sA, s0, s1]
    refine wpAnyH_ready (rs := [5]) (by kernel_rfl) (by simp) ?_
    refine AllReadyH.cons (by simp only [gA, List.getElem?_cons_succ, List.getElem?_cons_zero]; rfl) (fun K hK => ?_) AllReadyH.nil
    refine step_boxR rfl 101 _ rfl _ rfl ?_
    have HA5 : Hid (Away [] y3 (y3.alloc (.cells (csE (newS k t) (.pointer (some ⟨lb, 0, none⟩)) (.slice none 0 0) (.slice none 0 0) (.map (some mb))) 101))) := (Away.refl _ _).alloc _
    have HBN := Lib.hid (block_new y3 (.cells (csE (newS k t) (.pointer (some ⟨lb, 0, none⟩)) (.slice none 0 0) (.slice none 0 0) (.map (some mb))) 101))
    replace HL := Lib.hid (HL.out.on HA5.out)
    replace HM := Lib.hid (HM.out.on HA5.out)
    replace HB : Hid (BoxK _ g1 (csK k)) := HA5.out.keep (by simp) HB.out
    replace HAW := Lib.hid (HAW.out.trans HA5.out)
    refine hK.out _ _ (by exact HB.out) (fun hHeld => ?_)
    clear hK K
    try simp only [Act.put, sA, s0, s1]
    refine tkA 6 (v := ?_) (by simp only [gA, List.getElem?_cons_succ, List.getElem?_cons_zero]; rfl) (by kernel_rfl) (by exact fun _ _ _ h => h) (Or.inl ⟨by rfl, ?_⟩) (by assumption) ?_; rotate_left; focus (intro wq hSw; (try dsimp only at hSw); go_simp; all_goals (with_reducible rfl))
    try simp only [Act.put, sA, s0, s1]
    refine wpAnyH_done (by kernel_rfl) ?_ _
    go_wp2_with fail
    go_ret
    have q1 := HLB.out
    have q2 := HLV.out
    have q3 := HMB.out
    have q5 := HMZ.out
    have q4 : w.heap.size ≤ w1.heap.size := HSZ.out
    refine ⟨_, _, rfl, new_ent HKA.out HBN.out HL.out HM.out (by (simp only [World.drew] at *; omega)) (by (simp only [World.drew] at *; omega)) (by (simp only [World.drew] at *; omega)) (fun e => by have := q2 _ e; (simp only [World.drew] at *; omega)) (fun e => by have := q2 _ e; (simp only [World.drew] at *; omega)), fun x hx => ?_, HAW.out⟩
    rcases mem_fp.1 hx with rfl | rfl | rfl | hx | hx | hx
    · (simp only [World.drew] at *; omega)
    · (simp only [World.drew] at *; omega)
    · (simp only [World.drew] at *; omega)
    · have := q2 x hx; (simp only [World.drew] at *; omega)
    · simp [Value.ownBlock] at hx
    · simp [Value.ownBlock] at hx
  · refine step_makeMap rfl rfl ?_
    have HA3 : Hid (Away [] w1.drew (w1.drew.alloc (.map #[] 0))) := (Away.refl _ _).alloc _
    have HM := Lib.hid (MapP.made w1.drew)
    replace HB : Hid (BoxK (w1.drew.alloc (.map #[] 0)) g1 (csK k)) := HA3.out.keep (by simp) HB.out
    replace HAW := Lib.hid (HAW.out.trans HA3.out)
    have HMZ : Hid ((w1.drew.alloc (.map #[] 0)).heap.size = w1.drew.heap.size + 1) := by show _ = _; simp
    obtain ⟨mb, hmb⟩ : ∃ mb, mb = w1.drew.heap.size := ⟨_, rfl⟩
    have HMB := Lib.hid hmb
    rw [← hmb] at HM
    refine hK.out _ _ (by exact HB.out) (fun hHeld => ?_)
    clear hK K
    try simp only [Act.put, sA, s0, s1]
    rw [← hmb]
    clear hmb
    generalize hy3 : w1.drew.alloc (.map #[] 0) = y3 at *
    clear hy3
    refine wpAnyH_ready (rs := [2]) (by kernel_rfl) (by simp) ?_
    refine AllReadyH.cons (by simp only [gA, List.getElem?_cons_succ, List.getElem?_cons_zero]; rfl) (fun K hK => ?_) AllReadyH.nil
    go_simp
    refine (H.new_c _).mono ?_
    rintro E y2 ⟨lb, lv, rfl, hl, hglb, hnlv, haw2⟩
    have haw2' : Away [] y3 y2 := ⟨haw2.os, haw2.tape, haw2.output, haw2.size, haw2.block⟩
    have HL := Lib.hid hl
    have HLB : Hid (y3.heap.size ≤ lb ∧ lb < y2.heap.size) := ⟨hglb, lt_of_block hl.blk⟩
    have HLV : Hid (∀ x, lv.ownBlock = some x → y3.heap.size ≤ x ∧ x < y2.heap.size) := fun x hx => ⟨hnlv x hx, hl.lst.lt x hx⟩
    replace HB : Hid (BoxK y2 g1 (csK k)) := haw2'.keep (by simp) HB.out
    have hsz2 := haw2'.size
    replace HAW := Lib.hid (HAW.out.trans haw2')
    replace HM := Lib.hid (HM.out.on haw2')
    clear hl hglb hnlv haw2 haw2'
    go_wp2_with fail
    refine hK.out _ _ (by exact HB.out) (fun hHeld => ?_)
    clear hK K
    try simp only [Act.put, sA, s0, s1]
    refine tkA 4 (by simp only [gA, List.getElem?_cons_succ, List.getElem?_cons_zero]; rfl) (by kernel_rfl) (by exact fun _ _ _ h => h) (yields_build (by rfl) rfl #[(0, .agg (csK k)), (1, .int .i64 t), (3, .pointer (some ⟨lb, 0, none⟩)), (9, .map (some mb))] (by simp only [List.map_toArray, List.map_cons, List.map_nil]; rfl) (hbd _ _)) (by assumption) ?_; try simp only [Act.put, sA, s0, s1]
    refine wpAnyH_ready (rs := [5]) (by kernel_rfl) (by simp) ?_
    refine AllReadyH.cons (by simp only [gA, List.getElem?_cons_succ, List.getElem?_cons_zero]; rfl) (fun K hK => ?_) AllReadyH.nil
    refine step_boxR rfl 101 _ rfl _ rfl ?_
    have HA5 : Hid (Away [] y2 (y2.alloc (.cells (csE (newS k t) (.pointer (some ⟨lb, 0, none⟩)) (.slice none 0 0) (.slice none 0 0) (.map (some mb))) 101))) := (Away.refl _ _).alloc _
    have HBN := Lib.hid (block_new y2 (.cells (csE (newS k t) (.pointer (some ⟨lb, 0, none⟩)) (.slice none 0 0) (.slice none 0 0) (.map (some mb))) 101))
    replace HL := Lib.hid (HL.out.on HA5.out)
    replace HM := Lib.hid (HM.out.on HA5.out)
    replace HB : Hid (BoxK _ g1 (csK k)) := HA5.out.keep (by simp) HB.out
    replace HAW := Lib.hid (HAW.out.trans HA5.out)
    refine hK.out _ _ (by exact HB.out) (fun hHeld => ?_)
    clear hK K
    try simp only [Act.put, sA, s0, s1]
    refine tkA 6 (v := ?_) (by simp only [gA, List.getElem?_cons_succ, List.getElem?_cons_zero]; rfl) (by kernel_rfl) (by exact fun _ _ _ h => h) (Or.inl ⟨by rfl, ?_⟩) (by assumption) ?_; rotate_left; focus (intro wq hSw; (try dsimp only at hSw); go_simp; all_goals (with_reducible rfl))
    try simp only [Act.put, sA, s0, s1]
    refine wpAnyH_done (by kernel_rfl) ?_ _
    go_wp2_with fail
    go_ret
    have q1 := HLB.out
    have q2 := HLV.out
    have q3 := HMB.out
    have q5 := HMZ.out
    have q4 : w.heap.size ≤ w1.heap.size := HSZ.out
    refine ⟨_, _, rfl, new_ent HKA.out HBN.out HL.out HM.out (by (simp only [World.drew] at *; omega)) (by (simp only [World.drew] at *; omega)) (by (simp only [World.drew] at *; omega)) (fun e => by have := q2 _ e; (simp only [World.drew] at *; omega)) (fun e => by have := q2 _ e; (simp only [World.drew] at *; omega)), fun x hx => ?_, HAW.out⟩
    rcases mem_fp.1 hx with rfl | rfl | rfl | hx | hx | hx
    · (simp only [World.drew] at *; omega)
    · (simp only [World.drew] at *; omega)
    · (simp only [World.drew] at *; omega)
    · have := q2 x hx; (simp only [World.drew] at *; omega)
    · simp [Value.ownBlock] at hx
    · simp [Value.ownBlock] at hx
theorem step_store26 {ops : Array Oper} {o : Oper} {a : Act} {w : World} {K : Act → World → Prop} {Q : Exit → Act → World → Prop} {E : Prop} (hg : o.guard = none) (s r : Nat)
    (ho : o.op = .store 37 (.tmp s) (.tmp r)) (g i : Nat) (hx : a.tmps[s]?.getD undef = .pointer (some ⟨g, i, none⟩)) (b : Option Addr) (n c : Nat) (hy : a.tmps[r]?.getD undef = .slice b n c) (u : Value) (hc : w.cell? ⟨g, i, none⟩ = some u) (hf : w.frozen? ⟨g, i, none⟩ = false)
    (hK : K (a.put o.dst undef) (w.setCell ⟨g, i, none⟩ (.slice b n c))) :
    if Region.wanted o (yielded ops a.tmps) = true then Oper.wp Tryz.prog o a w K Q else E := by
  have hw : Region.wanted o (yielded ops a.tmps) = true := by simp [Region.wanted, hg]
  rw [if_pos hw]
  obtain ⟨d, op, ty, ps, af, gd⟩ := o
  simp only at ho
  subst ho
  go_simp
  exact hK
def FillOut (w : World) (q : Pk) (E : Ending) (w' : World) : Prop := ∃ o d, E = .returned (.agg (csP q o d)) ∧ Mine w' w.heap.size q o d ∧ Away [] w w'
section
variable {w : World} {g : Nat} {s : Es} {lb : Nat} {lv dv ov : Value} {mb mn : Nat}
set_option maxHeartbeats 8000000 in
theorem filled_c (h : EntG w g s lb lv dv ov mb mn) (n : Nat) (hn : n ≤ s.d.length) (hb : Bytes s.d) (hl : s.d.length ≤ 65535) (hob : Bytes s.f.o) (hol : s.f.o.length ≤ 40) :
    Calls Tryz.prog 70 #[.pointer (some ⟨g, 0, none⟩), .int .i64 n] w (FillOut w (filledP s n)) := by
  have HE := Lib.hid h
  have HFA := Lib.hid h.fad
  obtain ⟨da, dc, hd, hcap, hnone, hrow, -, -⟩ := h.da.row (by omega) hb
  obtain ⟨oa, oc, ho, hocap, honone, horow, -, -⟩ := h.oo.row (by omega) hob
  have hsl := slice_h da s.d.length dc n (n : Int) rfl (by omega)
  have KO : Hid (∀ W, Away [] w W → Calls Tryz.prog 48 #[ov] W fun e w' => ∃ v, e = .returned v ∧ Owns w' v s.f.o ∧ New W.heap.size v ∧ Away [] W w') := fun W hW => by
    rw [ho]; exact clone_any oa s.f.o oc W honone (horow.away hW (by simp))
  have KD : Hid (∀ W, Away [] w W → Calls Tryz.prog 48 #[.slice da n dc] W fun e w' => ∃ v, e = .returned v ∧ Owns w' v (s.d.take n) ∧ New W.heap.size v ∧ Away [] W w') := fun W hW => by
    have := clone_any da (s.d.take n) dc W hnone ((hrow.head n).away hW (by simp))
    rwa [show (s.d.take n).length = n from by simp; omega] at this
  obtain ⟨dn, hdn⟩ : ∃ dn, dn = s.d.length := ⟨_, rfl⟩
  rw [← hdn] at hsl hd
  obtain ⟨on, hon⟩ : ∃ on, on = s.f.o.length := ⟨_, rfl⟩
  rw [← hon] at ho
  have HQ : Hid (filledP s n = { s.f with d := s.d.take n }) := rfl
  subst hd
  subst ho
  clear h hn hb hl hob hol hcap hnone hrow hocap honone horow hdn hon
  have HE0 := HE
  go_enter Tryz.func70, Tryz.ntmps70
  go_wp2_with (refine wpList_alloc28 rfl rfl ?_; refine Hid.out ?_)
  refine Lib.hid ?_
  intro g4 w4 hg4 hb4 haw4
  have HB4 := Lib.hid hb4
  have HA4 := Lib.hid haw4
  have hl4 := hb4.lt
  replace HE := Lib.hid (HE.out.on haw4)
  clear hb4 haw4
  go_wp2_with (first
    | (refine wpList_load28m rfl _ rfl g 42 rfl s.f _ _ (by exact csE_first HE.out.kad HE.out.blk) HFA.out ?_)
    | (refine wpList_new28 rfl rfl rfl _ _ rfl s.f (.slice oa on oc) (.slice none 0 0) (fun g => rfl) (fun g => rfl) HFA.out rfl rfl ?_; refine Hid.out ?_))
  refine Lib.hid ?_
  intro g5 w5 hg5 hb5 haw5
  have HB5 := Lib.hid hb5
  have hl5 := hb5.lt
  replace HB4 := Lib.hid (HB4.out.on haw5)
  replace HA4 := Lib.hid (HA4.out.on haw5)
  replace HE := Lib.hid (HE.out.on haw5)
  have hs5 := haw5.size
  clear hb5 haw5
  go_wp2_with fail
  have ck : BoxP w5.drew g5 s.f (.slice oa on oc) (.slice none 0 0) := HB5.out
  have cd : w5.drew.cell? ⟨g, 40, none⟩ = some (.slice da dn dc) := HE.out.cells.2.2.2.1
  have c44 : w5.cell? ⟨g5, 44, none⟩ = some (.slice oa on oc) := (HB5.out.cells HFA.out).o
  have HGG : Hid (g ≠ g5) := by have := lt_of_block HE0.out.blk; show _ ≠ _; omega
  refine wp_region_held_drew (S := fun w' => w'.cell? ⟨g, 40, none⟩ = some (.slice da dn dc)) (by kernel_rfl) cd (fun hHeld => ?_)
  refine tkA 0 (v := ?_) (by simp only [gA, g1, g0]; rfl) (by kernel_rfl) (by exact fun _ _ _ h => h) (Or.inl ⟨by rfl, ?_⟩) (by assumption) ?_; rotate_left; focus (intro wq hSw; (try dsimp only at hSw); go_simp; all_goals (with_reducible rfl))
  try simp only [Act.put, sA, s0, s1]
  refine tkA 3 (v := ?_) (by simp only [gA, g1, g0]; rfl) (by kernel_rfl) (by exact fun _ _ _ h => h) (Or.inl ⟨by rfl, ?_⟩) (by assumption) ?_; rotate_left; focus (intro wq hSw; (try dsimp only at hSw); go_simp; all_goals (with_reducible rfl))
  try simp only [Act.put, sA, s0, s1]
  refine tkA 4 (v := ?_) (by simp only [gA, g1, g0]; rfl) (by kernel_rfl) (by exact fun _ _ _ h => h) (Or.inl ⟨by rfl, ?_⟩) (by assumption) ?_; rotate_left; focus (intro wq hSw; (try dsimp only at hSw); go_simp; all_goals (with_reducible rfl))
  try simp only [Act.put, sA, s0, s1]
  refine tkA 5 (v := ?_) (by simp only [gA, g1, g0]; rfl) (by kernel_rfl) (by exact fun _ _ _ h => h) (Or.inl ⟨by rfl, ?_⟩) (by assumption) ?_; rotate_left; focus (intro wq hSw; (try dsimp only at hSw); go_simp; all_goals (with_reducible rfl))
  try simp only [Act.put, sA, s0, s1]
  refine tkA 6 (by simp only [gA, g1, g0]; rfl) (by kernel_rfl) (by exact fun _ _ _ h => h) (yields_ld (ad := ⟨g, 40, none⟩) (by rfl) _ rfl rfl (fun w' h => ld26 h)) (by assumption) ?_; try simp only [Act.put, sA, s0, s1]
  refine tkA 7 (v := ?_) (by simp only [gA, g1, g0]; rfl) (by kernel_rfl) (by exact fun _ _ _ h => h) (Or.inl ⟨by rfl, ?_⟩) (by assumption) ?_; rotate_left; focus (intro wq hSw; (try dsimp only at hSw); go_simp; all_goals (with_reducible rfl))
  try simp only [Act.put, sA, s0, s1]
  refine tkA 8 (v := ?_) (by simp only [gA, g1, g0]; rfl) (by kernel_rfl) (by exact fun _ _ _ h => h) (Or.inl ⟨by rfl, ?_⟩) (by assumption) ?_; rotate_left; focus (intro wq hSw; (try dsimp only at hSw); go_simp; all_goals (with_reducible rfl))
  try simp only [Act.put, sA, s0, s1]
  refine wpAnyH_ready (rs := [1]) (by kernel_rfl) (by simp) ?_
  refine AllReadyH.cons (by simp only [gA, g1, g0]; rfl) (fun K hK => ?_) AllReadyH.nil
  go_simp
  refine hK.out _ _ (by exact cd) (fun hHeld => ?_)
  clear hK K
  try simp only [Act.put, sA, s0, s1]
  clear c44
  refine wpAnyH_ready (rs := [2]) (by kernel_rfl) (by simp) ?_
  refine AllReadyH.cons (by simp only [gA, g1, g0]; rfl) (fun K hK => ?_) AllReadyH.nil
  go_simp
  refine (KO.out _ HA4.out.drew).mono ?_
  rintro E y1 ⟨v1, rfl, ho1, hn1, ha1⟩
  have HO1 := Lib.hid ho1
  have HB4y := Lib.hid (HB4.out.on ((Away.refl [] w5).drew.next ha1 (by simp)))
  have HAy := Lib.hid (HA4.out.drew.next ha1 (by simp))
  have hsy : w5.heap.size ≤ y1.heap.size := ha1.size
  have hlt1 := ho1.lt
  replace ck := BoxP.on ck ha1
  replace cd := Away.cell ha1 (by simp) cd
  clear ho1 ha1
  obtain ⟨a3, n3, k3, rfl⟩ := HO1.out.shp
  go_wp2_with fail
  refine hK.out _ _ (by exact cd) (fun hHeld => ?_)
  clear hK K
  try simp only [Act.put, sA, s0, s1]
  refine tkA 10 (v := ?_) (by simp only [gA, g1, g0]; rfl) (by kernel_rfl) (by exact fun _ _ _ h => h) (Or.inl ⟨by rfl, ?_⟩) (by assumption) ?_; rotate_left; focus (intro wq hSw; (try dsimp only at hSw); go_simp; all_goals (with_reducible rfl))
  try simp only [Act.put, sA, s0, s1]
  refine wpAnyH_ready (rs := [9]) (by kernel_rfl) (by simp) ?_
  refine AllReadyH.cons (by simp only [gA, g1, g0]; rfl) (fun K hK => ?_) AllReadyH.nil
  go_simp
  refine (KD.out _ HAy.out).mono ?_
  rintro E y2 ⟨v2, rfl, ho2, hn2, ha2⟩
  have HO2 := Lib.hid ho2
  replace HO1 := Lib.hid (HO1.out.on ha2)
  replace HB4y := Lib.hid (HB4y.out.on ha2)
  replace HAy := Lib.hid (HAy.out.next ha2 (by simp))
  have hsz : y1.heap.size ≤ y2.heap.size := ha2.size
  replace ck := BoxP.on ck ha2
  replace cd := Away.cell ha2 (by simp) cd
  clear ho2 ha2
  obtain ⟨a5, n5, k5, rfl⟩ := HO2.out.shp
  go_wp2_with fail
  refine hK.out _ _ (by exact cd) (fun hHeld => ?_)
  clear hK K
  try simp only [Act.put, sA, s0, s1]
  refine wpAnyH_ready (rs := [11]) (by kernel_rfl) (by simp) ?_
  refine AllReadyH.cons (by simp only [gA, g1, g0]; rfl) (fun K hK => ?_) AllReadyH.nil
  refine step_store26 rfl 20 12 rfl g5 44 rfl a3 n3 k3 rfl _ (by exact (ck.cells HFA.out).o) (by exact ck.free 44) ?_
  replace cd : (y2.setCell ⟨g5, 44, none⟩ (.slice a3 n3 k3)).cell? ⟨g, 40, none⟩ = some (.slice da dn dc) := Away.cell (away_put (w := y2) (g := g5) 44 (.slice a3 n3 k3)) (by have := HGG.out; simp; omega) cd
  refine hK.out _ _ (by exact cd) (fun hHeld => ?_)
  clear hK K
  try simp only [Act.put]
  have CK3 := Lib.hid (ck.put 44 (.slice a3 n3 k3) ((csP_set HFA.out _ _).2.2.2.2.2.2.2.2.2.2.2.2.1 s.f.o (.slice a3 n3 k3)))
  have hA3 := away_put (w := y2) (g := g5) 44 (.slice a3 n3 k3)
  refine tkA 12 (v := ?_) (by simp only [gA, g1, g0]; rfl) (by kernel_rfl) (by exact fun _ _ _ h => h) (Or.inl ⟨by rfl, ?_⟩) (by assumption) ?_
  rotate_left; focus (intro wq hSw; (try dsimp only at hSw); go_simp; all_goals (with_reducible rfl))
  try simp only [Act.put]
  refine wpAnyH_ready (rs := [13]) (by kernel_rfl) (by simp) ?_
  refine AllReadyH.cons (by simp only [gA, g1, g0]; rfl) (fun K hK => ?_) AllReadyH.nil
  refine step_store26 rfl 21 19 rfl g5 45 rfl a5 n5 k5 rfl _ (by exact (CK3.out.cells HFA.out).d) (by exact CK3.out.free 45) ?_
  replace cd : ((y2.setCell ⟨g5, 44, none⟩ (.slice a3 n3 k3)).setCell ⟨g5, 45, none⟩ (.slice a5 n5 k5)).cell? ⟨g, 40, none⟩ = some (.slice da dn dc) := Away.cell (away_put (g := g5) 45 (.slice a5 n5 k5)) (by have := HGG.out; simp; omega) cd
  refine hK.out _ _ (by exact cd) (fun hHeld => ?_)
  clear hK K
  try simp only [Act.put]
  refine wpAnyH_done (by kernel_rfl) ?_ _
  have hA4 := away_put (w := y2.setCell ⟨g5, 44, none⟩ (.slice a3 n3 k3)) (g := g5) 45 (.slice a5 n5 k5)
  have HB6 := Lib.hid (CK3.out.put 45 (.slice a5 n5 k5) ((csP_set (p := { s.f with o := s.f.o }) HFA.out _ _).2.2.2.2.2.2.2.2.2.2.2.2.2 (s.d.take n) (.slice a5 n5 k5)))
  have hA := hA3.trans hA4
  have hv3 : ∀ k, (Value.slice a3 n3 k3).ownBlock = some k → k ≠ g5 ∧ k ≠ g4 ∧ w.heap.size ≤ k ∧ k < y1.heap.size := fun k hk => by
    have h1 := hn1 k hk
    have h2 := hlt1 k hk
    have h3 : w5.heap.size ≤ k := h1
    exact ⟨by omega, by omega, by omega, h2⟩
  have hv5 : ∀ k, (Value.slice a5 n5 k5).ownBlock = some k → k ≠ g5 ∧ k ≠ g4 ∧ w.heap.size ≤ k ∧ y1.heap.size ≤ k := fun k hk => by
    have h1 := hn2 k hk
    exact ⟨by omega, by omega, by omega, h1⟩
  have HM := Lib.hid (show Mine _ w.heap.size (filledP s n) (.slice a3 n3 k3) (.slice a5 n5 k5) from ⟨HO1.out.away hA (fun k hk => by simpa using (hv3 k hk).1), HO2.out.away hA (fun k hk => by simpa using (hv5 k hk).1), fun k hk => (hv3 k hk).2.2.1, fun k hk => (hv5 k hk).2.2.1, fun k hk e => by
    have h1 := (hv3 k hk).2.2.2; have h2 := (hv5 k e).2.2.2; omega⟩)
  have HB7 := Lib.hid (HB4y.out.away hA (by simp; omega))
  have HA7 := Lib.hid (HAy.out.next hA (fun x hx => .inr (by simp at hx; omega)))
  have HV := Lib.hid (show ∀ k, (Value.slice a3 n3 k3).ownBlock = some k ∨ (Value.slice a5 n5 k5).ownBlock = some k → k ≠ g4 from fun k hk => by
    rcases hk with hk | hk
    · exact (hv3 k hk).2.1
    · exact (hv5 k hk).2.1)
  have hz7 : w.heap.size ≤ g4 := by omega
  have HQA : Hid (Ad (filledP s n)) := HFA.out
  replace HB6 : Hid (BoxP _ g5 (filledP s n) (.slice a3 n3 k3) (.slice a5 n5 k5)) := HB6.out
  clear hA hA3 hA4 CK3 ck cd hHeld HO1 HO2 HB4y HAy hv3 hv5 hn1 hn2 hlt1 hsy hsz HQ
  generalize filledP s n = q at *
  generalize (y2.setCell ⟨g5, 44, none⟩ (.slice a3 n3 k3)).setCell ⟨g5, 45, none⟩ (.slice a5 n5 k5) = w6 at *
  go_wp2_with (first
    | (refine wpList_load28 rfl _ rfl _ rfl q _ _ (by exact HB6.out) HQA.out ?_)
    | (refine wpList_store28 rfl _ _ rfl _ rfl q (.slice a3 n3 k3) (.slice a5 n5 k5) rfl zeroPk (.slice none 0 0) (.slice none 0 0) (by exact HB7.out) HQA.out ⟨rfl, rfl⟩ rfl rfl ?_; refine Hid.out ?_))
  refine Lib.hid ?_
  intro w7 hb7 haw7
  have HB8 := Lib.hid hb7
  have HA8 : Hid (Away [] w w7) := HA7.out.next haw7 (fun x hx => .inr (by simp at hx; omega))
  have HM8 := Lib.hid (HM.out.away haw7 (fun k hk => by simpa using HV.out k hk))
  clear hb7 haw7
  go_wp2_with fail
  exact bodyPost_ret (result28 rfl _ _ _ _ _ _ rfl HB8.out HQA.out) rfl ⟨_, _, rfl, HM8.out, HA8.out⟩
end
theorem Ent.blk {w : World} {g : Nat} {s : Es} {fp : List Nat} (h : Ent w g s fp) : ∃ lp dv ov mp, w.heap[g]? = some (.cells (csE s lp dv ov mp) 101 (0, 0)) ∧ Ad s.k ∧ Ad s.f := by
  rcases h with ⟨⟨h1, h2, h3, h⟩, rfl⟩ | ⟨lb, lv, dv, ov, mb, mn, h, rfl, hn⟩
  · exact ⟨_, _, _, _, h, h1, by rw [h3]; exact ad_zero⟩
  · exact ⟨_, _, _, _, h.blk, h.kad, h.fad⟩
section
variable {w : World} {g : Nat} {s : Es} {fp : List Nat}
set_option maxHeartbeats 2000000 in
theorem bytes_c (h : Ent w g s fp) : Calls Tryz.prog 37 #[.pointer (some ⟨g, 0, none⟩)] w fun E w' => E = .returned (.int .i64 s.h) ∧ w' = w := by
  obtain ⟨lp, dv, ov, mp, hb, h1, h2⟩ := h.blk
  have c := (csE_mid h1 lp dv ov mp).2.2.2.2
  rw [← cell_of_block hb] at c
  clear h hb
  go_enter Tryz.func37, Tryz.ntmps37
  go_wp2_with fail
  go_ret
  exact ⟨rfl, rfl⟩
set_option maxHeartbeats 2000000 in
theorem isP_c (h : Ent w g s fp) : Calls Tryz.prog 40 #[.pointer (some ⟨g, 0, none⟩)] w fun E w' => E = .returned (.bool s.bad) ∧ w' = w := by
  obtain ⟨lp, dv, ov, mp, hb, h1, h2⟩ := h.blk
  have c := (csE_mid h1 lp dv ov mp).2.1
  rw [← cell_of_block hb] at c
  clear h hb
  go_enter Tryz.func40, Tryz.ntmps40
  go_wp2_with fail
  go_ret
  exact ⟨rfl, rfl⟩
set_option maxHeartbeats 2000000 in
theorem born_c (h : Ent w g s fp) : Calls Tryz.prog 58 #[.pointer (some ⟨g, 0, none⟩)] w fun E w' => E = .returned (.int .i64 s.tb) ∧ w' = w := by
  obtain ⟨lp, dv, ov, mp, hb, h1, h2⟩ := h.blk
  have c := (csE_mid h1 lp dv ov mp).1
  rw [← cell_of_block hb] at c
  clear h hb
  go_enter Tryz.func58, Tryz.ntmps58
  go_wp2_with fail
  go_ret
  exact ⟨rfl, rfl⟩
theorem wpList_load29m {ops : Array Oper} {rest : List Oper} {o : Oper} {a : Act} {w : World} {Q : Exit → Act → World → Prop} (hw : Region.wanted o (yielded ops a.tmps) = true) (x : Operand) (ho : o.op = .load 55 x)
    (g k : Nat) (hx : a.eval x = .pointer (some ⟨g, k, none⟩)) (p : Pk) (hc : w.rangeAt g k (listK p)) (ha : Ad p) (h : wpList Tryz.prog ops Q rest (a.put o.dst (.agg (csK p))) w) : wpList Tryz.prog ops Q (o :: rest) a w :=
  BigFrame.wpList_want hw fun K hK => wp_load_mid 55 x ho g k hx (listK p) _ hc Tryz.underlying55 rfl (by rw [listK_len ha]; exact info78) (hK _ _ h)
set_option maxHeartbeats 2000000 in
theorem ekey_c (h : Ent w g s fp) : Calls Tryz.prog 54 #[.pointer (some ⟨g, 0, none⟩)] w fun E w' => E = .returned (.agg (csK s.k)) ∧ Away [] w w' := by
  obtain ⟨lp, dv, ov, mp, hb, h1, h2⟩ := h.blk
  have HR := Lib.hid (csE_key hb)
  have HKA := Lib.hid h1
  clear h hb h1 h2
  go_enter Tryz.func54, Tryz.ntmps54
  go_wp2_with (refine wpList_alloc78 rfl rfl ?_; refine Hid.out ?_)
  refine Lib.hid ?_
  intro g2 w2 hg2 hb2 haw2
  have HB2 := Lib.hid hb2
  replace HR := Lib.hid (range_away haw2 (by simp) HR.out)
  have HA := Lib.hid haw2
  clear hb2 haw2
  go_wp2_with (first
    | (refine wpList_load29m rfl _ rfl g 0 rfl s.k (by exact HR.out) HKA.out ?_)
    | (refine wpList_store78 rfl _ _ rfl _ rfl s.k HKA.out rfl (by exact HB2.out) ?_; refine Hid.out ?_))
  refine Lib.hid ?_
  intro w3 hb3 haw3
  have HB3 := Lib.hid hb3
  have HA3 : Hid (Away [] w w3) := HA.out.next haw3 (fun x hx => .inr (by simp at hx; omega))
  clear hb3 haw3
  go_wp2_with fail
  exact bodyPost_ret (result78 rfl _ _ _ _ rfl HB3.out HKA.out) rfl ⟨rfl, HA3.out⟩
set_option maxHeartbeats 2000000 in
theorem eholes_c (h : Ent w g s fp) : Calls Tryz.prog 38 #[.pointer (some ⟨g, 0, none⟩)] w fun E w' => E = .returned (.int .i64 (holesN s)) ∧ Away [] w w' := by
  obtain ⟨lp, dv, ov, mp, hb, h1, h2⟩ := h.blk
  have c := (csE_mid h1 lp dv ov mp).2.1
  rw [← cell_of_block hb] at c
  clear hb
  rcases h with ⟨⟨-, h2, -, -⟩, -⟩ | ⟨lb, lv, dv, ov, mb, mn, h, -, -⟩
  · have HH : Hid (holesN s = 0) := by show _ = _; unfold holesN; rw [if_pos h2]
    rw [h2] at c
    clear h2
    go_enter Tryz.func38, Tryz.ntmps38
    go_wp2_with fail
    go_ret
    exact ⟨ret_int HH.out.symm, Away.refl _ _⟩
  · have HH : Hid (holesN s = s.m.length) := by show _ = _; unfold holesN; rw [if_neg (by rw [h.nb]; simp)]
    rw [h.nb] at c
    have c39 := h.cells.2.2.1
    have K := Lib.hid (H.holes_c h.hl)
    have HR := Lib.hid h.hl.right
    clear h
    go_enter Tryz.func38, Tryz.ntmps38
    go_wp2_with fail
    refine K.out.mono ?_
    rintro E w2 ⟨r, rfl, hmk⟩
    obtain ⟨a, cap, hr, -⟩ := hmk.1.row (by have := H.right_short HR.out; omega) (fun x hx => H.is_ok (H.right_is HR.out x hx))
    have HAW := Lib.hid hmk.2.2
    obtain ⟨n, hn⟩ : ∃ n, n = s.m.length := ⟨_, rfl⟩
    rw [← hn] at hr
    have HN := Lib.hid hn
    subst hr
    clear hmk hn
    go_wp2_with fail
    go_ret
    exact ⟨ret_int (by rw [HH.out, HN.out]), HAW.out⟩
def TellOut (w : World) (q : Pk × Bool) (E : Ending) (w' : World) : Prop := ∃ o d, E = .returned (.tuple #[.agg (csP q.1 o d), .bool q.2]) ∧ Mine w' w.heap.size q.1 o d ∧ Away [] w w'
theorem run_build36 (w : World) : (Instr.build 39 #[]).run Tryz.prog w = .ok (.agg (csP zeroPk (.slice none 0 0) (.slice none 0 0))) w := by kernel_rfl
theorem wpList_build36 {ops : Array Oper} {rest : List Oper} {o : Oper} {a : Act} {w : World} {Q : Exit → Act → World → Prop} (hg : o.guard = none) (ho : o.op = .build 39 #[])
    (h : wpList Tryz.prog ops Q rest (a.put o.dst (.agg (csP zeroPk (.slice none 0 0) (.slice none 0 0)))) w) : wpList Tryz.prog ops Q (o :: rest) a w := by
  refine wpList_plain hg fun K hK => ?_
  unfold Oper.wp execOp
  simp only [ho, List.map_toArray, List.map_nil, run_build36, Sem.run_bind, Result.andThen_ok, Sem.run_pure]
  exact hK _ _ h
theorem mine_zero (w : World) (B : Nat) : Mine w B zeroPk (.slice none 0 0) (.slice none 0 0) := ⟨Owns.nil _, Owns.nil _, New.nil _, New.nil _, by simp [Value.ownBlock]⟩
set_option maxHeartbeats 4000000 in
theorem first_none (h : Ent w g s fp) (h0 : s.fl = 0) : Calls Tryz.prog 59 #[.pointer (some ⟨g, 0, none⟩)] w (TellOut w (firstP s)) := by
  obtain ⟨lp, dv, ov, mp, hb, h1, h2⟩ := h.blk
  have c := (csE_end h1 h2 lp dv ov mp).1
  rw [← cell_of_block hb, h0] at c
  have HQ : Hid (firstP s = (zeroPk, false)) := by show _ = _; unfold firstP; rw [if_pos h0]
  clear h hb h1 h2 h0
  go_enter Tryz.func59, Tryz.ntmps59
  go_wp2_with (refine wpList_alloc28 rfl rfl ?_; refine Hid.out ?_)
  refine Lib.hid ?_
  intro g2 w2 hg2 hb2 haw2
  have HB2 := Lib.hid hb2
  have HA2 := Lib.hid haw2
  replace c := haw2.cell (by simp) c
  clear hb2 haw2
  go_wp2_with (first
    | (refine wpList_build36 rfl rfl ?_)
    | (refine wpList_store28 rfl _ _ rfl _ rfl zeroPk (.slice none 0 0) (.slice none 0 0) rfl zeroPk (.slice none 0 0) (.slice none 0 0) (by exact HB2.out) ⟨rfl, rfl⟩ ⟨rfl, rfl⟩ rfl rfl ?_; refine Hid.out ?_))
  refine Lib.hid ?_
  intro w3 hb3 haw3
  have HB3 := Lib.hid hb3
  have HA3 : Hid (Away [] w w3) := HA2.out.next haw3 (fun x hx => .inr (by simp at hx; omega))
  clear hb3 haw3
  go_wp2_with fail
  exact bodyPost_ret (result28t rfl _ _ _ _ _ _ _ rfl rfl HB3.out ⟨rfl, rfl⟩) rfl (by unfold TellOut; rw [HQ.out]; exact ⟨_, _, rfl, mine_zero _ _, HA3.out⟩)
set_option maxHeartbeats 4000000 in
theorem first_some {lb : Nat} {lv dv ov : Value} {mb mn : Nat} (h : EntG w g s lb lv dv ov mb mn) (h0 : s.fl ≠ 0) (hn : s.fl ≤ s.d.length) (hb : Bytes s.d) (hl : s.d.length ≤ 65535) (hob : Bytes s.f.o) (hol : s.f.o.length ≤ 40) :
    Calls Tryz.prog 59 #[.pointer (some ⟨g, 0, none⟩)] w (TellOut w (firstP s)) := by
  have c := h.cells.2.2.2.2.2.1
  have HQ : Hid (firstP s = (filledP s s.fl, true)) := by show _ = _; unfold firstP; rw [if_neg h0]
  have hne : ¬ ((s.fl : Int) = 0) := by omega
  have HE := Lib.hid h
  have HFA : Hid (Ad (filledP s s.fl)) := h.fad
  have KF : Hid (∀ W, Away [] w W → Calls Tryz.prog 70 #[.pointer (some ⟨g, 0, none⟩), .int .i64 s.fl] W (FillOut W (filledP s s.fl))) := fun W hW => filled_c (h.on hW) s.fl hn hb hl hob hol
  clear h hn hb hl hob hol h0
  generalize filledP s s.fl = q at *
  generalize (s.fl : Int) = fl at *
  go_enter Tryz.func59, Tryz.ntmps59
  go_wp2_with (refine wpList_alloc28 rfl rfl ?_; refine Hid.out ?_)
  refine Lib.hid ?_
  intro g2 w2 hg2 hb2 haw2
  have HB2 := Lib.hid hb2
  have HA2 := Lib.hid haw2
  replace c := haw2.cell (by simp) c
  have hl2 := hb2.lt
  have HSZ := Lib.hid haw2.size
  clear hb2 haw2
  have K1 := Lib.hid (KF.out w2 HA2.out)
  go_wp2_with fail
  refine K1.out.mono ?_
  rintro E w3 ⟨o, d, rfl, hm, haw3⟩
  have HM := Lib.hid hm
  have HO1 := Lib.hid hm.o.one
  have HD1 := Lib.hid hm.d.one
  replace HB2 := Lib.hid (HB2.out.on haw3)
  replace HA2 := Lib.hid (HA2.out.trans haw3)
  clear hm haw3
  go_wp2_with (refine wpList_store28 rfl _ _ rfl _ rfl q o d rfl zeroPk (.slice none 0 0) (.slice none 0 0) (by exact HB2.out) HFA.out ⟨rfl, rfl⟩ HO1.out HD1.out ?_; refine Hid.out ?_)
  refine Lib.hid ?_
  intro w4 hb4 haw4
  have HB4 := Lib.hid hb4
  have HA4 : Hid (Away [] w w4) := HA2.out.next haw4 (fun x hx => .inr (by simp at hx; omega))
  have HM4 : Hid (Mine w4 w.heap.size q o d) := (HM.out.mono HSZ.out).away haw4 (fun k hk => by have := HM.out.lto k hk; simp; omega)
  clear hb4 haw4
  go_wp2_with fail
  exact bodyPost_ret (result28t rfl _ _ _ _ _ _ _ rfl rfl HB4.out HFA.out) rfl (by unfold TellOut; rw [HQ.out]; exact ⟨_, _, rfl, HM4.out, HA4.out⟩)
end
section
variable {w : World} {g : Nat} {s : Es} {fp : List Nat}
set_option maxHeartbeats 4000000 in
theorem whole_bad (h : Ent w g s fp) (h0 : s.bad = true) : Calls Tryz.prog 52 #[.pointer (some ⟨g, 0, none⟩)] w (TellOut w (wholeP s)) := by
  obtain ⟨lp, dv, ov, mp, hb, h1, h2⟩ := h.blk
  have c := (csE_mid h1 lp dv ov mp).2.1
  rw [← cell_of_block hb, h0] at c
  have HQ : Hid (wholeP s = (zeroPk, false)) := by show _ = _; unfold wholeP; rw [if_pos (.inl h0)]
  clear h hb h1 h2 h0
  go_enter Tryz.func52, Tryz.ntmps52
  go_wp2_with (refine wpList_alloc28 rfl rfl ?_; refine Hid.out ?_)
  refine Lib.hid ?_
  intro g2 w2 hg2 hb2 haw2
  have HB2 := Lib.hid hb2
  have HA2 := Lib.hid haw2
  replace c := haw2.cell (by simp) c
  clear hb2 haw2
  go_wp2_with (first
    | (refine wpList_build36 rfl rfl ?_)
    | (refine wpList_store28 rfl _ _ rfl _ rfl zeroPk (.slice none 0 0) (.slice none 0 0) rfl zeroPk (.slice none 0 0) (.slice none 0 0) (by exact HB2.out) ⟨rfl, rfl⟩ ⟨rfl, rfl⟩ rfl rfl ?_; refine Hid.out ?_))
  refine Lib.hid ?_
  intro w3 hb3 haw3
  have HB3 := Lib.hid hb3
  have HA3 : Hid (Away [] w w3) := HA2.out.next haw3 (fun x hx => .inr (by simp at hx; omega))
  clear hb3 haw3
  go_wp2_with fail
  exact bodyPost_ret (result28t rfl _ _ _ _ _ _ _ rfl rfl HB3.out ⟨rfl, rfl⟩) rfl (by unfold TellOut; rw [HQ.out]; exact ⟨_, _, rfl, mine_zero _ _, HA3.out⟩)
set_option maxHeartbeats 4000000 in
theorem whole_none {lb : Nat} {lv dv ov : Value} {mb mn : Nat} (h : EntG w g s lb lv dv ov mb mn) (h0 : doneB s = false) : Calls Tryz.prog 52 #[.pointer (some ⟨g, 0, none⟩)] w (TellOut w (wholeP s)) := by
  have c := h.cells.2.1
  have c39 := h.cells.2.2.1
  rw [h.nb] at c
  have HQ : Hid (wholeP s = (zeroPk, false)) := by show _ = _; unfold wholeP; rw [if_pos (.inr h0)]
  have K : Hid (∀ W, Away [] w W → Calls Tryz.prog 69 #[.pointer (some ⟨lb, 0, none⟩)] W fun E w' => E = .returned (.bool false) ∧ w' = W) := fun W hW => by
    have := H.done_c (h.hl.on hW)
    rw [show H.doneP s.m s.e = false from h0] at this
    exact this
  clear h h0
  go_enter Tryz.func52, Tryz.ntmps52
  go_wp2_with (refine wpList_alloc28 rfl rfl ?_; refine Hid.out ?_)
  refine Lib.hid ?_
  intro g2 w2 hg2 hb2 haw2
  have HB2 := Lib.hid hb2
  have HA2 := Lib.hid haw2
  replace c := haw2.cell (by simp) c
  replace c39 := haw2.cell (by simp) c39
  have K2 := Lib.hid (K.out w2 haw2)
  clear hb2 haw2
  go_wp2_with fail
  refine K2.out.mono ?_
  rintro E w2 ⟨rfl, rfl⟩
  go_wp2_with (first
    | (refine wpList_build36 rfl rfl ?_)
    | (refine wpList_store28 rfl _ _ rfl _ rfl zeroPk (.slice none 0 0) (.slice none 0 0) rfl zeroPk (.slice none 0 0) (.slice none 0 0) (by exact HB2.out) ⟨rfl, rfl⟩ ⟨rfl, rfl⟩ rfl rfl ?_; refine Hid.out ?_))
  refine Lib.hid ?_
  intro w3 hb3 haw3
  have HB3 := Lib.hid hb3
  have HA3 : Hid (Away [] w w3) := HA2.out.next haw3 (fun x hx => .inr (by simp at hx; omega))
  clear hb3 haw3
  go_wp2_with fail
  exact bodyPost_ret (result28t rfl _ _ _ _ _ _ _ rfl rfl HB3.out ⟨rfl, rfl⟩) rfl (by unfold TellOut; rw [HQ.out]; exact ⟨_, _, rfl, mine_zero _ _, HA3.out⟩)
set_option maxHeartbeats 8000000 in
theorem whole_some {lb : Nat} {lv dv ov : Value} {mb mn : Nat} (h : EntG w g s lb lv dv ov mb mn) (h0 : doneB s = true) (he : 0 ≤ s.e) (hn : s.e ≤ s.d.length) (hb : Bytes s.d) (hl : s.d.length ≤ 65535) (hob : Bytes s.f.o) (hol : s.f.o.length ≤ 40) :
    Calls Tryz.prog 52 #[.pointer (some ⟨g, 0, none⟩)] w (TellOut w (wholeP s)) := by
  have c := h.cells.2.1
  have c39 := h.cells.2.2.1
  rw [h.nb] at c
  have HQ : Hid (wholeP s = ({ filledP s s.e.toNat with more := false, frag := if s.f.v = 6 then false else s.f.frag, id := if s.f.v = 6 then 0 else s.f.id }, true)) := by
    show _ = _; unfold wholeP; rw [if_neg (by rw [h.nb, h0]; simp)]
  have K : Hid (∀ W, Away [] w W → Calls Tryz.prog 69 #[.pointer (some ⟨lb, 0, none⟩)] W fun E w' => E = .returned (.bool true) ∧ w' = W) := fun W hW => by
    have := H.done_c (h.hl.on hW)
    rw [show H.doneP s.m s.e = true from h0] at this
    exact this
  have KE : Hid (∀ W, Away [] w W → Calls Tryz.prog 71 #[.pointer (some ⟨lb, 0, none⟩)] W fun E w' => E = .returned (.int .i64 s.e) ∧ w' = W) := fun W hW => H.end_c (h.hl.on hW)
  have KF : Hid (∀ W, Away [] w W → Calls Tryz.prog 70 #[.pointer (some ⟨g, 0, none⟩), .int .i64 s.e] W (FillOut W (filledP s s.e.toNat))) := fun W hW => by
    have := filled_c (h.on hW) s.e.toNat (by omega) hb hl hob hol
    rwa [show ((s.e.toNat : Nat) : Int) = s.e from by omega] at this
  have HFA : Hid (Ad (filledP s s.e.toNat)) := h.fad
  have HV : Hid (s.f.v = (filledP s s.e.toNat).v ∧ s.f.frag = (filledP s s.e.toNat).frag ∧ s.f.id = (filledP s s.e.toNat).id) := ⟨rfl, rfl, rfl⟩
  generalize filledP s s.e.toNat = q at *
  rw [HV.out.1, HV.out.2.1, HV.out.2.2] at HQ
  generalize s.e = e at *
  clear h h0 hn hb hl hob hol HV he
  go_enter Tryz.func52, Tryz.ntmps52
  go_wp2_with (refine wpList_alloc28 rfl rfl ?_; refine Hid.out ?_)
  refine Lib.hid ?_
  intro g2 w2 hg2 hb2 haw2
  have HB2 := Lib.hid hb2
  have HA2 := Lib.hid haw2
  have hl2 := hb2.lt
  replace c := haw2.cell (by simp) c
  replace c39 := haw2.cell (by simp) c39
  have HSZ := Lib.hid haw2.size
  have K2 := Lib.hid (K.out w2 haw2)
  have K3 := Lib.hid (KE.out w2 haw2)
  have K4 := Lib.hid (KF.out w2 haw2)
  clear hb2 haw2 K KE KF
  go_wp2_with fail
  refine K2.out.mono ?_
  rintro E w2 ⟨rfl, rfl⟩
  go_wp2_with fail
  refine K3.out.mono ?_
  rintro E w2 ⟨rfl, rfl⟩
  go_wp2_with fail
  refine K4.out.mono ?_
  rintro E w3 ⟨o, d, rfl, hm, haw3⟩
  have HM := Lib.hid hm
  have HO1 := Lib.hid hm.o.one
  have HD1 := Lib.hid hm.d.one
  replace HB2 := Lib.hid (HB2.out.on haw3)
  replace HA2 := Lib.hid (HA2.out.trans haw3)
  have hs3 := haw3.size
  clear hm haw3
  go_wp2_with (refine wpList_new28 rfl rfl rfl _ _ rfl q o d (fun g => rfl) (fun g => rfl) HFA.out HO1.out HD1.out ?_; refine Hid.out ?_)
  refine Lib.hid ?_
  intro g4 w4 hg4 hb4 haw4
  have HB4 := Lib.hid hb4
  replace HB2 := Lib.hid (HB2.out.on haw4)
  replace HA2 := Lib.hid (HA2.out.trans haw4)
  have HM0 := HM
  replace HM := Lib.hid (HM.out.on haw4)
  have HMK : Hid (∀ k, o.ownBlock = some k ∨ d.ownBlock = some k → k ≠ g4) := fun k hk => by
    have h1 := (HM0.out.lto k hk).1; omega
  have hs4 := haw4.size
  have hl4 := hb4.lt
  clear hb4 haw4
  have c41 := (HB4.out.cells HFA.out).more
  have f41 := HB4.out.free 41
  have f42 := HB4.out.free 42
  have f39 := HB4.out.free 39
  have c0 := (HB4.out.cells HFA.out).v
  have c42 := (HB4.out.cells HFA.out).frag
  have c39i := (HB4.out.cells HFA.out).id
  have HP1 := Lib.hid (HB4.out.put 41 (.bool false) ((csP_set HFA.out o d).2.2.2.2.2.2.2.2.2.1 false))
  have HAP := Lib.hid (away_put (w := w4) (g := g4) 41 (.bool false))
  by_cases h6 : q.v = 6
  · have HQ6 : Hid (wholeP s = ({ q with more := false, frag := false, id := 0 }, true)) := by show _ = _; rw [HQ.out, if_pos h6, if_pos h6]
    rw [h6] at c0
    have HP2 := Lib.hid (HP1.out.put 42 (.bool false) ((csP_set (p := { q with more := false }) HFA.out o d).2.2.2.2.2.2.2.2.2.2.1 false))
    have HAP2 := Lib.hid (away_put (w := w4.setCell ⟨g4, 41, none⟩ (.bool false)) (g := g4) 42 (.bool false))
    have HP3 := Lib.hid (HP2.out.put 39 (.int .u32 0) ((csP_set (p := { q with more := false, frag := false }) HFA.out o d).2.2.2.2.2.2.2.1 0))
    have HAP3 := Lib.hid (away_put (w := (w4.setCell ⟨g4, 41, none⟩ (.bool false)).setCell ⟨g4, 42, none⟩ (.bool false)) (g := g4) 39 (.int .u32 0))
    have HAA : Hid (Away [g4] w4 (((w4.setCell ⟨g4, 41, none⟩ (.bool false)).setCell ⟨g4, 42, none⟩ (.bool false)).setCell ⟨g4, 39, none⟩ (.int .u32 0))) := (HAP.out.trans HAP2.out).trans HAP3.out
    clear h6 HQ HP1 HP2 HAP HAP2 HAP3
    go_wp2_with (refine wpList_load28 rfl _ rfl _ rfl _ o d (by exact HP3.out) (by exact HFA.out) ?_; refine Hid.out ?_)
    refine Lib.hid ?_
    generalize ((w4.setCell ⟨g4, 41, none⟩ (.bool false)).setCell ⟨g4, 42, none⟩ (.bool false)).setCell ⟨g4, 39, none⟩ (.int .u32 0) = w8 at *
    replace HB2 := Lib.hid (HB2.out.away HAA.out (by simp; omega))
    replace HA2 : Hid (Away [] w w8) := HA2.out.next HAA.out (fun x hx => .inr (by simp at hx; have := HSZ.out; omega))
    replace HM := Lib.hid (HM.out.away HAA.out (fun k hk => by have := HMK.out k hk; simp; omega))
    have HMG : Hid (∀ k, o.ownBlock = some k ∨ d.ownBlock = some k → k ≠ g2) := fun k hk => by have := (HM0.out.lto k hk).2; omega
    go_wp2_with (refine wpList_store28 rfl _ _ rfl _ rfl _ o d rfl zeroPk (.slice none 0 0) (.slice none 0 0) (by exact HB2.out) (by exact HFA.out) ⟨rfl, rfl⟩ HO1.out HD1.out ?_; refine Hid.out ?_)
    refine Lib.hid ?_
    intro w9 hb9 haw9
    have HB9 := Lib.hid hb9
    have HA9 : Hid (Away [] w w9) := HA2.out.next haw9 (fun x hx => .inr (by simp at hx; have := HSZ.out; omega))
    replace HM := Lib.hid (HM.out.away haw9 (fun k hk => by have := HMG.out k hk; simp; omega))
    clear hb9 haw9
    go_wp2_with fail
    exact bodyPost_ret (result28t rfl _ _ _ _ _ _ _ rfl rfl HB9.out HFA.out) rfl (by unfold TellOut; rw [HQ6.out]; exact ⟨_, _, rfl, ⟨HM.out.o, HM.out.d, HM.out.no.mono HSZ.out, HM.out.nd.mono HSZ.out, HM.out.ap⟩, HA9.out⟩)
  · have HQ6 : Hid (wholeP s = ({ q with more := false }, true)) := by show _ = _; rw [HQ.out, if_neg h6, if_neg h6]
    have hv6 : (q.v == 6) = false := by simpa using h6
    clear HQ
    go_wp2_with (refine wpList_load28 rfl _ rfl _ rfl _ o d (by exact HP1.out) (by exact HFA.out) ?_; refine Hid.out ?_)
    refine Lib.hid ?_
    have HAA := HAP
    have HP3 := HP1
    clear HP1 HAP
    generalize w4.setCell ⟨g4, 41, none⟩ (.bool false) = w8 at *
    replace HB2 := Lib.hid (HB2.out.away HAA.out (by simp; omega))
    replace HA2 : Hid (Away [] w w8) := HA2.out.next HAA.out (fun x hx => .inr (by simp at hx; have := HSZ.out; omega))
    replace HM := Lib.hid (HM.out.away HAA.out (fun k hk => by have := HMK.out k hk; simp; omega))
    have HMG : Hid (∀ k, o.ownBlock = some k ∨ d.ownBlock = some k → k ≠ g2) := fun k hk => by have := (HM0.out.lto k hk).2; omega
    go_wp2_with (refine wpList_store28 rfl _ _ rfl _ rfl _ o d rfl zeroPk (.slice none 0 0) (.slice none 0 0) (by exact HB2.out) (by exact HFA.out) ⟨rfl, rfl⟩ HO1.out HD1.out ?_; refine Hid.out ?_)
    refine Lib.hid ?_
    intro w9 hb9 haw9
    have HB9 := Lib.hid hb9
    have HA9 : Hid (Away [] w w9) := HA2.out.next haw9 (fun x hx => .inr (by simp at hx; have := HSZ.out; omega))
    replace HM := Lib.hid (HM.out.away haw9 (fun k hk => by have := HMG.out k hk; simp; omega))
    clear hb9 haw9
    go_wp2_with fail
    exact bodyPost_ret (result28t rfl _ _ _ _ _ _ _ rfl rfl HB9.out HFA.out) rfl (by unfold TellOut; rw [HQ6.out]; exact ⟨_, _, rfl, ⟨HM.out.o, HM.out.d, HM.out.no.mono HSZ.out, HM.out.nd.mono HSZ.out, HM.out.ap⟩, HA9.out⟩)
end
end Go.Proofs.YtkccpidgeecemaaGreatDoor
