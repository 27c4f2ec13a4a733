/-
  TableApart.
-/
import Derived.Test.YtkccpidgeecemaaGreatDoorTwA
import Derived.Test.YtkccpidgeecemaaGreatDoorTbD
import Derived.Test.YtkccpidgeecemaaGreatDoorFse15
import Derived.Test.YtkccpidgeecemaaGreatDoorKitA
import Derived.Deep.CutBlock
import Derived.Deep.DeepCutAuto
namespace Go.Proofs.YtkccpidgeecemaaGreatDoor
open Go.ChangeShapes Go.WideShapes Go.ChangeAt Go.RowKit Go.Deep Num
open S6 (wp_region_cls quiet_val quiet_call quiet_ld ld3 ld4 ld5 ld25 ld26 load28_run load24m_run)
set_option linter.unusedVariables false
set_option linter.unusedSimpArgs false
set_option maxHeartbeats 16000000
set_option maxRecDepth 100000

namespace tableApart
theorem mod_u (n : Int) (m : Nat) (hm : 0 < m) (h0 : 0 ≤ n) : ∃ a : Nat, a < m ∧ n.tmod m = (a : Int) := by
  rw [Int.tmod_eq_emod_of_nonneg h0]
  have h1 := Int.emod_nonneg n (show (m : Int) ≠ 0 by omega)
  have h2 := Int.emod_lt_of_pos n (show (0 : Int) < m by omega)
  exact ⟨(n % m).toNat, by omega, by omega⟩
theorem wrap_small (z : Int) (h0 : -1000000 ≤ z) (h1 : z ≤ 1000000) : wrap64 z = z := by unfold wrap64; omega
theorem ld42 {w : World} {ad : Addr} {a : Option Addr} {n c : Nat} (h : w.cell? ad = some (.slice a n c)) : (Instr.loadAt 42 (.pointer (some ad))).run Tryz.prog w = .ok (.slice a n c) w := by
  simp [go_sem, Instr.loadAt, Instr.sureAddr, h]
theorem ld27 {w : World} {ad : Addr} {a : Option Addr} (h : w.cell? ad = some (.pointer a)) : (Instr.loadAt 27 (.pointer (some ad))).run Tryz.prog w = .ok (.pointer a) w := by
  simp [go_sem, Instr.loadAt, Instr.sureAddr, h]
theorem walk (p0 : Pk) (pov pdv : Value) (q0 : Pk) (qov qdv : Value) (a2 : Option Addr) (n2 c2 : Nat) (a3 : Option Addr) (n3 c3 : Nat) (a4 : Option Addr) (n4 c4 : Nat) (w : World) (hg : Glob w) (hp : Pkt w p0 pov pdv) (hpl1 : p0.o.length ≤ 140737488351232) (hpl2 : p0.d.length ≤ 140737488351232)
    (hq : Pkt w q0 qov qdv) (hql1 : q0.o.length ≤ 140737488351232) (hql2 : q0.d.length ≤ 140737488351232) (h2 : Ints w a2 n2) (l2 : n2 ≤ 140737488355328) (h3 : Ints w a3 n3) (l3 : n3 ≤ 140737488355328) (h4 : Ints w a4 n4) (l4 : n4 ≤ 140737488355328) :
    Calls Tryz.prog 6 #[.agg (csP p0 pov pdv), .agg (csP q0 qov qdv), .slice a2 n2 c2, .slice a3 n3 c3, .slice a4 n4 c4] w fun E w' => E = .returned (.bool true) ∧ Below w.heap.size w w' := by
  have HAP : Hid (Ad p0) := hp.wf.ad
  have HAQ : Hid (Ad q0) := hq.wf.ad
  have HG := Lib.hid hg; have HP := Lib.hid hp; have HQ := Lib.hid hq; have H2 := Lib.hid h2; have H3 := Lib.hid h3; have H4 := Lib.hid h4
  clear hg hp hq h2 h3 h4 hpl1 hpl2 hql1 hql2
  go_enter Tryz.func6, Tryz.ntmps6
  go_wp2_with (refine wpList_box28 rfl _ rfl p0 pov pdv rfl ?_; refine Hid.out ?_)
  refine Lib.hid ?_
  intro g5 w1 hg_g5 hb haw
  have HA := Lib.hid haw
  have HLg5 : Hid (w.heap.size ≤ g5) := hg_g5
  have HB5 := Lib.hid hb
  clear hb haw hg_g5
  go_wp2_with (refine wpList_box28 rfl _ rfl q0 qov qdv rfl ?_; refine Hid.out ?_)
  refine Lib.hid ?_
  intro g6 w2 hg_g6 hb haw
  have HLg6 : Hid (w.heap.size ≤ g6) := Nat.le_trans HA.out.size hg_g6
  have HN56 : Hid (g5 ≠ g6) := by have := HB5.out.lt; show _ ≠ _; omega
  replace HA := Lib.hid (HA.out.trans haw)
  replace HB5 := Lib.hid (HB5.out.on haw)
  have HB6 := Lib.hid hb
  clear hb haw hg_g6
  go_wp2_with fail
  refine (alive_c _ (HG.out.on HA.out)).mono ?_
  rintro E w3 ⟨rfl, haw⟩
  replace HA := Lib.hid (HA.out.trans haw)
  replace HB5 := Lib.hid (HB5.out.on haw)
  replace HB6 := Lib.hid (HB6.out.on haw)
  clear haw
  have hB_w4 : g5 < _ ∧ g6 < _ := ⟨HB5.out.lt, HB6.out.lt⟩
  have hS_w4 := HA.out.size
  have HLOP := Lib.hid hS_w4
  have hG_w4 := HB5.out.lt
  go_wp2_with (refine wpList_load28 rfl _ rfl g5 rfl p0 _ _ (by exact HB5.out) HAP.out ?_)
  refine (whole_e _ p0 _ _ (HP.out.on HA.out)).mono ?_
  rintro E w4 ⟨p, pd, rfl, r1, r2, r3, r4, r5, r6, r7, r8, r9, hmi, haw⟩
  replace HA := Lib.hid (HA.out.trans haw)
  replace HB5 := Lib.hid (HB5.out.on haw)
  replace HB6 := Lib.hid (HB6.out.on haw)
  have HWP : Hid (Whl p) := ⟨r1, r3, r4, r5, r6, r7, r8, r9⟩
  have HFP := Lib.hid r2
  have HMP := Lib.hid hmi
  have HDP : Hid (pd.oneCell' = true) := hmi.d.one
  have HOP : Hid (∀ z, pd.ownBlock = some z → w.heap.size ≤ z ∧ z ≠ g5 ∧ z ≠ g6) := fun z hz => by have h1 := hmi.nd z hz; have h2 := HB5.out.lt; have h3 := HB6.out.lt; have h4 := hB_w4; exact ⟨by omega, by omega, by omega⟩
  clear r1 r2 r3 r4 r5 r6 r7 r8 r9 hmi haw
  go_wp2_with (refine wpList_store28 rfl _ _ rfl g5 rfl p _ _ rfl p0 _ _ (by exact HB5.out) HFP.out.ad HAP.out rfl HDP.out ?_; refine Hid.out ?_)
  refine Lib.hid ?_
  intro w5 hb haw
  replace HB5 := Lib.hid hb
  replace HB6 := Lib.hid (HB6.out.away haw (by simp; exact fun e => HN56.out e.symm))
  replace HMP := Lib.hid (HMP.out.away haw (fun z hz => by rcases hz with hz | hz; (simp [Value.ownBlock] at hz); (have h1 := HOP.out z hz; simp; omega)))
  replace HA := Lib.hid (HA.out.next haw (fun z hz => .inr (by simp at hz; rw [hz]; exact HLg5.out)))
  clear hb haw
  clear hS_w4 hG_w4 hB_w4
  have hB_w6 : g5 < _ ∧ g6 < _ := ⟨HB5.out.lt, HB6.out.lt⟩
  have hS_w6 := HA.out.size
  have HLOQ := Lib.hid hS_w6
  have hG_w6 := HB6.out.lt
  go_wp2_with (refine wpList_load28 rfl _ rfl g6 rfl q0 _ _ (by exact HB6.out) HAQ.out ?_)
  refine (whole_e _ q0 _ _ (HQ.out.on HA.out)).mono ?_
  rintro E w6 ⟨q, qd, rfl, r1, r2, r3, r4, r5, r6, r7, r8, r9, hmi, haw⟩
  replace HA := Lib.hid (HA.out.trans haw)
  replace HB5 := Lib.hid (HB5.out.on haw)
  replace HB6 := Lib.hid (HB6.out.on haw)
  replace HMP := Lib.hid (HMP.out.on haw)
  have HWQ : Hid (Whl q) := ⟨r1, r3, r4, r5, r6, r7, r8, r9⟩
  have HFQ := Lib.hid r2
  have HMQ := Lib.hid hmi
  have HDQ : Hid (qd.oneCell' = true) := hmi.d.one
  have HOQ : Hid (∀ z, qd.ownBlock = some z → w.heap.size ≤ z ∧ z ≠ g5 ∧ z ≠ g6) := fun z hz => by have h1 := hmi.nd z hz; have h2 := HB5.out.lt; have h3 := HB6.out.lt; have h4 := hB_w6; exact ⟨by omega, by omega, by omega⟩
  clear r1 r2 r3 r4 r5 r6 r7 r8 r9 hmi haw
  go_wp2_with (refine wpList_store28 rfl _ _ rfl g6 rfl q _ _ rfl q0 _ _ (by exact HB6.out) HFQ.out.ad HAQ.out rfl HDQ.out ?_; refine Hid.out ?_)
  refine Lib.hid ?_
  intro w7 hb haw
  replace HB6 := Lib.hid hb
  replace HB5 := Lib.hid (HB5.out.away haw (by simp; exact fun e => HN56.out e))
  replace HMP := Lib.hid (HMP.out.away haw (fun z hz => by rcases hz with hz | hz; (simp [Value.ownBlock] at hz); (have h1 := HOP.out z hz; simp; omega)))
  replace HMQ := Lib.hid (HMQ.out.away haw (fun z hz => by rcases hz with hz | hz; (simp [Value.ownBlock] at hz); (have h1 := HOQ.out z hz; simp; omega)))
  replace HA := Lib.hid (HA.out.next haw (fun z hz => .inr (by simp at hz; rw [hz]; exact HLg6.out)))
  clear hb haw
  clear hS_w6 hG_w6 hB_w6
  clear HP HQ HAP HAQ
  have HAP : Hid (Ad p) := HFP.out.ad
  have HAQ : Hid (Ad q) := HFQ.out.ad
  go_upto_region 6 with fail
  go_cut [44] (fun v wc => ∃ bb, v = .bool bb ∧ (bb = true ↔ (p.v = 4 ∧ kyB p q = true)) ∧ Away [] w7 wc)
  case first =>
    as_aux_lemma =>
    have CV : Hid (w7.cell? ⟨g5, 0, none⟩ = some (.int .i64 p.v)) := (HB5.out.cells HAP.out).v
    have HC : Hid (Away [] w7 w7.drew) := (Away.refl _ _).drew
    have KP : Hid (∀ W, Away [] w7 W → Calls Tryz.prog 18 #[.agg (csP p (.slice none 0 0) pd)] W fun E w'' => E = .returned (.agg (csK p)) ∧ Away [] w7 w'') := fun W hW => (lkey_c p _ pd W HAP.out).mono (fun E w'' h => ⟨h.1, hW.trans h.2⟩)
    have KQ : Hid (∀ W, Away [] w7 W → Calls Tryz.prog 18 #[.agg (csP q (.slice none 0 0) qd)] W fun E w'' => E = .returned (.agg (csK q)) ∧ Away [] w7 w'') := fun W hW => (lkey_c q _ qd W HAQ.out).mono (fun E w'' h => ⟨h.1, hW.trans h.2⟩)
    have HQK : Hid (∀ w, (Op.equalIn 10000 55 (.agg (csK p)) (.agg (csK q))).run Tryz.prog w = .ok (kyB p q) w) := fun w => by have h := eq78 p q HAP.out HAQ.out w; rw [key_ky] at h; exact h
    obtain ⟨pv, hpv⟩ : ∃ pv, pv = p.v := ⟨_, rfl⟩
    rw [← hpv] at CV
    obtain ⟨kb, hkb⟩ : ∃ kb, kb = kyB p q := ⟨_, rfl⟩
    rw [← hkb] at HQK
    have HPV := Lib.hid hpv
    have HKB := Lib.hid hkb
    clear hpv hkb
    by_cases hv : pv = 4
    · subst hv
      go_wp2_with fail
      refine wp_region_cls (C := fun w' => Away [] w7 w') (by kernel_rfl) (by kernel_rfl) HC.out ?_
      go_big_quiet_want; (refine quiet_val ?_ ?_ ?_; rotate_left; (intro w; go_simp; rfl); go_simp; go_big_quiet_on)
      go_big_quiet_want; refine quiet_ld _ rfl (ad := ⟨g5, 0, none⟩) rfl (fun w' h => ld3 (h.cell (by simp) CV.out)) ?_; go_simp; go_big_quiet_on
      go_big_quiet_want; (refine quiet_val ?_ ?_ ?_; rotate_left; (intro w; go_simp; rfl); go_simp; go_big_quiet_on)
      go_big_quiet_want; (refine quiet_val ?_ ?_ ?_; rotate_left; (intro w; go_simp; rfl); go_simp; go_big_quiet_on)
      go_big_quiet_want; refine quiet_ld _ rfl (ad := ⟨g5, 0, none⟩) rfl (fun w' h => load28_run (HB5.out.on h) HAP.out) ?_; go_simp; go_big_quiet_on
      go_big_quiet_want; refine quiet_call 18 #[.agg (csP p (.slice none 0 0) pd)] (.agg (csK p)) ?_ KP.out ?_
      focus (intro w; go_simp; done)
      go_simp; go_big_quiet_on
      go_big_quiet_want; refine quiet_ld _ rfl (ad := ⟨g6, 0, none⟩) rfl (fun w' h => load28_run (HB6.out.on h) HAQ.out) ?_; go_simp; go_big_quiet_on
      go_big_quiet_want; refine quiet_call 18 #[.agg (csP q (.slice none 0 0) qd)] (.agg (csK q)) ?_ KQ.out ?_
      focus (intro w; go_simp; done)
      go_simp; go_big_quiet_on
      go_big_quiet_want; refine quiet_eq78 _ _ rfl (csK p) (csK q) rfl rfl _ HQK.out ?_; go_simp; go_big_quiet_on
      go_big_quiet_want; (refine quiet_val ?_ ?_ ?_; rotate_left; (intro w; go_simp; rfl); go_simp; go_big_quiet_on)
      refine wpQuiet_nil ?_
      intro V hV
      go_wp2_with fail
      go_meet
      exact ⟨kb, rfl, by rw [← HPV.out, ← HKB.out]; simp, hV⟩
    · have hvb : (pv == 4) = false := by simpa using hv
      go_wp2_with fail
      refine wp_region_cls (C := fun w' => Away [] w7 w') (by kernel_rfl) (by kernel_rfl) HC.out ?_
      go_big_quiet_want; (refine quiet_val ?_ ?_ ?_; rotate_left; (intro w; go_simp; rfl); go_simp; go_big_quiet_on)
      go_big_quiet_want; refine quiet_ld _ rfl (ad := ⟨g5, 0, none⟩) rfl (fun w' h => ld3 (h.cell (by simp) CV.out)) ?_; go_simp; go_big_quiet_on
      go_big_quiet_want; (refine quiet_val ?_ ?_ ?_; rotate_left; (intro w; go_simp; rfl); go_simp; go_big_quiet_on)
      go_big_quiet_want; (refine quiet_val ?_ ?_ ?_; rotate_left; (intro w; go_simp; rfl); go_simp; go_big_quiet_on)
      go_big_quiet_skip
      go_big_quiet_skip
      go_big_quiet_skip
      go_big_quiet_skip
      go_big_quiet_skip
      go_big_quiet_want; (refine quiet_val ?_ ?_ ?_; rotate_left; (intro w; go_simp; rfl); go_simp; go_big_quiet_on)
      refine wpQuiet_nil ?_
      intro V hV
      go_wp2_with fail
      go_meet
      exact ⟨false, rfl, by rw [← HPV.out]; simp [hv], hV⟩
  case rest =>
  obtain ⟨bb, rfl, hbb, haw⟩ := hcut
  generalize wc = w8 at *
  replace HA := Lib.hid (HA.out.trans haw)
  replace HB5 := Lib.hid (HB5.out.on haw)
  replace HB6 := Lib.hid (HB6.out.on haw)
  replace HMP := Lib.hid (HMP.out.on haw)
  replace HMQ := Lib.hid (HMQ.out.on haw)
  have HBB := Lib.hid hbb
  clear hbb haw
  go_upto_if 44 with fail
  go_cut [5] (fun v wc => v = .pointer (some ⟨g5, 0, none⟩) ∧ ∃ y, Whl y ∧ Wf y ∧ (p.v = 4 → kyB p y = false) ∧ BoxP wc g5 p (.slice none 0 0) pd ∧ BoxP wc g6 y (.slice none 0 0) qd ∧ Mine wc w.heap.size p (.slice none 0 0) pd ∧ Mine wc w.heap.size y (.slice none 0 0) qd ∧ Away [] w wc)
  case first =>
    as_aux_lemma =>
    cases bb with
    | false =>
      go_wp2_with fail
      go_meet
      exact ⟨rfl, q, HWQ.out, HFQ.out, fun h => by cases hk : kyB p q with | false => rfl | true => exact absurd (HBB.out.2 ⟨h, hk⟩) (by simp), HB5.out, HB6.out, HMP.out.mono HLOP.out, HMQ.out.mono HLOQ.out, HA.out⟩
    | true =>
      obtain ⟨hv, hk⟩ := HBB.out.1 rfl
      obtain ⟨hqv, hqi⟩ := ky_ids hk
      have HQV : Hid (q.v = 4) := hqv.symm.trans hv
      have HI0 : Hid (0 ≤ q.id) := HFQ.out.id0
      have HI1 : Hid (q.id ≤ 65535) := HWQ.out.id4 HQV.out
      have CI : Hid (w8.cell? ⟨g6, 39, none⟩ = some (.int .u32 q.id)) := (HB6.out.cells HAQ.out).id
      have ci := CI.out
      have e1 : IntKind.u32.wrap (q.id + 1) = q.id + 1 := by have h1 := HI0.out; have h2 := HI1.out; rw [IntKind.wrap_u32]; omega
      have e2 : (q.id + 1).tmod 65536 = (q.id + 1) % 65536 := by have h1 := HI0.out; exact Int.tmod_eq_emod_of_nonneg (by omega)
      have e3 : IntKind.u32.wrap ((q.id + 1) % 65536) = (q.id + 1) % 65536 := by rw [IntKind.wrap_u32]; omega
      skip
      go_wp2_with (refine wpList_putF rfl 36 _ _ rfl g6 39 rfl (.int .u32 ((q.id + 1) % 65536)) (by simp [go_sem, e1, e2, e3]) (fun u h1 h2 => put25 _ _ _ u h1 h2) q { q with id := (q.id + 1) % 65536 } _ _ _ _ (by exact HB6.out) HAQ.out (by omega) (by exact (csP_set (p := q) HAQ.out _ _).2.2.2.2.2.2.2.1 _) ?_; refine Hid.out ?_)
      refine Lib.hid ?_
      intro w9 hb haw
      have HMP9 := Lib.hid (HMP.out.away haw (fun z hz => by rcases hz with hz | hz; (simp [Value.ownBlock] at hz); (have h1 := HOP.out z hz; simp; omega)))
      have HMQ9 := Lib.hid (HMQ.out.away haw (fun z hz => by rcases hz with hz | hz; (simp [Value.ownBlock] at hz); (have h1 := HOQ.out z hz; simp; omega)))
      have HB59 := Lib.hid (HB5.out.away haw (by simp; exact fun e => HN56.out e))
      have HB69 := Lib.hid hb
      have HA9 : Hid (Away [] w w9) := HA.out.next haw (fun z hz => .inr (by simp at hz; rw [hz]; exact HLg6.out))
      clear hb haw ci
      go_wp2_with fail
      go_meet
      exact ⟨rfl, { q with id := (q.id + 1) % 65536 }, whl_id HWQ.out HQV.out (by omega), ⟨HFQ.out.v, HFQ.out.tos, HFQ.out.flow, HFQ.out.sv, HFQ.out.sl, HFQ.out.sb, HFQ.out.dv, HFQ.out.dl, HFQ.out.db, HFQ.out.proto, HFQ.out.ttl, by show 0 ≤ (q.id + 1) % 65536; omega, by show (q.id + 1) % 65536 ≤ _; omega, HFQ.out.off, HFQ.out.o, HFQ.out.ol, HFQ.out.d, HFQ.out.dn⟩, fun _ => ky_id (by have h1 := HI0.out; have h2 := HI1.out; omega), HB59.out, HB69.out, HMP9.out.mono HLOP.out, (show Mine w9 _ { q with id := (q.id + 1) % 65536 } _ _ from ⟨HMQ9.out.o, HMQ9.out.d, HMQ9.out.no, HMQ9.out.nd, HMQ9.out.ap⟩).mono HLOQ.out, HA9.out⟩
  case rest =>
  obtain ⟨rfl, y, hwy, hfy, hky, hb5, hb6, hmp, hmy, haw⟩ := hcut
  generalize wc = w9 at *
  have HWY := Lib.hid hwy
  have HFY := Lib.hid hfy
  have HKY := Lib.hid hky
  replace HB5 := Lib.hid hb5
  replace HB6 := Lib.hid hb6
  replace HMP := Lib.hid hmp
  have HMY := Lib.hid hmy
  replace HA := Lib.hid haw
  clear hwy hfy hky hb5 hb6 hmp hmy haw HMQ HWQ HFQ HBB
  go_upto_region 9 with fail
  have HC12 : Hid ((w9.alloc (.cells #[.slice none 0 0, .slice none 0 0] 71)).heap[w9.heap.size]? = some (.cells #[.slice none 0 0, .slice none 0 0] 71 (0, 0))) := block_new _ _
  have haw : Away [] w9 (w9.alloc (.cells #[.slice none 0 0, .slice none 0 0] 71)) := (Away.refl _ _).alloc _
  obtain ⟨g12, hg12⟩ : ∃ z, z = w9.heap.size := ⟨_, rfl⟩
  obtain ⟨w10, hw10⟩ : ∃ z, z = w9.alloc (.cells #[.slice none 0 0, .slice none 0 0] 71) := ⟨_, rfl⟩
  rw [← hg12, ← hw10] at HC12 ⊢
  rw [← hw10] at haw
  have HLTg12 : Hid (w9.heap.size ≤ g12) := Nat.le_of_eq hg12.symm
  have HLg12 : Hid (w.heap.size ≤ g12) := Nat.le_trans HA.out.size HLTg12.out
  have HN12 : Hid (g12 ≠ g5 ∧ g12 ≠ g6) := by have h1 := HB5.out.lt; have h2 := HB6.out.lt; have h3 := HLTg12.out; exact ⟨by omega, by omega⟩
  have HM12 : Hid (∀ z, (pd.ownBlock = some z ∨ qd.ownBlock = some z) → z ≠ g12) := fun z hz => by have h3 := HLTg12.out; rcases hz with h | h; (have h1 := (HMP.out.lto z (.inr h)).1; omega); (have h1 := (HMY.out.lto z (.inr h)).1; omega)
  replace HA := Lib.hid (HA.out.trans haw)
  replace HB5 := Lib.hid (HB5.out.on haw)
  replace HB6 := Lib.hid (HB6.out.on haw)
  replace HMP := Lib.hid (HMP.out.on haw)
  replace HMY := Lib.hid (HMY.out.on haw)
  clear haw hg12 hw10
  have hS10 : Hid (g12 < w10.heap.size) := lt_of_block HC12.out
  go_wp2_with (refine wpList_load28 rfl _ rfl g5 rfl p _ _ (by exact HB5.out) HAP.out ?_)
  refine (parted_e _ p pd a2 n2 c2 5 (HMP.out.pkt HFP.out) HWP.out.o (by have := HWP.out.len; omega) (by omega) (H2.out.on HA.out) l2).mono ?_
  rintro E w11 ⟨v, xs, r, rb, rfl, hcu, hxm, hcp, hxl, haw⟩
  replace HC12 := Lib.hid (haw.keep (by simp) HC12.out)
  have hS11 := Lib.hid haw.size
  replace HA := Lib.hid (HA.out.trans haw)
  replace HB5 := Lib.hid (HB5.out.on haw)
  replace HB6 := Lib.hid (HB6.out.on haw)
  replace HMP := Lib.hid (HMP.out.on haw)
  replace HMY := Lib.hid (HMY.out.on haw)
  have HX := Lib.hid hcu
  have HXM := Lib.hid hxm
  have HXC := Lib.hid hcp
  have HXL := Lib.hid hxl
  obtain ⟨la0, lc0, rfl, -, -, -, hbl⟩ := HX.out.pks (by omega)
  have HXN : Hid (∀ z, (Value.slice la0 xs.length lc0).ownBlock = some z ∨ (∃ x ∈ xs, x.o.ownBlock = some z ∨ x.d.ownBlock = some z) → z ≠ g12 ∧ z < w11.heap.size) := fun z hz => by
    have h1 := hS10.out
    have h9 := hS11.out
    rcases hz with h | ⟨x, hx, h⟩
    · have h2 := hcu.new z h; have h3 := hcu.lst.lt z h; exact ⟨by omega, h3⟩
    · have h2 := ((hcu.each x hx).2.lto z h); exact ⟨by omega, h2.1⟩
  clear hcu hxm hcp hxl hbl haw
  have c0 : w11.cell? ⟨g12, 0, none⟩ = some (.slice none 0 0) := cell_of_block HC12.out 0
  have f0 : w11.frozen? ⟨g12, 0, none⟩ = false := free_of_block HC12.out 0
  go_upto_region 10 with fail
  have hbk := blk_set HC12.out 0 (.slice la0 xs.length lc0)
  have haw : Away [g12] w11 (w11.setCell ⟨g12, 0, none⟩ (.slice la0 xs.length lc0)) := away_put _ _
  obtain ⟨w12, hw12⟩ : ∃ z, z = w11.setCell ⟨g12, 0, none⟩ (.slice la0 xs.length lc0) := ⟨_, rfl⟩
  rw [← hw12] at hbk haw ⊢
  replace HC12 := Lib.hid hbk
  replace HB5 := Lib.hid (HB5.out.away haw (by simpa using fun e => HN12.out.1 e.symm))
  replace HB6 := Lib.hid (HB6.out.away haw (by simpa using fun e => HN12.out.2 e.symm))
  replace HMP := Lib.hid (HMP.out.away haw (fun z hz => by rcases hz with hz | hz; (simp [Value.ownBlock] at hz); (have h1 := HM12.out z (.inl hz); simpa using h1)))
  replace HMY := Lib.hid (HMY.out.away haw (fun z hz => by rcases hz with hz | hz; (simp [Value.ownBlock] at hz); (have h1 := HM12.out z (.inr hz); simpa using h1)))
  replace HX := Lib.hid (HX.out.away2 haw (fun k hk => .inl (by simp at hk; rw [hk]; exact hS10.out)))
  have hS12 : Hid (w10.heap.size ≤ w11.heap.size ∧ w11.heap.size ≤ w12.heap.size) := ⟨hS11.out, haw.size⟩
  replace HA := Lib.hid (HA.out.next haw (fun z hz => .inr (by simp at hz; rw [hz]; exact HLg12.out)))
  clear haw hbk hw12 c0 f0 hS11
  have HAY : Hid (Ad y) := HFY.out.ad
  go_wp2_with (refine wpList_load28 rfl _ rfl g6 rfl y _ _ (by exact HB6.out) HAY.out ?_)
  refine (parted_e _ y qd a3 n3 c3 6 (HMY.out.pkt HFY.out) HWY.out.o (by have := HWY.out.len; omega) (by omega) (H3.out.on HA.out) l3).mono ?_
  rintro E w13 ⟨v, ys, s, sb, rfl, hcu, hxm, hcp, hxl, haw⟩
  replace HC12 := Lib.hid (haw.keep (by simp) HC12.out)
  have hS13 := Lib.hid haw.size
  replace HA := Lib.hid (HA.out.trans haw)
  replace HB5 := Lib.hid (HB5.out.on haw)
  replace HB6 := Lib.hid (HB6.out.on haw)
  replace HMP := Lib.hid (HMP.out.on haw)
  replace HMY := Lib.hid (HMY.out.on haw)
  replace HX := Lib.hid (HX.out.on haw)
  have HY := Lib.hid hcu
  have HYM := Lib.hid hxm
  have HYC := Lib.hid hcp
  have HYL := Lib.hid hxl
  obtain ⟨la1, lc1, rfl, -, -, -, hbl⟩ := HY.out.pks (by omega)
  have HYN : Hid (∀ z, (Value.slice la1 ys.length lc1).ownBlock = some z ∨ (∃ x ∈ ys, x.o.ownBlock = some z ∨ x.d.ownBlock = some z) → z ≠ g12 ∧ z < w13.heap.size) := fun z hz => by
    have h1 := hS10.out
    have h9 := hS12.out
    rcases hz with h | ⟨x, hx, h⟩
    · have h2 := hcu.new z h; have h3 := hcu.lst.lt z h; exact ⟨by omega, h3⟩
    · have h2 := ((hcu.each x hx).2.lto z h); exact ⟨by omega, h2.1⟩
  clear hcu hxm hcp hxl hbl haw
  have c1 : w13.cell? ⟨g12, 1, none⟩ = some (.slice none 0 0) := cell_of_block HC12.out 1
  have f1 : w13.frozen? ⟨g12, 1, none⟩ = false := free_of_block HC12.out 1
  go_upto_region 11 with fail
  have hbk := blk_set HC12.out 1 (.slice la1 ys.length lc1)
  have haw : Away [g12] w13 (w13.setCell ⟨g12, 1, none⟩ (.slice la1 ys.length lc1)) := away_put _ _
  obtain ⟨w14, hw14⟩ : ∃ z, z = w13.setCell ⟨g12, 1, none⟩ (.slice la1 ys.length lc1) := ⟨_, rfl⟩
  rw [← hw14] at hbk haw ⊢
  replace HX := Lib.hid (HX.out.away2 haw (fun k hk => .inl (by simp at hk; rw [hk]; exact hS10.out)))
  replace HY := Lib.hid (HY.out.away2 haw (fun k hk => .inl (by simp at hk; rw [hk]; have h1 := hS10.out; have h2 := hS12.out; omega)))
  replace HA := Lib.hid (HA.out.next haw (fun z hz => .inr (by simp at hz; rw [hz]; exact HLg12.out)))
  have CX : Hid (w14.cell? ⟨g12, 0, none⟩ = some (.slice la0 xs.length lc0)) := cell_of_block hbk 0
  have CY : Hid (w14.cell? ⟨g12, 1, none⟩ = some (.slice la1 ys.length lc1)) := cell_of_block hbk 1
  have HO := Lib.hid (H4.out.on HA.out)
  have HGN := Lib.hid (HG.out.on HA.out)
  obtain ⟨l, hl⟩ : ∃ l, l = partedL p 5 r := ⟨_, rfl⟩
  obtain ⟨m, hm⟩ : ∃ m, m = partedL y 6 s := ⟨_, rfl⟩
  have HTW : Hid (Two l m ∧ Two m l) := by have h := whl_two (r := r) (s := s) HWP.out HWY.out HKY.out; rw [hl, hm]; exact h
  have HAL : Hid ((∀ y ∈ l, rgt2 y = true ∧ y.o = []) ∧ l ≠ []) := by rw [hl]; exact parted_all HWP.out HXC.out
  have HAM : Hid ((∀ y ∈ m, rgt2 y = true ∧ y.o = []) ∧ m ≠ []) := by rw [hm]; exact parted_all HWY.out HYC.out
  rw [← hl] at HXM
  rw [← hm] at HYM
  obtain ⟨na, hna⟩ : ∃ z, z = xs.length := ⟨_, rfl⟩
  obtain ⟨nb, hnb⟩ : ∃ z, z = ys.length := ⟨_, rfl⟩
  rw [← hna] at CX HXL
  rw [← hnb] at CY HYL
  have HPX : Hid (Pks w14 la0 xs) := by obtain ⟨a, c, e1, -, -, h, -⟩ := HX.out.pks (by rw [← hna]; have := HXL.out; omega); injection e1 with e1; subst e1; exact h
  have HPY : Hid (Pks w14 la1 ys) := by obtain ⟨a, c, e1, -, -, h, -⟩ := HY.out.pks (by rw [← hnb]; have := HYL.out; omega); injection e1 with e1; subst e1; exact h
  have HNA := Lib.hid hna
  have HNB := Lib.hid hnb
  have hna0 : 0 < na := by rw [HNA.out, ← List.length_map (f := X.p), HXM.out]; exact List.length_pos_iff.2 HAL.out.2
  have hnb0 : 0 < nb := by rw [HNB.out, ← List.length_map (f := X.p), HYM.out]; exact List.length_pos_iff.2 HAM.out.2
  have HP0 : Hid (0 < w14.heap.size) := by have h1 := HB5.out.lt; have h2 := hS10.out; have h3 := hS12.out; have h4 := hS13.out; have h5 := haw.size; show 0 < _; omega
  have HSN : Hid (w.heap.size ≤ w14.heap.size) := HA.out.size
  have HAW14 := Lib.hid HA.out
  have hla : na ≤ 20000 := HXL.out
  have hlb : nb ≤ 20000 := HYL.out
  clear haw hbk hw14 c1 f1 hS10 hS12 hS13 HC12 HB5 HB6 HMP HMY HX HY HXN HYN HXC HYC HXL HYL hna hnb hl hm HWP HWY HFP HFY HKY HAP HAY HM12 HN12 HN56 HLg5 HLg6 HLg12 HLTg12 HOP HOQ HDP HDQ HLOP HLOQ H2 H3 H4 HAQ
  go_wp2_with fail
  refine (wide_e _).mono ?_
  rintro E w15 ⟨rfl, haw⟩
  replace HA := Lib.hid (HA.out.trans haw)
  have HAN := Lib.hid haw
  clear haw
  go_wp2_with fail
  refine (new_t _ w14.heap.size HAN.out.size).mono ?_
  rintro E w16 ⟨gB, mB, rfl, htw, hfp, haw⟩
  obtain ⟨B, hB⟩ : ∃ z : T4, z = ⟨gB, mB, .slice none 0 0, []⟩ := ⟨_, rfl⟩
  rw [← hB] at htw hfp
  have HBG : Hid (B.g = gB) := by rw [hB]; exact rfl
  replace HA := Lib.hid (HA.out.trans haw)
  replace HAN := Lib.hid (HAN.out.trans haw)
  have HB := Lib.hid htw
  have HBF := Lib.hid hfp
  have HBL : Hid (∀ z ∈ B.fp, z < w16.heap.size) := htw.lt
  clear htw hfp hB
  clear haw
  go_upto_region 13 with fail
  have HC15 : Hid ((w16.alloc (.cells #[.pointer none, .pointer none] 72)).heap[w16.heap.size]? = some (.cells #[.pointer none, .pointer none] 72 (0, 0))) := block_new _ _
  have haw : Away [] w16 (w16.alloc (.cells #[.pointer none, .pointer none] 72)) := (Away.refl _ _).alloc _
  obtain ⟨g15, hg15⟩ : ∃ z, z = w16.heap.size := ⟨_, rfl⟩
  obtain ⟨w17, hw17⟩ : ∃ z, z = w16.alloc (.cells #[.pointer none, .pointer none] 72) := ⟨_, rfl⟩
  rw [← hg15, ← hw17] at HC15 ⊢
  rw [← hw17] at haw
  have HLTg15 : Hid (w16.heap.size ≤ g15) := Nat.le_of_eq hg15.symm
  replace HA := Lib.hid (HA.out.trans haw)
  replace HAN := Lib.hid (HAN.out.trans haw)
  replace HB := Lib.hid (HB.out.on haw)
  have HFB : Hid (g15 ∉ B.fp) := fun hm => by have h1 := HBL.out _ hm; have h2 := HLTg15.out; omega
  have H15N : Hid (w14.heap.size ≤ g15) := by have h1 := HB.out.new B.g (mem_fpT.2 (.inl rfl)); have h2 := HBL.out B.g (mem_fpT.2 (.inl rfl)); have h3 := HLTg15.out; show _ ≤ _; omega
  have H15L : Hid (g15 < w17.heap.size) := lt_of_block HC15.out
  clear haw hg15 hw17
  go_wp2_with fail
  refine (wide_e _).mono ?_
  rintro E w18 ⟨rfl, haw⟩
  replace HA := Lib.hid (HA.out.trans haw)
  replace HAN := Lib.hid (HAN.out.trans haw)
  replace HB := Lib.hid (HB.out.on haw)
  replace HC15 := Lib.hid (haw.keep (by simp) HC15.out)
  have hsz := haw.size
  clear haw
  have HS18 := Lib.hid hsz
  clear hsz
  go_wp2_with fail
  refine (new_t _ w14.heap.size HAN.out.size).mono ?_
  rintro E w19 ⟨gX, mX, rfl, htw, hfp, haw⟩
  obtain ⟨TX, hX⟩ : ∃ z : T4, z = ⟨gX, mX, .slice none 0 0, []⟩ := ⟨_, rfl⟩
  rw [← hX] at htw hfp
  have HXG : Hid (TX.g = gX) := by rw [hX]; exact rfl
  replace HA := Lib.hid (HA.out.trans haw)
  replace HAN := Lib.hid (HAN.out.trans haw)
  replace HB := Lib.hid (HB.out.on haw)
  have HX := Lib.hid htw
  have HXF := Lib.hid hfp
  have HXL : Hid (∀ z ∈ TX.fp, z < w19.heap.size) := htw.lt
  clear htw hfp hX
  replace HC15 := Lib.hid (haw.keep (by simp) HC15.out)
  have HFX : Hid (g15 ∉ TX.fp) := fun hm => by have h1 := HXF.out _ hm; have h2 := H15L.out; have h3 := HS18.out; omega
  have HBX : Hid (∀ z ∈ B.fp, z ∉ TX.fp) := fun z h1 h2 => by have h3 := HBL.out z h1; have h4 := HXF.out z h2; have h5 := HLTg15.out; have h6 := H15L.out; have h7 := HS18.out; omega
  have hsz := haw.size
  have HS19 := Lib.hid hsz
  clear hsz haw
  go_wp2_with fail
  refine (wide_e _).mono ?_
  rintro E w20 ⟨rfl, haw⟩
  replace HA := Lib.hid (HA.out.trans haw)
  replace HAN := Lib.hid (HAN.out.trans haw)
  replace HB := Lib.hid (HB.out.on haw)
  replace HX := Lib.hid (HX.out.on haw)
  replace HC15 := Lib.hid (haw.keep (by simp) HC15.out)
  have hsz := haw.size
  clear haw
  have HS20 := Lib.hid hsz
  clear hsz
  go_wp2_with fail
  refine (new_t _ w14.heap.size HAN.out.size).mono ?_
  rintro E w21 ⟨gY, mY, rfl, htw, hfp, haw⟩
  obtain ⟨TY, hY⟩ : ∃ z : T4, z = ⟨gY, mY, .slice none 0 0, []⟩ := ⟨_, rfl⟩
  rw [← hY] at htw hfp
  have HYG : Hid (TY.g = gY) := by rw [hY]; exact rfl
  replace HA := Lib.hid (HA.out.trans haw)
  replace HAN := Lib.hid (HAN.out.trans haw)
  replace HB := Lib.hid (HB.out.on haw)
  replace HX := Lib.hid (HX.out.on haw)
  have HY := Lib.hid htw
  have HYF := Lib.hid hfp
  have HYL : Hid (∀ z ∈ TY.fp, z < w21.heap.size) := htw.lt
  clear htw hfp hY
  replace HC15 := Lib.hid (haw.keep (by simp) HC15.out)
  have HFY : Hid (g15 ∉ TY.fp) := fun hm => by have h1 := HYF.out _ hm; have h2 := H15L.out; have h3 := HS18.out; have h4 := HS19.out; have h5 := HS20.out; omega
  have HBY : Hid (∀ z ∈ B.fp, z ∉ TY.fp) := fun z h1 h2 => by have h3 := HBL.out z h1; have h4 := HYF.out z h2; have h5 := HLTg15.out; have h6 := H15L.out; have h7 := HS18.out; have h8 := HS19.out; have h9 := HS20.out; omega
  have HXY : Hid (∀ z ∈ TX.fp, z ∉ TY.fp) := fun z h1 h2 => by have h3 := HXL.out z h1; have h4 := HYF.out z h2; have h9 := HS20.out; omega
  have H15L2 : Hid (g15 < w21.heap.size) := lt_of_block HC15.out
  clear haw
  have HNW : Hid (w.heap.size ≤ w14.heap.size) := HSN.out
  have c0 : w21.cell? ⟨g15, 0, none⟩ = some (.pointer none) := cell_of_block HC15.out 0
  have f0 : w21.frozen? ⟨g15, 0, none⟩ = false := free_of_block HC15.out 0
  go_upto_region 18 with fail
  have hbk := blk_set HC15.out 0 (.pointer (some ⟨gX, 0, none⟩))
  have haw : Away [g15] w21 (w21.setCell ⟨g15, 0, none⟩ (.pointer (some ⟨gX, 0, none⟩))) := away_put _ _
  obtain ⟨w22, hw22⟩ : ∃ z, z = w21.setCell ⟨g15, 0, none⟩ (.pointer (some ⟨gX, 0, none⟩)) := ⟨_, rfl⟩
  rw [← hw22] at hbk haw ⊢
  replace HC15 := Lib.hid hbk
  replace HB := Lib.hid (HB.out.away haw (fun z hz e => by simp at e; rw [e] at hz; exact HFB.out hz))
  replace HX := Lib.hid (HX.out.away haw (fun z hz e => by simp at e; rw [e] at hz; exact HFX.out hz))
  replace HY := Lib.hid (HY.out.away haw (fun z hz e => by simp at e; rw [e] at hz; exact HFY.out hz))
  replace HAN := Lib.hid (HAN.out.next haw (fun z hz => .inr (by simp at hz; rw [hz]; exact H15N.out)))
  replace HA := Lib.hid (HA.out.next haw (fun z hz => .inr (by simp at hz; rw [hz]; exact Nat.le_trans HNW.out H15N.out)))
  clear haw hbk hw22 c0 f0
  have c1 : w22.cell? ⟨g15, 1, none⟩ = some (.pointer none) := cell_of_block HC15.out 1
  have f1 : w22.frozen? ⟨g15, 1, none⟩ = false := free_of_block HC15.out 1
  go_upto_region 19 with fail
  have hbk := blk_set HC15.out 1 (.pointer (some ⟨gY, 0, none⟩))
  have haw : Away [g15] w22 (w22.setCell ⟨g15, 1, none⟩ (.pointer (some ⟨gY, 0, none⟩))) := away_put _ _
  obtain ⟨w23, hw23⟩ : ∃ z, z = w22.setCell ⟨g15, 1, none⟩ (.pointer (some ⟨gY, 0, none⟩)) := ⟨_, rfl⟩
  rw [← hw23] at hbk haw ⊢
  replace HC15 := Lib.hid hbk
  replace HB := Lib.hid (HB.out.away haw (fun z hz e => by simp at e; rw [e] at hz; exact HFB.out hz))
  replace HX := Lib.hid (HX.out.away haw (fun z hz e => by simp at e; rw [e] at hz; exact HFX.out hz))
  replace HY := Lib.hid (HY.out.away haw (fun z hz e => by simp at e; rw [e] at hz; exact HFY.out hz))
  replace HAN := Lib.hid (HAN.out.next haw (fun z hz => .inr (by simp at hz; rw [hz]; exact H15N.out)))
  replace HA := Lib.hid (HA.out.next haw (fun z hz => .inr (by simp at hz; rw [hz]; exact Nat.le_trans HNW.out H15N.out)))
  have HL15 : Hid (g15 < w23.heap.size) := lt_of_block HC15.out
  clear haw hbk hw23 c1 f1
  have HSD : Hid (Sd w14 gB gX gY g15 0 l m B TX TY none none none w23) := ⟨HBG.out, HXG.out, HYG.out, HB.out, HX.out, HY.out, HBX.out, HBY.out, HXY.out, si_none l, si_none l, si_none m, HFB.out, HFX.out, HFY.out, HL15.out, H15N.out, HAN.out, cell_of_block HC15.out 0, cell_of_block HC15.out 1⟩
  clear HB HX HY HBG HXG HYG HBX HBY HXY HFB HFX HFY HL15 HC15 HBF HBL HXF HXL HYF HYL HLTg15 H15L H15L2 HS18 HS19 HS20 H15N HAN HA HG
  go_wp2_with fail
  go_loopw [20] (fun v wr => ∃ (k : Nat) (B TX TY : T4) (a b : Option Es), v = .int .i64 (k : Int) ∧ k ≤ n4 ∧ Sd w14 gB gX gY g15 0 l m B TX TY a a b wr) (fun v _ => n4 - (intOf v).toNat)
  case atStart => exact ⟨0, B, TX, TY, none, none, rfl, by omega, HSD.out⟩
  case round =>
    clear HSD
    obtain ⟨k, B, TX, TY, ka, kb, rfl, hk, hsd⟩ := hrel
    by_cases hlt : k < n4
    · have j1 : (k : Int) < (n4 : Int) := by omega
      have j2 : 0 ≤ (k : Int) := by omega
      have j3 : ((k : Int)).toNat = k := by omega
      obtain ⟨ob, oo, z, hoa, hz, hzk⟩ := HO.out k hlt
      subst hoa
      have cz := hsd.aw.cell (by simp) hz
      obtain ⟨S, hS2, hS⟩ := mod_u (IntKind.u64.wrap z) 2 (by omega) (by rw [IntKind.wrap_u64]; omega)
      have HU0 : Hid (0 ≤ IntKind.u64.wrap z) := by show 0 ≤ _; rw [IntKind.wrap_u64]; omega
      have hS3 : wrap64 ((IntKind.u64.wrap z).tmod 2) = (S : Int) := by have e : (IntKind.u64.wrap z).tmod 2 = (S : Int) := hS; rw [e]; exact wrap_small _ (by omega) (by omega)
      go_upto_region 23 with fail
      rw [hS3]
      clear hS hS3
      obtain ⟨lP, mQ, xP, nP, laP, lcP, gP, gQ, P, Q, pa, qb, hSd, hTP, hCP, hAP, hXP, hPP, hNP, hn0, hn2, hBK⟩ : ∃ (lP mQ : List Pk) (xP : List X) (nP : Nat) (laP : Option Addr) (lcP : Nat) (gP gQ : Nat) (P Q : T4) (pa qb : Option Es), Sd w14 gB gP gQ g15 S lP mQ B P Q pa pa qb wr ∧ Two lP mQ ∧ w14.cell? ⟨g12, S, none⟩ = some (.slice laP nP lcP) ∧ (∀ y ∈ lP, rgt2 y = true ∧ y.o = []) ∧ xP.map X.p = lP ∧ Pks w14 laP xP ∧ nP = xP.length ∧ 0 < nP ∧ nP ≤ 20000 ∧ (∀ (B' P' : T4) (a' : Option Es) (W : World), Sd w14 gB gP gQ g15 S lP mQ B' P' Q a' a' qb W → ∃ B2 X2 Y2 a2 b2, Sd w14 gB gX gY g15 0 l m B2 X2 Y2 a2 a2 b2 W) := by
        by_cases hs0 : S = 0
        · subst hs0
          exact ⟨l, m, xs, na, la0, lc0, gX, gY, TX, TY, ka, kb, hsd, HTW.out.1, CX.out, HAL.out.1, HXM.out, HPX.out, HNA.out, hna0, hla, fun B' P' a' W h => ⟨B', P', TY, a', kb, h⟩⟩
        · obtain rfl : S = 1 := by omega
          exact ⟨m, l, ys, nb, la1, lc1, gY, gX, TY, TX, kb, ka, hsd.flip (by omega), HTW.out.2, CY.out, HAM.out.1, HYM.out, HPY.out, HNB.out, hnb0, hlb, fun B' P' a' W h => ⟨B', TX, P', ka, a', h.flip (by omega)⟩⟩
      have HSD := Lib.hid hSd
      have HT := Lib.hid hTP
      have HAL2 := Lib.hid hAP
      have HXP := Lib.hid hXP
      have HPP := Lib.hid hPP
      have HNP := Lib.hid hNP
      have HBK := Lib.hid hBK
      have c12 := hSd.aw.cell (by simp) hCP
      have HC12 := Lib.hid c12
      have HC12N0 := Lib.hid hCP
      have s1 : (S : Int) < 2 := by omega
      have s2 : 0 ≤ (S : Int) := by omega
      have s3 : ((S : Int)).toNat = S := by omega
      have n64 : IntKind.u64.wrap (nP : Int) = (nP : Int) := by rw [IntKind.wrap_u64]; omega
      have nz : ¬ ((nP : Int) = 0) := by omega
      clear hSd hTP hCP hAP hXP hPP hNP hBK hsd
      go_cut [22] (fun v wc => ∃ j : Nat, v = .int .i64 (j : Int) ∧ j < nP ∧ Away [] wr wc)
      case first =>
        as_aux_lemma =>
        have HC : Hid (Away [] wr wr.drew) := (Away.refl _ _).drew
        have CZ := Lib.hid cz
        clear cz c12
        obtain ⟨dz, hdz⟩ : ∃ dz, dz = (IntKind.u64.wrap z).tdiv 2 := ⟨_, rfl⟩
        have hd0 : 0 ≤ dz := by rw [hdz]; exact Int.tdiv_nonneg HU0.out (by omega)
        have hd1 : dz ≤ 9223372036854775807 := by
          rw [hdz]
          rw [Int.tdiv_eq_ediv_of_nonneg HU0.out]
          have : IntKind.u64.wrap z < 18446744073709551616 := (by rw [IntKind.wrap_u64]; omega)
          omega
        obtain ⟨j, hj, hjm⟩ := mod_u dz nP hn0 hd0
        have e0 : (IntKind.u64.wrap z).tdiv 2 = dz := hdz.symm
        clear hdz
        have nzb : ((nP : Int) == 0) = false := by simpa using nz
        have nz3 : nP ≠ 0 := by omega
        have e1 : IntKind.u64.wrap dz = dz := by rw [IntKind.wrap_u64]; omega
        have e2 : wrap64 (dz.tmod (nP : Int)) = (j : Int) := by rw [hjm]; exact wrap_small _ (by omega) (by omega)
        go_wp2_with fail
        refine wp_region_cls (C := fun w' => Away [] wr w') (by kernel_rfl) (by kernel_rfl) HC.out ?_
        go_big_quiet_want; (refine quiet_val ?_ ?_ ?_; rotate_left; (intro w; go_simp; rfl); go_simp; go_big_quiet_on)
        go_big_quiet_want; (refine quiet_val ?_ ?_ ?_; rotate_left; (intro w; go_simp; rfl); go_simp; go_big_quiet_on)
        go_big_quiet_want; (refine quiet_val ?_ ?_ ?_; rotate_left; (intro w; go_simp; rfl); go_simp; go_big_quiet_on)
        go_big_quiet_want; refine quiet_ld _ rfl (ad := ⟨ob, oo + k, none⟩) rfl (fun w' h => ld3 (h.cell (by simp) CZ.out)) ?_; go_simp; go_big_quiet_on
        go_big_quiet_want; (refine quiet_val ?_ ?_ ?_; rotate_left; (intro w; go_simp; rfl); go_simp; go_big_quiet_on)
        go_big_quiet_want; (refine quiet_val ?_ ?_ ?_; rotate_left; (intro w; go_simp; rfl); go_simp; go_big_quiet_on)
        go_big_quiet_want; (refine quiet_val ?_ ?_ ?_; rotate_left; (intro w; go_simp; rfl); go_simp; go_big_quiet_on)
        go_big_quiet_want; (refine quiet_val ?_ ?_ ?_; rotate_left; (intro w; go_simp; rfl); go_simp; go_big_quiet_on)
        go_big_quiet_want; refine quiet_ld _ rfl (ad := ⟨g12, S, none⟩) rfl (fun w' h => ld42 (h.cell (by simp) HC12.out)) ?_; go_simp; go_big_quiet_on
        go_big_quiet_want; (refine quiet_val ?_ ?_ ?_; rotate_left; (intro w; go_simp; rfl); go_simp; go_big_quiet_on)
        go_big_quiet_want; (refine quiet_val ?_ ?_ ?_; rotate_left; (intro w; go_simp; rfl); go_simp; go_big_quiet_on)
        go_big_quiet_want; (refine quiet_val ?_ ?_ ?_; rotate_left; (intro w; go_simp; rfl); go_simp; go_big_quiet_on)
        go_big_quiet_want; (refine quiet_val ?_ ?_ ?_; rotate_left; (intro w; go_simp; rfl); go_simp; go_big_quiet_on)
        go_big_quiet_want; (refine quiet_val ?_ ?_ ?_; rotate_left; (intro w; go_simp; rfl); go_simp; go_big_quiet_on)
        refine wpQuiet_nil ?_
        intro V hV
        go_wp2_with fail
        go_meet
        exact ⟨j, congrArg (Value.int .i64) (by rw [IntKind.wrap_i64]; omega), hj, hV⟩
      case rest =>
      obtain ⟨j, rfl, hj, haw⟩ := hcut
      generalize wc = w24 at *
      replace HSD := Lib.hid (HSD.out.on haw)
      clear haw cz c12 hk HU0
      obtain ⟨x, hx, hxm⟩ := get_of (xs := xP) (k := j) (by rw [← HNP.out]; exact hj)
      obtain ⟨b0, o0, hla, hrg, hkx⟩ := HPP.out.at hx
      subst hla
      obtain ⟨zp, xo, xd⟩ := x
      have HKX : Hid (Pkt w14 zp xo xd) := hkx
      have HRN : Hid (w14.rangeAt b0 (o0 + j * 46) (listP zp xo xd)) := hrg
      have HZW : Hid (Wf zp) := hkx.wf
      have HAZ : Hid (Ad zp) := hkx.wf.ad
      have HZL : Hid (zp ∈ lP) := by rw [← HXP.out]; exact List.mem_map_of_mem (f := X.p) hxm
      have HZR : Hid (rgt2 zp = true) := (HAL2.out zp HZL.out).1
      have HZO : Hid (zp.o = []) := (HAL2.out zp HZL.out).2
      have HRW : Hid (w24.rangeAt b0 (o0 + j * 46) (listP zp xo xd)) := range_away HSD.out.aw (by simp) HRN.out
      have t1 : (j : Int) < (nP : Int) := by omega
      have t2 : 0 ≤ (j : Int) := by omega
      have t3 : ((j : Int)).toNat = j := by omega
      have c12 := HC12.out
      have HC12N : Hid (w14.cell? ⟨g12, S, none⟩ = some (.slice (some ⟨b0, o0, none⟩) nP lcP)) := HC12N0.out
      replace c12 := HSD.out.aw.cell (by simp) HC12N.out
      clear hx hxm hrg hkx HC12 HC12N0
      obtain ⟨rn, hrn⟩ : ∃ rn, rn = (apN pa zp).1 := ⟨_, rfl⟩
      obtain ⟨rw_, hrw⟩ : ∃ rw_, rw_ = (apN pa zp).2.1 := ⟨_, rfl⟩
      obtain ⟨ra, hra⟩ : ∃ ra, ra = (apN pa zp).2.2 := ⟨_, rfl⟩
      have HSA : Hid (Si lP ra) := by rw [hra]; exact HSD.out.sP.put HZL.out HZW.out
      have HAE : Hid (apN pa zp = (rn, rw_, ra)) := by rw [hrn, hrw, hra]; exact Lib.hid rfl
      clear hrn hrw hra
      go_wp2_with (refine wpList_load28m rfl _ rfl b0 (o0 + j * 46) rfl zp xo xd (by exact HRW.out) HAZ.out ?_)
      refine (own_e _ zp xo xd (HKX.out.on HSD.out.aw)).mono ?_
      rintro E w25 ⟨io, id, rfl, hmi, haw⟩
      have HM1 := Lib.hid hmi
      have HID : Hid (∀ z, id.ownBlock = some z → z ∉ B.fp) := fun z hz hm => by have h1 := hmi.nd z hz; have h2 := HSD.out.both.lt z hm; omega
      replace HSD := Lib.hid (HSD.out.on haw)
      clear hmi haw
      have KB := HSD.out.callB HP0.out (HGN.out.on HSD.out.aw) HT.out (HM1.out.pkt HZW.out) HZL.out HZO.out HID.out HZR.out
      rw [HAE.out] at KB
      replace KB := Lib.hid KB
      go_wp2_with fail
      refine KB.out.mono ?_
      rintro E w26 ⟨wa, wc1, la, lc, ga, gc, zs, T, rfl, hcu, hzm, hzl, hTg, htw, hfp, haw⟩
      have HPL : Hid (∀ z ∈ P.fp, z < w25.heap.size) := HSD.out.x.lt
      replace HSD := Lib.hid (HSD.out.putB hTg htw HSA.out hfp haw)
      have HCU := Lib.hid hcu
      have HZM := Lib.hid hzm
      have hsz := haw.size
      have HS26 := Lib.hid hsz
      have HCUB : Hid (∀ k, ((Value.slice wa zs.length wc1).ownBlock = some k ∨ ∃ x ∈ zs, x.o.ownBlock = some k ∨ x.d.ownBlock = some k) → k < w26.heap.size) := fun k hk => by
        rcases hk with h | ⟨x, hx, h⟩
        · exact hcu.lst.lt k h
        · exact ((hcu.each x hx).2.lto k h).1
      clear hsz hcu hzm hTg htw hfp haw KB HM1 HID
      obtain ⟨nz1, hnz1⟩ : ∃ z, z = zs.length := ⟨_, rfl⟩
      rw [← hnz1] at HCU HCUB hzl ⊢
      have HNZ := Lib.hid hnz1
      clear hnz1
      go_wp2_with (refine wpList_alloc33 rfl rfl ?_; refine Hid.out ?_)
      refine Lib.hid ?_
      intro g23 w27 hg hb4 haw1
      have HBN := Lib.hid hb4
      have HGN23 : Hid (w26.heap.size ≤ g23) := hg
      have HW1 := Lib.hid haw1
      clear hg hb4 haw1
      go_wp2_with (refine wpList_store33 rfl _ _ rfl g23 rfl rn (.slice wa nz1 wc1) (.slice la 0 lc) (.slice ga 0 gc) rfl 0 nilV nilV nilV (by exact HBN.out) rfl rfl rfl ?_; refine Hid.out ?_)
      refine Lib.hid ?_
      intro w28 hb5 haw2
      have haw := HW1.out.next haw2 (fun z hz => .inr (by simp at hz; rw [hz]; exact HGN23.out))
      have HT1 : Hid (BoxT w28 g23 rn (.slice wa nz1 wc1) (.slice la 0 lc) (.slice ga 0 gc)) := hb5
      have HG23 : Hid (g23 ∉ P.fp ∧ g23 ∉ T.fp ∧ g23 ∉ Q.fp) := ⟨fun hm => by have h1 := HPL.out _ hm; have h2 := HGN23.out; have h3 := HS26.out; omega, fun hm => by have h1 := HSD.out.both.lt _ hm; have h2 := HGN23.out; omega, fun hm => by have h1 := HSD.out.y.lt _ hm; have h2 := HGN23.out; omega⟩
      have HS2628 := Lib.hid haw.size
      replace HSD := Lib.hid (HSD.out.on haw)
      replace HCU := Lib.hid (HCU.out.on haw)
      clear hb5 haw2 haw HW1 HBN HGN23
      have HRW : Hid (w28.rangeAt b0 (o0 + j * 46) (listP zp xo xd)) := range_away HSD.out.aw (by simp) HRN.out
      replace c12 := HSD.out.aw.cell (by simp) HC12N.out
      clear c12
      go_upto_region 25 with fail
      go_cut [25, 26] (fun vt ve wc => ∃ (g25 : Nat) (wa2 : Option Addr) (wc2 : Nat) (la2 : Option Addr) (lc2 : Nat) (ga2 : Option Addr) (gc2 : Nat) (zs2 : List X) (P2 : T4), vt = .pointer (some ⟨g25, 0, none⟩) ∧ ve = .int .i64 0 ∧ BoxT wc g25 rn (.slice wa2 zs2.length wc2) (.slice la2 0 lc2) (.slice ga2 0 gc2) ∧ BoxT wc g23 rn (.slice wa nz1 wc1) (.slice la 0 lc) (.slice ga 0 gc) ∧ Pks wc wa zs ∧ Pks wc wa2 zs2 ∧ zs2.map X.p = rw_ ∧ zs2.length ≤ 1 ∧ Sd w14 gB gP gQ g15 S lP mQ T P2 Q ra ra qb wc)
      case first =>
        as_aux_lemma =>
        have HSDc := Lib.hid (HSD.out.on ((Away.refl [] w28).drew))
        have HS28 : Hid (w26.heap.size ≤ w28.heap.size) := HS2628.out
        have HSZ : Hid (w26.heap.size ≤ w28.drew.heap.size) := HS28.out
        replace HT1 : Hid (BoxT w28.drew g23 rn (.slice wa nz1 wc1) (.slice la 0 lc) (.slice ga 0 gc)) := HT1.out
        replace HCU := Lib.hid (HCU.out.on ((Away.refl [] w28).drew))
        have s5 : (S : Int) < 2 := s1
        refine wp_region_held_drew (S := (fun w' => w'.cell? ⟨g15, S, none⟩ = some (.pointer (some ⟨gP, 0, none⟩)) ∧ w'.cell? ⟨g12, S, none⟩ = some (.slice (some ⟨b0, o0, none⟩) nP lcP) ∧ w'.rangeAt b0 (o0 + j * 46) (listP zp xo xd))) (by kernel_rfl) (by exact ⟨HSDc.out.cP, HSDc.out.aw.cell (by simp) HC12N.out, range_away HSDc.out.aw (by simp) HRN.out⟩) (fun hHeld => ?_)
        refine wpAnyH_take (i := 0) (v := ?_) (by simp only [List.getElem?_toArray, List.getElem?_cons_zero]; rfl) (by kernel_rfl) (by kernel_rfl) (by kernel_rfl) (by exact fun _ _ _ h => h) (Or.inl ⟨by rfl, ?_⟩) (by assumption) ?_
        rotate_left
        · intro wq hSw
          (try dsimp only at hSw)
          go_simp
          all_goals (with_reducible rfl)
        try simp only [Act.put, List.setIfInBounds_toArray, List.set_cons_zero, List.set_cons_succ]
        refine wpAnyH_take (i := 1) (v := ?_) (by simp only [List.getElem?_toArray, List.getElem?_cons_succ, List.getElem?_cons_zero]; rfl) (by kernel_rfl) (by kernel_rfl) (by kernel_rfl) (by exact fun _ _ _ h => h) (Or.inl ⟨by rfl, ?_⟩) (by assumption) ?_
        rotate_left
        · intro wq hSw
          (try dsimp only at hSw)
          go_simp
          all_goals (with_reducible rfl)
        try simp only [Act.put, List.setIfInBounds_toArray, List.set_cons_zero, List.set_cons_succ]
        refine wpAnyH_take (i := 2) (by simp only [List.getElem?_toArray, List.getElem?_cons_succ, List.getElem?_cons_zero]; rfl) (by kernel_rfl) (by kernel_rfl) (by kernel_rfl) (by exact fun _ _ _ h => h) (yields_ld (ad := ⟨g15, S, none⟩) (by rfl) _ rfl rfl (fun w' h => ld27 h.1)) (by assumption) ?_
        try simp only [Act.put, List.setIfInBounds_toArray, List.set_cons_zero, List.set_cons_succ]
        refine wpAnyH_take (i := 3) (v := ?_) (by simp only [List.getElem?_toArray, List.getElem?_cons_succ, List.getElem?_cons_zero]; rfl) (by kernel_rfl) (by kernel_rfl) (by kernel_rfl) (by exact fun _ _ _ h => h) (Or.inl ⟨by rfl, ?_⟩) (by assumption) ?_
        rotate_left
        · intro wq hSw
          (try dsimp only at hSw)
          go_simp
          all_goals (with_reducible rfl)
        try simp only [Act.put, List.setIfInBounds_toArray, List.set_cons_zero, List.set_cons_succ]
        refine wpAnyH_take (i := 4) (v := ?_) (by simp only [List.getElem?_toArray, List.getElem?_cons_succ, List.getElem?_cons_zero]; rfl) (by kernel_rfl) (by kernel_rfl) (by kernel_rfl) (by exact fun _ _ _ h => h) (Or.inl ⟨by rfl, ?_⟩) (by assumption) ?_
        rotate_left
        · intro wq hSw
          (try dsimp only at hSw)
          go_simp
          all_goals (with_reducible rfl)
        try simp only [Act.put, List.setIfInBounds_toArray, List.set_cons_zero, List.set_cons_succ]
        refine wpAnyH_take (i := 5) (by simp only [List.getElem?_toArray, List.getElem?_cons_succ, List.getElem?_cons_zero]; rfl) (by kernel_rfl) (by kernel_rfl) (by kernel_rfl) (by exact fun _ _ _ h => h) (yields_ld (ad := ⟨g12, S, none⟩) (by rfl) _ rfl rfl (fun w' h => ld42 h.2.1)) (by assumption) ?_
        try simp only [Act.put, List.setIfInBounds_toArray, List.set_cons_zero, List.set_cons_succ]
        refine wpAnyH_take (i := 6) (v := ?_) (by simp only [List.getElem?_toArray, List.getElem?_cons_succ, List.getElem?_cons_zero]; rfl) (by kernel_rfl) (by kernel_rfl) (by kernel_rfl) (by exact fun _ _ _ h => h) (Or.inl ⟨by rfl, ?_⟩) (by assumption) ?_
        rotate_left
        · intro wq hSw
          (try dsimp only at hSw)
          go_simp
          all_goals (with_reducible rfl)
        try simp only [Act.put, List.setIfInBounds_toArray, List.set_cons_zero, List.set_cons_succ]
        refine wpAnyH_take (i := 7) (v := ?_) (by simp only [List.getElem?_toArray, List.getElem?_cons_succ, List.getElem?_cons_zero]; rfl) (by kernel_rfl) (by kernel_rfl) (by kernel_rfl) (by exact fun _ _ _ h => h) (Or.inl ⟨by rfl, ?_⟩) (by assumption) ?_
        rotate_left
        · intro wq hSw
          (try dsimp only at hSw)
          go_simp
          all_goals (with_reducible rfl)
        try simp only [Act.put, List.setIfInBounds_toArray, List.set_cons_zero, List.set_cons_succ]
        refine wpAnyH_take (i := 8) (by simp only [List.getElem?_toArray, List.getElem?_cons_succ, List.getElem?_cons_zero]; rfl) (by kernel_rfl) (by kernel_rfl) (by kernel_rfl) (by exact fun _ _ _ h => h) (yields_ld (ad := ⟨b0, o0 + j * 46, none⟩) (by rfl) _ rfl rfl (fun w' h => load28m_run h.2.2 HAZ.out)) (by assumption) ?_
        try simp only [Act.put, List.setIfInBounds_toArray, List.set_cons_zero, List.set_cons_succ]
        refine wpAnyH_ready (rs := [9, 14]) (by kernel_rfl) (by simp) ?_
        refine AllReadyH.cons (by simp only [List.getElem?_toArray, List.getElem?_cons_succ, List.getElem?_cons_zero]; rfl) (fun K hK => ?_) (AllReadyH.cons (by simp only [List.getElem?_toArray, List.getElem?_cons_succ, List.getElem?_cons_zero]; rfl) (fun K hK => ?_) AllReadyH.nil)
        · go_simp
          refine (own_e _ zp xo xd (HKX.out.on HSDc.out.aw)).mono ?_
          rintro E v9 ⟨jo, jd, rfl, hmi, haw⟩
          have HM2 := Lib.hid hmi
          have HJD : Hid (∀ z, jd.ownBlock = some z → z ∉ P.fp) := fun z hz hm => by have h1 := hmi.nd z hz; have h2 := HSDc.out.x.lt z hm; omega
          replace HSDc := Lib.hid (HSDc.out.on haw)
          replace HT1 := Lib.hid (HT1.out.keep haw (by simp))
          replace HCU := Lib.hid (HCU.out.on haw)
          replace HSZ := Lib.hid (Nat.le_trans HSZ.out haw.size)
          clear hmi haw
          refine hK.out _ _ (by exact ⟨HSDc.out.cP, HSDc.out.aw.cell (by simp) HC12N.out, range_away HSDc.out.aw (by simp) HRN.out⟩) (fun hHeld => ?_)
          clear hK K
          try simp only [Act.put, List.setIfInBounds_toArray, List.set_cons_zero, List.set_cons_succ]
          refine wpAnyH_ready (rs := [10, 14]) (by kernel_rfl) (by simp) ?_
          refine AllReadyH.cons (by simp only [List.getElem?_toArray, List.getElem?_cons_succ, List.getElem?_cons_zero]; rfl) (fun K hK => ?_) (AllReadyH.cons (by simp only [List.getElem?_toArray, List.getElem?_cons_succ, List.getElem?_cons_zero]; rfl) (fun K hK => ?_) AllReadyH.nil)
          · go_simp
            have KP := HSDc.out.callP HP0.out (HGN.out.on HSDc.out.aw) HT.out (HM2.out.pkt HZW.out) HZL.out HZO.out HJD.out HZR.out
            rw [HAE.out] at KP
            refine KP.mono ?_
            rintro E v10 ⟨wa2, wc2, la2, lc2, ga2, gc2, zs2, P2, rfl, hcu, hzm, hzl2, hPg, htw, hfp, haw⟩
            have HN15 : Hid (g23 ∉ P2.fp) := fun hm => by
              rcases hfp _ hm with h1 | h1
              · exact HG23.out.1 h1
              · have h2 := HT1.out.lt; omega
            replace HT1 := Lib.hid (HT1.out.keep haw HG23.out.1)
            replace HCU := Lib.hid (HCU.out.away2 haw (fun k hk => .inl (HPL.out k hk)))
            replace HSDc := Lib.hid (HSDc.out.putP hPg htw HSA.out hfp haw)
            have HC2 := Lib.hid hcu
            have HC2B : Hid (∀ k, ((Value.slice wa2 zs2.length wc2).ownBlock = some k ∨ ∃ x ∈ zs2, x.o.ownBlock = some k ∨ x.d.ownBlock = some k) → k < v10.heap.size) := fun k hk => by
              rcases hk with h | ⟨x, hx, h⟩
              · exact hcu.lst.lt k h
              · exact ((hcu.each x hx).2.lto k h).1
            replace HSZ := Lib.hid (Nat.le_trans HSZ.out haw.size)
            have HZM2 := Lib.hid hzm
            have HZL2 := Lib.hid hzl2
            clear hcu hzm hzl2 hPg htw hfp haw KP HM2 HJD
            refine hK.out _ _ (by exact ⟨HSDc.out.cP, HSDc.out.aw.cell (by simp) HC12N.out, range_away HSDc.out.aw (by simp) HRN.out⟩) (fun hHeld => ?_)
            clear hK K
            try simp only [Act.put, List.setIfInBounds_toArray, List.set_cons_zero, List.set_cons_succ]
            refine wpAnyH_take (i := 11) (v := ?_) (by simp only [List.getElem?_toArray, List.getElem?_cons_succ, List.getElem?_cons_zero]; rfl) (by kernel_rfl) (by kernel_rfl) (by kernel_rfl) (by exact fun _ _ _ h => h) (Or.inl ⟨by rfl, ?_⟩) (by assumption) ?_
            rotate_left
            · intro wq hSw
              (try dsimp only at hSw)
              go_simp
              all_goals (with_reducible rfl)
            try simp only [Act.put, List.setIfInBounds_toArray, List.set_cons_zero, List.set_cons_succ]
            refine wpAnyH_take (i := 12) (v := ?_) (by simp only [List.getElem?_toArray, List.getElem?_cons_succ, List.getElem?_cons_zero]; rfl) (by kernel_rfl) (by kernel_rfl) (by kernel_rfl) (by exact fun _ _ _ h => h) (Or.inl ⟨by rfl, ?_⟩) (by assumption) ?_
            rotate_left
            · intro wq hSw
              (try dsimp only at hSw)
              go_simp
              all_goals (with_reducible rfl)
            try simp only [Act.put, List.setIfInBounds_toArray, List.set_cons_zero, List.set_cons_succ]
            refine wpAnyH_take (i := 13) (v := ?_) (by simp only [List.getElem?_toArray, List.getElem?_cons_succ, List.getElem?_cons_zero]; rfl) (by kernel_rfl) (by kernel_rfl) (by kernel_rfl) (by exact fun _ _ _ h => h) (Or.inl ⟨by rfl, ?_⟩) (by assumption) ?_
            rotate_left
            · intro wq hSw
              (try dsimp only at hSw)
              go_simp
              all_goals (with_reducible rfl)
            try simp only [Act.put, List.setIfInBounds_toArray, List.set_cons_zero, List.set_cons_succ]
            refine wpAnyH_ready (rs := [14]) (by kernel_rfl) (by simp) ?_
            refine AllReadyH.cons (by simp only [List.getElem?_toArray, List.getElem?_cons_succ, List.getElem?_cons_zero]; rfl) (fun K hK => ?_) AllReadyH.nil
            refine step_alloc44 rfl rfl ?_
            intro g25 v14 hg25 hb haw
            have HB25 := Lib.hid hb
            have HF25 : Hid (g25 ∉ T.fp ∧ g25 ∉ Q.fp ∧ g25 ≠ g15 ∧ g25 ≠ g23 ∧ w14.heap.size ≤ g25) := ⟨fun hm => by have h1 := HSDc.out.both.lt _ hm; omega, fun hm => by have h1 := HSDc.out.y.lt _ hm; omega, fun e => by have h1 := HSDc.out.lt; omega, fun e => by have h1 := HT1.out.lt; omega, by have h1 := HSDc.out.aw.size; omega⟩
            have HU25 : Hid (∀ k ∈ [g25], k < w25.heap.size ∨ w26.heap.size ≤ k) := fun k hk => .inr (by simp at hk; rw [hk]; have h1 := HSZ.out; omega)
            have HN25 : Hid (g25 ∉ P2.fp) := fun hm => by have h1 := HSDc.out.x.lt _ hm; omega
            have HL25 : Hid (∀ k ∈ [g25], k < 0 ∨ v10.heap.size ≤ k) := fun k hk => .inr (by simp at hk; rw [hk]; exact hg25)
            replace HC2 := Lib.hid (HC2.out.on haw)
            replace HSDc := Lib.hid (HSDc.out.on haw)
            replace HT1 := Lib.hid (HT1.out.keep haw (by simp))
            replace HCU := Lib.hid (HCU.out.on haw)
            replace HSZ := Lib.hid (Nat.le_trans HSZ.out haw.size)
            clear hb haw hg25
            refine hK.out _ _ (by exact ⟨HSDc.out.cP, HSDc.out.aw.cell (by simp) HC12N.out, range_away HSDc.out.aw (by simp) HRN.out⟩) (fun hHeld => ?_)
            clear hK K
            try simp only [Act.put, List.setIfInBounds_toArray, List.set_cons_zero, List.set_cons_succ]
            refine wpAnyH_ready (rs := [15]) (by kernel_rfl) (by simp) ?_
            refine AllReadyH.cons (by simp only [List.getElem?_toArray, List.getElem?_cons_succ, List.getElem?_cons_zero]; rfl) (fun K hK => ?_) AllReadyH.nil
            refine step_store44 rfl _ _ rfl g25 rfl rn (.slice wa2 zs2.length wc2) (.slice la2 0 lc2) (.slice ga2 0 gc2) rfl 0 nilV nilV nilV (by exact HB25.out) rfl rfl rfl ?_
            intro v15 hb haw
            have HT2 := Lib.hid hb
            replace HT1 := Lib.hid (HT1.out.keep haw (by simpa using fun e => HF25.out.2.2.2.1 e.symm))
            replace HSDc := Lib.hid (HSDc.out.other haw HF25.out.2.2.2.2 HF25.out.1 HN25.out HF25.out.2.1 HF25.out.2.2.1)
            replace HCU := Lib.hid (HCU.out.away3 haw (C := w26.heap.size) (fun k hk => HCUB.out k (.inl hk)) (fun x hx k hk => HCUB.out k (.inr ⟨x, hx, hk⟩)) HU25.out)
            replace HC2 := Lib.hid (HC2.out.away3 haw (C := v10.heap.size) (fun k hk => HC2B.out k (.inl hk)) (fun x hx k hk => HC2B.out k (.inr ⟨x, hx, hk⟩)) (fun k hk => (HL25.out k hk).elim (fun h => by first | exact .inl h | omega) .inr))
            clear hb haw
            refine hK.out _ _ (by exact ⟨HSDc.out.cP, HSDc.out.aw.cell (by simp) HC12N.out, range_away HSDc.out.aw (by simp) HRN.out⟩) (fun hHeld => ?_)
            clear hK K
            try simp only [Act.put]
            refine wpAnyH_take (i := 16) (v := ?_) (by simp only [List.getElem?_toArray, List.getElem?_cons_succ, List.getElem?_cons_zero]; rfl) (by kernel_rfl) (by kernel_rfl) (by kernel_rfl) (by exact fun _ _ _ h => h) (Or.inl ⟨by rfl, ?_⟩) (by assumption) ?_
            rotate_left
            · intro wq hSw
              (try dsimp only at hSw)
              go_simp
              all_goals (with_reducible rfl)
            try simp only [Act.put, List.setIfInBounds_toArray, List.set_cons_zero, List.set_cons_succ]
            clear hHeld
            refine wpAnyH_done (by kernel_rfl) ?_ _
            have hp1 : Pks v15 wa zs := by obtain ⟨a, c, e1, -, -, h, -⟩ := HCU.out.pks (by rw [← HNZ.out]; omega); injection e1 with e1; subst e1; exact h
            have hp2 : Pks v15 wa2 zs2 := by obtain ⟨a, c, e1, -, -, h, -⟩ := HC2.out.pks (by have := HZL2.out; omega); injection e1 with e1; subst e1; exact h
            have HP1 := Lib.hid hp1
            have HP2 := Lib.hid hp2
            clear hp1 hp2
            go_wp2_with fail
            go_meet
            exact ⟨g25, wa2, wc2, la2, lc2, ga2, gc2, zs2, P2, rfl, rfl, HT2.out, HT1.out, HP1.out, HP2.out, HZM2.out, HZL2.out, HSDc.out⟩
          · refine step_alloc44 rfl rfl ?_
            intro g25 v14 hg25 hb haw
            have HB25 := Lib.hid hb
            have HF25 : Hid (g25 ∉ T.fp ∧ g25 ∉ Q.fp ∧ g25 ≠ g15 ∧ g25 ≠ g23 ∧ w14.heap.size ≤ g25) := ⟨fun hm => by have h1 := HSDc.out.both.lt _ hm; omega, fun hm => by have h1 := HSDc.out.y.lt _ hm; omega, fun e => by have h1 := HSDc.out.lt; omega, fun e => by have h1 := HT1.out.lt; omega, by have h1 := HSDc.out.aw.size; omega⟩
            have HU25 : Hid (∀ k ∈ [g25], k < w25.heap.size ∨ w26.heap.size ≤ k) := fun k hk => .inr (by simp at hk; rw [hk]; have h1 := HSZ.out; omega)
            have HP25 : Hid (g25 ∉ P.fp) := fun hm => by have h1 := HSDc.out.x.lt _ hm; omega
            replace HSDc := Lib.hid (HSDc.out.on haw)
            replace HT1 := Lib.hid (HT1.out.keep haw (by simp))
            replace HCU := Lib.hid (HCU.out.on haw)
            replace HM2 := Lib.hid (HM2.out.on haw)
            replace HSZ := Lib.hid (Nat.le_trans HSZ.out haw.size)
            clear hb haw hg25
            refine hK.out _ _ (by exact ⟨HSDc.out.cP, HSDc.out.aw.cell (by simp) HC12N.out, range_away HSDc.out.aw (by simp) HRN.out⟩) (fun hHeld => ?_)
            clear hK K
            try simp only [Act.put, List.setIfInBounds_toArray, List.set_cons_zero, List.set_cons_succ]
            refine wpAnyH_ready (rs := [10]) (by kernel_rfl) (by simp) ?_
            refine AllReadyH.cons (by simp only [List.getElem?_toArray, List.getElem?_cons_succ, List.getElem?_cons_zero]; rfl) (fun K hK => ?_) AllReadyH.nil
            go_simp
            have KP := HSDc.out.callP HP0.out (HGN.out.on HSDc.out.aw) HT.out (HM2.out.pkt HZW.out) HZL.out HZO.out HJD.out HZR.out
            rw [HAE.out] at KP
            refine KP.mono ?_
            rintro E v10 ⟨wa2, wc2, la2, lc2, ga2, gc2, zs2, P2, rfl, hcu, hzm, hzl2, hPg, htw, hfp, haw⟩
            have HN25 : Hid (g25 ∉ P2.fp) := fun hm => by
              rcases hfp _ hm with h1 | h1
              · exact HP25.out h1
              · have h2 := HB25.out.lt; omega
            have HL25 : Hid (∀ k ∈ [g25], k < _ ∨ v10.heap.size ≤ k) := fun k hk => .inl (by simp at hk; rw [hk]; exact HB25.out.lt)
            replace HB25 := Lib.hid (HB25.out.keep haw HP25.out)
            have HN15 : Hid (g23 ∉ P2.fp) := fun hm => by
              rcases hfp _ hm with h1 | h1
              · exact HG23.out.1 h1
              · have h2 := HT1.out.lt; omega
            replace HT1 := Lib.hid (HT1.out.keep haw HG23.out.1)
            replace HCU := Lib.hid (HCU.out.away2 haw (fun k hk => .inl (HPL.out k hk)))
            replace HSDc := Lib.hid (HSDc.out.putP hPg htw HSA.out hfp haw)
            have HC2 := Lib.hid hcu
            have HC2B : Hid (∀ k, ((Value.slice wa2 zs2.length wc2).ownBlock = some k ∨ ∃ x ∈ zs2, x.o.ownBlock = some k ∨ x.d.ownBlock = some k) → k < v10.heap.size) := fun k hk => by
              rcases hk with h | ⟨x, hx, h⟩
              · exact hcu.lst.lt k h
              · exact ((hcu.each x hx).2.lto k h).1
            replace HSZ := Lib.hid (Nat.le_trans HSZ.out haw.size)
            have HZM2 := Lib.hid hzm
            have HZL2 := Lib.hid hzl2
            clear hcu hzm hzl2 hPg htw hfp haw KP HM2 HJD
            refine hK.out _ _ (by exact ⟨HSDc.out.cP, HSDc.out.aw.cell (by simp) HC12N.out, range_away HSDc.out.aw (by simp) HRN.out⟩) (fun hHeld => ?_)
            clear hK K
            try simp only [Act.put, List.setIfInBounds_toArray, List.set_cons_zero, List.set_cons_succ]
            refine wpAnyH_take (i := 11) (v := ?_) (by simp only [List.getElem?_toArray, List.getElem?_cons_succ, List.getElem?_cons_zero]; rfl) (by kernel_rfl) (by kernel_rfl) (by kernel_rfl) (by exact fun _ _ _ h => h) (Or.inl ⟨by rfl, ?_⟩) (by assumption) ?_
            rotate_left
            · intro wq hSw
              (try dsimp only at hSw)
              go_simp
              all_goals (with_reducible rfl)
            try simp only [Act.put, List.setIfInBounds_toArray, List.set_cons_zero, List.set_cons_succ]
            refine wpAnyH_take (i := 12) (v := ?_) (by simp only [List.getElem?_toArray, List.getElem?_cons_succ, List.getElem?_cons_zero]; rfl) (by kernel_rfl) (by kernel_rfl) (by kernel_rfl) (by exact fun _ _ _ h => h) (Or.inl ⟨by rfl, ?_⟩) (by assumption) ?_
            rotate_left
            · intro wq hSw
              (try dsimp only at hSw)
              go_simp
              all_goals (with_reducible rfl)
            try simp only [Act.put, List.setIfInBounds_toArray, List.set_cons_zero, List.set_cons_succ]
            refine wpAnyH_take (i := 13) (v := ?_) (by simp only [List.getElem?_toArray, List.getElem?_cons_succ, List.getElem?_cons_zero]; rfl) (by kernel_rfl) (by kernel_rfl) (by kernel_rfl) (by exact fun _ _ _ h => h) (Or.inl ⟨by rfl, ?_⟩) (by assumption) ?_
            rotate_left
            · intro wq hSw
              (try dsimp only at hSw)
              go_simp
              all_goals (with_reducible rfl)
            try simp only [Act.put, List.setIfInBounds_toArray, List.set_cons_zero, List.set_cons_succ]
            refine wpAnyH_ready (rs := [15]) (by kernel_rfl) (by simp) ?_
            refine AllReadyH.cons (by simp only [List.getElem?_toArray, List.getElem?_cons_succ, List.getElem?_cons_zero]; rfl) (fun K hK => ?_) AllReadyH.nil
            refine step_store44 rfl _ _ rfl g25 rfl rn (.slice wa2 zs2.length wc2) (.slice la2 0 lc2) (.slice ga2 0 gc2) rfl 0 nilV nilV nilV (by exact HB25.out) rfl rfl rfl ?_
            intro v15 hb haw
            have HT2 := Lib.hid hb
            replace HT1 := Lib.hid (HT1.out.keep haw (by simpa using fun e => HF25.out.2.2.2.1 e.symm))
            replace HSDc := Lib.hid (HSDc.out.other haw HF25.out.2.2.2.2 HF25.out.1 HN25.out HF25.out.2.1 HF25.out.2.2.1)
            replace HCU := Lib.hid (HCU.out.away3 haw (C := w26.heap.size) (fun k hk => HCUB.out k (.inl hk)) (fun x hx k hk => HCUB.out k (.inr ⟨x, hx, hk⟩)) HU25.out)
            replace HC2 := Lib.hid (HC2.out.away3 haw (C := v10.heap.size) (fun k hk => HC2B.out k (.inl hk)) (fun x hx k hk => HC2B.out k (.inr ⟨x, hx, hk⟩)) (fun k hk => (HL25.out k hk).elim (fun h => by first | exact .inl h | omega) .inr))
            clear hb haw
            refine hK.out _ _ (by exact ⟨HSDc.out.cP, HSDc.out.aw.cell (by simp) HC12N.out, range_away HSDc.out.aw (by simp) HRN.out⟩) (fun hHeld => ?_)
            clear hK K
            try simp only [Act.put]
            refine wpAnyH_take (i := 16) (v := ?_) (by simp only [List.getElem?_toArray, List.getElem?_cons_succ, List.getElem?_cons_zero]; rfl) (by kernel_rfl) (by kernel_rfl) (by kernel_rfl) (by exact fun _ _ _ h => h) (Or.inl ⟨by rfl, ?_⟩) (by assumption) ?_
            rotate_left
            · intro wq hSw
              (try dsimp only at hSw)
              go_simp
              all_goals (with_reducible rfl)
            try simp only [Act.put, List.setIfInBounds_toArray, List.set_cons_zero, List.set_cons_succ]
            clear hHeld
            refine wpAnyH_done (by kernel_rfl) ?_ _
            have hp1 : Pks v15 wa zs := by obtain ⟨a, c, e1, -, -, h, -⟩ := HCU.out.pks (by rw [← HNZ.out]; omega); injection e1 with e1; subst e1; exact h
            have hp2 : Pks v15 wa2 zs2 := by obtain ⟨a, c, e1, -, -, h, -⟩ := HC2.out.pks (by have := HZL2.out; omega); injection e1 with e1; subst e1; exact h
            have HP1 := Lib.hid hp1
            have HP2 := Lib.hid hp2
            clear hp1 hp2
            go_wp2_with fail
            go_meet
            exact ⟨g25, wa2, wc2, la2, lc2, ga2, gc2, zs2, P2, rfl, rfl, HT2.out, HT1.out, HP1.out, HP2.out, HZM2.out, HZL2.out, HSDc.out⟩
        · refine step_alloc44 rfl rfl ?_
          intro g25 v14 hg25 hb haw
          have HB25 := Lib.hid hb
          have HF25 : Hid (g25 ∉ T.fp ∧ g25 ∉ Q.fp ∧ g25 ≠ g15 ∧ g25 ≠ g23 ∧ w14.heap.size ≤ g25) := ⟨fun hm => by have h1 := HSDc.out.both.lt _ hm; omega, fun hm => by have h1 := HSDc.out.y.lt _ hm; omega, fun e => by have h1 := HSDc.out.lt; omega, fun e => by have h1 := HT1.out.lt; omega, by have h1 := HSDc.out.aw.size; omega⟩
          have HU25 : Hid (∀ k ∈ [g25], k < w25.heap.size ∨ w26.heap.size ≤ k) := fun k hk => .inr (by simp at hk; rw [hk]; have h1 := HSZ.out; omega)
          have HP25 : Hid (g25 ∉ P.fp) := fun hm => by have h1 := HSDc.out.x.lt _ hm; omega
          replace HSDc := Lib.hid (HSDc.out.on haw)
          replace HT1 := Lib.hid (HT1.out.keep haw (by simp))
          replace HCU := Lib.hid (HCU.out.on haw)
          replace HSZ := Lib.hid (Nat.le_trans HSZ.out haw.size)
          clear hb haw hg25
          refine hK.out _ _ (by exact ⟨HSDc.out.cP, HSDc.out.aw.cell (by simp) HC12N.out, range_away HSDc.out.aw (by simp) HRN.out⟩) (fun hHeld => ?_)
          clear hK K
          try simp only [Act.put, List.setIfInBounds_toArray, List.set_cons_zero, List.set_cons_succ]
          refine wpAnyH_ready (rs := [9]) (by kernel_rfl) (by simp) ?_
          refine AllReadyH.cons (by simp only [List.getElem?_toArray, List.getElem?_cons_succ, List.getElem?_cons_zero]; rfl) (fun K hK => ?_) AllReadyH.nil
          go_simp
          refine (own_e _ zp xo xd (HKX.out.on HSDc.out.aw)).mono ?_
          rintro E v9 ⟨jo, jd, rfl, hmi, haw⟩
          have HM2 := Lib.hid hmi
          have HJD : Hid (∀ z, jd.ownBlock = some z → z ∉ P.fp) := fun z hz hm => by have h1 := hmi.nd z hz; have h2 := HSDc.out.x.lt z hm; omega
          replace HSDc := Lib.hid (HSDc.out.on haw)
          replace HT1 := Lib.hid (HT1.out.keep haw (by simp))
          replace HCU := Lib.hid (HCU.out.on haw)
          replace HB25 := Lib.hid (HB25.out.keep haw (by simp))
          replace HSZ := Lib.hid (Nat.le_trans HSZ.out haw.size)
          clear hmi haw
          refine hK.out _ _ (by exact ⟨HSDc.out.cP, HSDc.out.aw.cell (by simp) HC12N.out, range_away HSDc.out.aw (by simp) HRN.out⟩) (fun hHeld => ?_)
          clear hK K
          try simp only [Act.put, List.setIfInBounds_toArray, List.set_cons_zero, List.set_cons_succ]
          refine wpAnyH_ready (rs := [10]) (by kernel_rfl) (by simp) ?_
          refine AllReadyH.cons (by simp only [List.getElem?_toArray, List.getElem?_cons_succ, List.getElem?_cons_zero]; rfl) (fun K hK => ?_) AllReadyH.nil
          go_simp
          have KP := HSDc.out.callP HP0.out (HGN.out.on HSDc.out.aw) HT.out (HM2.out.pkt HZW.out) HZL.out HZO.out HJD.out HZR.out
          rw [HAE.out] at KP
          refine KP.mono ?_
          rintro E v10 ⟨wa2, wc2, la2, lc2, ga2, gc2, zs2, P2, rfl, hcu, hzm, hzl2, hPg, htw, hfp, haw⟩
          have HN25 : Hid (g25 ∉ P2.fp) := fun hm => by
            rcases hfp _ hm with h1 | h1
            · exact HP25.out h1
            · have h2 := HB25.out.lt; omega
          have HL25 : Hid (∀ k ∈ [g25], k < _ ∨ v10.heap.size ≤ k) := fun k hk => .inl (by simp at hk; rw [hk]; exact HB25.out.lt)
          replace HB25 := Lib.hid (HB25.out.keep haw HP25.out)
          have HN15 : Hid (g23 ∉ P2.fp) := fun hm => by
            rcases hfp _ hm with h1 | h1
            · exact HG23.out.1 h1
            · have h2 := HT1.out.lt; omega
          replace HT1 := Lib.hid (HT1.out.keep haw HG23.out.1)
          replace HCU := Lib.hid (HCU.out.away2 haw (fun k hk => .inl (HPL.out k hk)))
          replace HSDc := Lib.hid (HSDc.out.putP hPg htw HSA.out hfp haw)
          have HC2 := Lib.hid hcu
          have HC2B : Hid (∀ k, ((Value.slice wa2 zs2.length wc2).ownBlock = some k ∨ ∃ x ∈ zs2, x.o.ownBlock = some k ∨ x.d.ownBlock = some k) → k < v10.heap.size) := fun k hk => by
            rcases hk with h | ⟨x, hx, h⟩
            · exact hcu.lst.lt k h
            · exact ((hcu.each x hx).2.lto k h).1
          replace HSZ := Lib.hid (Nat.le_trans HSZ.out haw.size)
          have HZM2 := Lib.hid hzm
          have HZL2 := Lib.hid hzl2
          clear hcu hzm hzl2 hPg htw hfp haw KP HM2 HJD
          refine hK.out _ _ (by exact ⟨HSDc.out.cP, HSDc.out.aw.cell (by simp) HC12N.out, range_away HSDc.out.aw (by simp) HRN.out⟩) (fun hHeld => ?_)
          clear hK K
          try simp only [Act.put, List.setIfInBounds_toArray, List.set_cons_zero, List.set_cons_succ]
          refine wpAnyH_take (i := 11) (v := ?_) (by simp only [List.getElem?_toArray, List.getElem?_cons_succ, List.getElem?_cons_zero]; rfl) (by kernel_rfl) (by kernel_rfl) (by kernel_rfl) (by exact fun _ _ _ h => h) (Or.inl ⟨by rfl, ?_⟩) (by assumption) ?_
          rotate_left
          · intro wq hSw
            (try dsimp only at hSw)
            go_simp
            all_goals (with_reducible rfl)
          try simp only [Act.put, List.setIfInBounds_toArray, List.set_cons_zero, List.set_cons_succ]
          refine wpAnyH_take (i := 12) (v := ?_) (by simp only [List.getElem?_toArray, List.getElem?_cons_succ, List.getElem?_cons_zero]; rfl) (by kernel_rfl) (by kernel_rfl) (by kernel_rfl) (by exact fun _ _ _ h => h) (Or.inl ⟨by rfl, ?_⟩) (by assumption) ?_
          rotate_left
          · intro wq hSw
            (try dsimp only at hSw)
            go_simp
            all_goals (with_reducible rfl)
          try simp only [Act.put, List.setIfInBounds_toArray, List.set_cons_zero, List.set_cons_succ]
          refine wpAnyH_take (i := 13) (v := ?_) (by simp only [List.getElem?_toArray, List.getElem?_cons_succ, List.getElem?_cons_zero]; rfl) (by kernel_rfl) (by kernel_rfl) (by kernel_rfl) (by exact fun _ _ _ h => h) (Or.inl ⟨by rfl, ?_⟩) (by assumption) ?_
          rotate_left
          · intro wq hSw
            (try dsimp only at hSw)
            go_simp
            all_goals (with_reducible rfl)
          try simp only [Act.put, List.setIfInBounds_toArray, List.set_cons_zero, List.set_cons_succ]
          refine wpAnyH_ready (rs := [15]) (by kernel_rfl) (by simp) ?_
          refine AllReadyH.cons (by simp only [List.getElem?_toArray, List.getElem?_cons_succ, List.getElem?_cons_zero]; rfl) (fun K hK => ?_) AllReadyH.nil
          refine step_store44 rfl _ _ rfl g25 rfl rn (.slice wa2 zs2.length wc2) (.slice la2 0 lc2) (.slice ga2 0 gc2) rfl 0 nilV nilV nilV (by exact HB25.out) rfl rfl rfl ?_
          intro v15 hb haw
          have HT2 := Lib.hid hb
          replace HT1 := Lib.hid (HT1.out.keep haw (by simpa using fun e => HF25.out.2.2.2.1 e.symm))
          replace HSDc := Lib.hid (HSDc.out.other haw HF25.out.2.2.2.2 HF25.out.1 HN25.out HF25.out.2.1 HF25.out.2.2.1)
          replace HCU := Lib.hid (HCU.out.away3 haw (C := w26.heap.size) (fun k hk => HCUB.out k (.inl hk)) (fun x hx k hk => HCUB.out k (.inr ⟨x, hx, hk⟩)) HU25.out)
          replace HC2 := Lib.hid (HC2.out.away3 haw (C := v10.heap.size) (fun k hk => HC2B.out k (.inl hk)) (fun x hx k hk => HC2B.out k (.inr ⟨x, hx, hk⟩)) (fun k hk => (HL25.out k hk).elim (fun h => by first | exact .inl h | omega) .inr))
          clear hb haw
          refine hK.out _ _ (by exact ⟨HSDc.out.cP, HSDc.out.aw.cell (by simp) HC12N.out, range_away HSDc.out.aw (by simp) HRN.out⟩) (fun hHeld => ?_)
          clear hK K
          try simp only [Act.put]
          refine wpAnyH_take (i := 16) (v := ?_) (by simp only [List.getElem?_toArray, List.getElem?_cons_succ, List.getElem?_cons_zero]; rfl) (by kernel_rfl) (by kernel_rfl) (by kernel_rfl) (by exact fun _ _ _ h => h) (Or.inl ⟨by rfl, ?_⟩) (by assumption) ?_
          rotate_left
          · intro wq hSw
            (try dsimp only at hSw)
            go_simp
            all_goals (with_reducible rfl)
          try simp only [Act.put, List.setIfInBounds_toArray, List.set_cons_zero, List.set_cons_succ]
          clear hHeld
          refine wpAnyH_done (by kernel_rfl) ?_ _
          have hp1 : Pks v15 wa zs := by obtain ⟨a, c, e1, -, -, h, -⟩ := HCU.out.pks (by rw [← HNZ.out]; omega); injection e1 with e1; subst e1; exact h
          have hp2 : Pks v15 wa2 zs2 := by obtain ⟨a, c, e1, -, -, h, -⟩ := HC2.out.pks (by have := HZL2.out; omega); injection e1 with e1; subst e1; exact h
          have HP1 := Lib.hid hp1
          have HP2 := Lib.hid hp2
          clear hp1 hp2
          go_wp2_with fail
          go_meet
          exact ⟨g25, wa2, wc2, la2, lc2, ga2, gc2, zs2, P2, rfl, rfl, HT2.out, HT1.out, HP1.out, HP2.out, HZM2.out, HZL2.out, HSDc.out⟩
      case rest =>
      obtain ⟨g25, wa2, wc2, la2, lc2, ga2, gc2, zs2, P2, rfl, rfl, ht2, ht1, hp1, hp2, hzm2, hzl2, hsd⟩ := hcut
      generalize wc = w30 at *
      have HSE := Lib.hid hsd
      have HT2 := Lib.hid ht2
      replace HT1 := Lib.hid ht1
      have HP1 := Lib.hid hp1
      have HP2 := Lib.hid hp2
      have HZM2 := Lib.hid hzm2
      obtain ⟨nz2, hnz2⟩ : ∃ z, z = zs2.length := ⟨_, rfl⟩
      rw [← hnz2] at HT2 hzl2
      have HNZ2 := Lib.hid hnz2
      clear hsd ht2 ht1 hp1 hp2 hzm2 hnz2 HSD HCU HG23 HPL HRW HS26 HS2628 HCUB
      have HRW : Hid (w30.rangeAt b0 (o0 + j * 46) (listP zp xo xd)) := range_away HSE.out.aw (by simp) HRN.out
      have KS : Hid (∀ W, Away [] w30 W → Calls Tryz.prog 28 #[.slice wa nz1 wc1, .slice wa2 nz2 wc2] W fun E w'' => E = .returned (.bool true) ∧ Away [] W w'') := fun W hW => by
        have h := samePks_e (c1 := wc1) (c2 := wc2) (HP1.out.on hW) (HP2.out.on hW) (by rw [HZM.out, HZM2.out]) (by rw [← HNZ.out]; omega)
        rw [← HNZ.out, ← HNZ2.out] at h
        exact h
      have d0 : w30.cell? ⟨g23, 0, none⟩ = some (.int .i64 rn) := cell_of_block HT1.out 0
      have d1 : w30.cell? ⟨g23, 1, none⟩ = some (.slice wa nz1 wc1) := cell_of_block HT1.out 1
      have d2 : w30.cell? ⟨g23, 2, none⟩ = some (.slice la 0 lc) := cell_of_block HT1.out 2
      have d3 : w30.cell? ⟨g23, 3, none⟩ = some (.slice ga 0 gc) := cell_of_block HT1.out 3
      have x0 : w30.cell? ⟨g25, 0, none⟩ = some (.int .i64 rn) := cell_of_block HT2.out 0
      have x1 : w30.cell? ⟨g25, 1, none⟩ = some (.slice wa2 nz2 wc2) := cell_of_block HT2.out 1
      have bn : (rn != rn) = false := by simp
      go_upto_region 26 with fail
      go_cut [181] (fun v wc => v = .bool false ∧ Away [] w30 wc)
      case first =>
        as_aux_lemma =>
        go_wp2_with fail
        all_goals (refine (KS.out _ (Away.refl _ _)).mono ?_; rintro E w31 ⟨rfl, haw⟩)
        have e2 := haw.cell (by simp) d2
        have e3 := haw.cell (by simp) d3
        have HW := Lib.hid haw
        clear haw
        go_wp2_with fail
        go_meet
        exact ⟨rfl, HW.out⟩
      case rest =>
      obtain ⟨rfl, haw⟩ := hcut
      generalize wc = w31 at *
      replace HSE := Lib.hid (HSE.out.on haw)
      clear haw KS d0 d1 d2 d3 x0 x1 bn HT1 HT2 HP1 HP2 HZM HZM2 HNZ HNZ2
      have HRW : Hid (w31.rangeAt b0 (o0 + j * 46) (listP zp xo xd)) := range_away HSE.out.aw (by simp) HRN.out
      have c12 := HSE.out.aw.cell (by simp) HC12N.out
      go_wp2_with (refine wpList_load28m rfl _ rfl b0 (o0 + j * 46) rfl zp xo xd (by exact HRW.out) HAZ.out ?_)
      refine (lkey_c zp xo xd _ HAZ.out).mono ?_
      rintro E w32 ⟨rfl, haw⟩
      replace HSE := Lib.hid (HSE.out.on haw)
      clear haw c12
      go_wp2_with (refine wpList_alloc78 rfl rfl ?_; refine Hid.out ?_)
      refine Lib.hid ?_
      intro g27 w33 hg hb haw1
      have HBN := Lib.hid hb
      have HG27 : Hid (w32.heap.size ≤ g27) := hg
      have HW1 := Lib.hid haw1
      clear hg hb haw1
      go_wp2_with (refine wpList_store78 rfl _ _ rfl g27 rfl zp HAZ.out rfl (by exact HBN.out) ?_; refine Hid.out ?_)
      refine Lib.hid ?_
      intro w34 hb haw2
      have haw := HW1.out.next haw2 (fun z hz => .inr (by simp at hz; rw [hz]; exact HG27.out))
      have HBK2 : Hid (BoxK w34 g27 (csK zp)) := hb
      replace HSE := Lib.hid (HSE.out.on haw)
      clear hb haw2 haw HW1 HBN HG27
      obtain ⟨B2, X2, Y2, a9, b9, hs0⟩ := HBK.out T P2 ra w34 HSE.out
      have HS0 := Lib.hid hs0
      clear hs0
      obtain ⟨q1, q2, -, -, -, -⟩ := HSE.out.asks HT.out HZL.out
      obtain ⟨hz, hhz⟩ : ∃ z, z = holesOf P2.cs zp := ⟨_, rfl⟩
      obtain ⟨pb, hpb⟩ : ∃ z, z = poisOf P2.cs zp := ⟨_, rfl⟩
      obtain ⟨sx, hsx⟩ : ∃ z, z = sumC X2.cs := ⟨_, rfl⟩
      obtain ⟨sy, hsy⟩ : ∃ z, z = sumC Y2.cs := ⟨_, rfl⟩
      have hsm := sum_mix HS0.out.both.mix HS0.out.x.mix HS0.out.y.mix
      have hb1 := sum_small HS0.out.x.mix HS0.out.sP
      have hb2 := sum_small HS0.out.y.mix HS0.out.sb
      rw [← hsx] at hsm hb1
      rw [← hsy] at hsm hb2
      have KH1 : Hid (∀ W, Away [] w34 W → Calls Tryz.prog 19 #[.pointer (some ⟨gB, 0, none⟩), .agg (csK zp)] W fun E w'' => E = .returned (.int .i64 hz) ∧ Away [] w34 w'') := fun W hW => by
        have h := holes_t (HSE.out.both.on hW) zp HZW.out
        rw [HSE.out.eB] at h
        refine h.mono (fun E w'' h => ⟨?_, hW.trans h.2⟩)
        rw [h.1, q1, hhz]
      have KH2 : Hid (∀ W, Away [] w34 W → Calls Tryz.prog 19 #[.pointer (some ⟨gP, 0, none⟩), .agg (csK zp)] W fun E w'' => E = .returned (.int .i64 hz) ∧ Away [] w34 w'') := fun W hW => by
        have h := holes_t (HSE.out.x.on hW) zp HZW.out
        rw [HSE.out.eP] at h
        refine h.mono (fun E w'' h => ⟨?_, hW.trans h.2⟩)
        rw [h.1, hhz]
      have KP1 : Hid (∀ W, Away [] w34 W → Calls Tryz.prog 23 #[.pointer (some ⟨gB, 0, none⟩), .agg (csK zp)] W fun E w'' => E = .returned (.bool pb) ∧ Away [] w34 w'') := fun W hW => by
        have h := pois_t (HSE.out.both.on hW) zp HZW.out
        rw [HSE.out.eB] at h
        refine h.mono (fun E w'' h => ⟨?_, hW.trans h.2⟩)
        rw [h.1, q2, hpb]
      have KP2 : Hid (∀ W, Away [] w34 W → Calls Tryz.prog 23 #[.pointer (some ⟨gP, 0, none⟩), .agg (csK zp)] W fun E w'' => E = .returned (.bool pb) ∧ Away [] w34 w'') := fun W hW => by
        have h := pois_t (HSE.out.x.on hW) zp HZW.out
        rw [HSE.out.eP] at h
        refine h.mono (fun E w'' h => ⟨?_, hW.trans h.2⟩)
        rw [h.1, hpb]
      have KB0 : Hid (∀ W, Away [] w34 W → Calls Tryz.prog 16 #[.pointer (some ⟨gB, 0, none⟩)] W fun E w'' => E = .returned (.int .i64 (sx + sy)) ∧ Away [] w34 w'') := fun W hW => by
        have h := bytes_t (HS0.out.both.on hW)
        rw [HS0.out.eB] at h
        refine h.mono (fun E w'' h => ⟨?_, hW.trans h.2⟩)
        rw [h.1, hsm.1]
      have KB1 : Hid (∀ W, Away [] w34 W → Calls Tryz.prog 16 #[.pointer (some ⟨gX, 0, none⟩)] W fun E w'' => E = .returned (.int .i64 sx) ∧ Away [] w34 w'') := fun W hW => by
        have h := bytes_t (HS0.out.x.on hW)
        rw [HS0.out.eP] at h
        refine h.mono (fun E w'' h => ⟨?_, hW.trans h.2⟩)
        rw [h.1, hsx]
      have KB2 : Hid (∀ W, Away [] w34 W → Calls Tryz.prog 16 #[.pointer (some ⟨gY, 0, none⟩)] W fun E w'' => E = .returned (.int .i64 sy) ∧ Away [] w34 w'') := fun W hW => by
        have h := bytes_t (HS0.out.y.on hW)
        rw [HS0.out.eQ] at h
        refine h.mono (fun E w'' h => ⟨?_, hW.trans h.2⟩)
        rw [h.1, hsy]
      have C0 : Hid (w34.cell? ⟨g15, 0, none⟩ = some (.pointer (some ⟨gX, 0, none⟩))) := HS0.out.cP
      have C1 : Hid (w34.cell? ⟨g15, 1, none⟩ = some (.pointer (some ⟨gY, 0, none⟩))) := HS0.out.cQ
      have CS : Hid (w34.cell? ⟨g15, S, none⟩ = some (.pointer (some ⟨gP, 0, none⟩))) := HSE.out.cP
      have ew : IntKind.i64.wrap (sx + sy) = sx + sy := by rw [IntKind.wrap_i64]; omega
      have bn1 : (hz != hz) = false := by simp
      have bn2 : (pb != pb) = false := by simp
      have bn3 : (sx + sy != sx + sy) = false := by simp
      clear q1 q2 hhz hpb hsx hsy hsm hb1 hb2 hzl hzl2
      have HC : Hid (Away [] w34 w34.drew) := (Away.refl _ _).drew
      go_wp2_with fail
      refine wp_region_cls (C := fun w' => Away [] w34 w') (by kernel_rfl) (by kernel_rfl) HC.out ?_
      go_big_quiet_want; (refine quiet_val ?_ ?_ ?_; rotate_left; (intro w; go_simp; rfl); go_simp; go_big_quiet_on)
      go_big_quiet_want; refine quiet_ld _ rfl (ad := ⟨g27, 0, none⟩) rfl (fun w' h => load29_run (boxK_range (h.keep (by simp) HBK2.out)) HAZ.out) ?_; go_simp; go_big_quiet_on
      go_big_quiet_want; refine quiet_call 19 #[.pointer (some ⟨gB, 0, none⟩), .agg (csK zp)] (.int .i64 hz) ?_ KH1.out ?_
      focus (intro w; go_simp; done)
      go_simp; go_big_quiet_on
      go_big_quiet_want; (refine quiet_val ?_ ?_ ?_; rotate_left; (intro w; go_simp; rfl); go_simp; go_big_quiet_on)
      go_big_quiet_want; (refine quiet_val ?_ ?_ ?_; rotate_left; (intro w; go_simp; rfl); go_simp; go_big_quiet_on)
      go_big_quiet_want; refine quiet_ld _ rfl (ad := ⟨g15, S, none⟩) rfl (fun w' h => ld27 (h.cell (by simp) CS.out)) ?_; go_simp; go_big_quiet_on
      go_big_quiet_want; refine quiet_ld _ rfl (ad := ⟨g27, 0, none⟩) rfl (fun w' h => load29_run (boxK_range (h.keep (by simp) HBK2.out)) HAZ.out) ?_; go_simp; go_big_quiet_on
      go_big_quiet_want; refine quiet_call 19 #[.pointer (some ⟨gP, 0, none⟩), .agg (csK zp)] (.int .i64 hz) ?_ KH2.out ?_
      focus (intro w; go_simp; done)
      go_simp; go_big_quiet_on
      go_big_quiet_want; (refine quiet_val ?_ ?_ ?_; rotate_left; (intro w; go_simp; rfl); go_simp; go_big_quiet_on)
      go_big_quiet_want; (refine quiet_val ?_ ?_ ?_; rotate_left; (intro w; go_simp; rfl); go_simp; go_big_quiet_on)
      go_big_quiet_want; (refine quiet_val ?_ ?_ ?_; rotate_left; (intro w; go_simp; rfl); go_simp; go_big_quiet_on)
      go_big_quiet_want; refine quiet_ld _ rfl (ad := ⟨g27, 0, none⟩) rfl (fun w' h => load29_run (boxK_range (h.keep (by simp) HBK2.out)) HAZ.out) ?_; go_simp; go_big_quiet_on
      go_big_quiet_want; refine quiet_call 23 #[.pointer (some ⟨gB, 0, none⟩), .agg (csK zp)] (.bool pb) ?_ KP1.out ?_
      focus (intro w; go_simp; done)
      go_simp; go_big_quiet_on
      go_big_quiet_want; (refine quiet_val ?_ ?_ ?_; rotate_left; (intro w; go_simp; rfl); go_simp; go_big_quiet_on)
      go_big_quiet_want; (refine quiet_val ?_ ?_ ?_; rotate_left; (intro w; go_simp; rfl); go_simp; go_big_quiet_on)
      go_big_quiet_want; refine quiet_ld _ rfl (ad := ⟨g15, S, none⟩) rfl (fun w' h => ld27 (h.cell (by simp) CS.out)) ?_; go_simp; go_big_quiet_on
      go_big_quiet_want; refine quiet_ld _ rfl (ad := ⟨g27, 0, none⟩) rfl (fun w' h => load29_run (boxK_range (h.keep (by simp) HBK2.out)) HAZ.out) ?_; go_simp; go_big_quiet_on
      go_big_quiet_want; refine quiet_call 23 #[.pointer (some ⟨gP, 0, none⟩), .agg (csK zp)] (.bool pb) ?_ KP2.out ?_
      focus (intro w; go_simp; done)
      go_simp; go_big_quiet_on
      go_big_quiet_want; (refine quiet_val ?_ ?_ ?_; rotate_left; (intro w; go_simp; rfl); go_simp; go_big_quiet_on)
      go_big_quiet_want; (refine quiet_val ?_ ?_ ?_; rotate_left; (intro w; go_simp; rfl); go_simp; go_big_quiet_on)
      go_big_quiet_want; (refine quiet_val ?_ ?_ ?_; rotate_left; (intro w; go_simp; rfl); go_simp; go_big_quiet_on)
      go_big_quiet_want; (refine quiet_val ?_ ?_ ?_; rotate_left; (intro w; go_simp; rfl); go_simp; go_big_quiet_on)
      go_big_quiet_want; refine quiet_call 16 #[.pointer (some ⟨gB, 0, none⟩)] (.int .i64 (sx + sy)) ?_ KB0.out ?_
      focus (intro w; go_simp; done)
      go_simp; go_big_quiet_on
      go_big_quiet_want; (refine quiet_val ?_ ?_ ?_; rotate_left; (intro w; go_simp; rfl); go_simp; go_big_quiet_on)
      go_big_quiet_want; refine quiet_ld _ rfl (ad := ⟨g15, 0, none⟩) rfl (fun w' h => ld27 (h.cell (by simp) C0.out)) ?_; go_simp; go_big_quiet_on
      go_big_quiet_want; refine quiet_call 16 #[.pointer (some ⟨gX, 0, none⟩)] (.int .i64 sx) ?_ KB1.out ?_
      focus (intro w; go_simp; done)
      go_simp; go_big_quiet_on
      go_big_quiet_want; (refine quiet_val ?_ ?_ ?_; rotate_left; (intro w; go_simp; rfl); go_simp; go_big_quiet_on)
      go_big_quiet_want; refine quiet_ld _ rfl (ad := ⟨g15, 1, none⟩) rfl (fun w' h => ld27 (h.cell (by simp) C1.out)) ?_; go_simp; go_big_quiet_on
      go_big_quiet_want; refine quiet_call 16 #[.pointer (some ⟨gY, 0, none⟩)] (.int .i64 sy) ?_ KB2.out ?_
      focus (intro w; go_simp; done)
      go_simp; go_big_quiet_on
      go_big_quiet_want; (refine quiet_val ?_ ?_ ?_; rotate_left; (intro w; go_simp; rfl); go_simp; go_big_quiet_on)
      go_big_quiet_want; (refine quiet_val ?_ ?_ ?_; rotate_left; (intro w; go_simp; rfl); go_simp; go_big_quiet_on)
      go_big_quiet_want; (refine quiet_val ?_ ?_ ?_; rotate_left; (intro w; go_simp; rfl); go_simp; go_big_quiet_on)
      refine wpQuiet_nil ?_
      intro V hV
      have HV := Lib.hid hV
      clear hV
      go_wp2_with fail
      go_roundw
      case rel => exact ⟨k + 1, B2, X2, Y2, a9, b9, by go_num, by omega, HS0.out.on HV.out⟩
      case measure => simp [intOf]; omega
    · obtain rfl : k = n4 := by omega
      have j1 : ¬ ((k : Int) < (k : Int)) := by omega
      have hsm := sum_mix hsd.both.mix hsd.x.mix hsd.y.mix
      have hb1 := sum_small hsd.x.mix hsd.sP
      have hb2 := sum_small hsd.y.mix hsd.sb
      obtain ⟨nx, hnx⟩ : ∃ z, z = TX.cs.length := ⟨_, rfl⟩
      obtain ⟨ny, hny⟩ : ∃ z, z = TY.cs.length := ⟨_, rfl⟩
      obtain ⟨nq, hnq⟩ : ∃ z, z = B.cs.length := ⟨_, rfl⟩
      rw [← hnx] at hsm hb1
      rw [← hny] at hsm hb2
      rw [← hnq] at hsm
      have KK0 : Hid (∀ W, Away [] wr W → Calls Tryz.prog 14 #[.pointer (some ⟨gB, 0, none⟩)] W fun E w'' => ∃ ka kc, E = .returned (.slice ka nq kc) ∧ Away [] W w'') := fun W hW => by
        have h := keys_t (hsd.both.on hW)
        rw [hsd.eB, ← hnq] at h
        exact h
      have KK1 : Hid (∀ W, Away [] wr W → Calls Tryz.prog 14 #[.pointer (some ⟨gX, 0, none⟩)] W fun E w'' => ∃ ka kc, E = .returned (.slice ka nx kc) ∧ Away [] W w'') := fun W hW => by
        have h := keys_t (hsd.x.on hW)
        rw [hsd.eP, ← hnx] at h
        exact h
      have KK2 : Hid (∀ W, Away [] wr W → Calls Tryz.prog 14 #[.pointer (some ⟨gY, 0, none⟩)] W fun E w'' => ∃ ka kc, E = .returned (.slice ka ny kc) ∧ Away [] W w'') := fun W hW => by
        have h := keys_t (hsd.y.on hW)
        rw [hsd.eQ, ← hny] at h
        exact h
      have C0 : Hid (wr.cell? ⟨g15, 0, none⟩ = some (.pointer (some ⟨gX, 0, none⟩))) := hsd.cP
      have C1 : Hid (wr.cell? ⟨g15, 1, none⟩ = some (.pointer (some ⟨gY, 0, none⟩))) := hsd.cQ
      have HAF : Hid (Away [] w wr) := HAW14.out.trans hsd.aw
      have ew : IntKind.i64.wrap ((nx : Int) + (ny : Int)) = (nx : Int) + (ny : Int) := by rw [IntKind.wrap_i64]; omega
      have qe : ((nq : Int) == (nx : Int) + (ny : Int)) = true := by rw [beq_iff_eq]; omega
      clear hsm hb1 hb2 hnx hny hnq hsd
      go_wp2_with fail
      refine wp_region_held_drew (S := (fun w' => Away [] wr w')) (by kernel_rfl) (by exact (Away.refl [] wr).drew) (fun hHeld => ?_)
      refine wpAnyH_take (i := 0) (v := ?_) (by simp only [List.getElem?_toArray, List.getElem?_cons_zero]; rfl) (by kernel_rfl) (by kernel_rfl) (by kernel_rfl) (by exact fun _ _ _ h => h) (Or.inl ⟨by rfl, ?_⟩) (by assumption) ?_
      rotate_left
      · intro wq hSw
        (try dsimp only at hSw)
        go_simp
        all_goals (with_reducible rfl)
      try simp only [Act.put, List.setIfInBounds_toArray, List.set_cons_zero, List.set_cons_succ]
      refine wpAnyH_take (i := 3) (v := ?_) (by simp only [List.getElem?_toArray, List.getElem?_cons_succ, List.getElem?_cons_zero]; rfl) (by kernel_rfl) (by kernel_rfl) (by kernel_rfl) (by exact fun _ _ _ h => h) (Or.inl ⟨by rfl, ?_⟩) (by assumption) ?_
      rotate_left
      · intro wq hSw
        (try dsimp only at hSw)
        go_simp
        all_goals (with_reducible rfl)
      try simp only [Act.put, List.setIfInBounds_toArray, List.set_cons_zero, List.set_cons_succ]
      refine wpAnyH_take (i := 4) (by simp only [List.getElem?_toArray, List.getElem?_cons_succ, List.getElem?_cons_zero]; rfl) (by kernel_rfl) (by kernel_rfl) (by kernel_rfl) (by exact fun _ _ _ h => h) (yields_ld (ad := ⟨g15, 0, none⟩) (by rfl) _ rfl rfl (fun w' h => ld27 (h.cell (by simp) C0.out))) (by assumption) ?_
      try simp only [Act.put, List.setIfInBounds_toArray, List.set_cons_zero, List.set_cons_succ]
      refine wpAnyH_take (i := 7) (v := ?_) (by simp only [List.getElem?_toArray, List.getElem?_cons_succ, List.getElem?_cons_zero]; rfl) (by kernel_rfl) (by kernel_rfl) (by kernel_rfl) (by exact fun _ _ _ h => h) (Or.inl ⟨by rfl, ?_⟩) (by assumption) ?_
      rotate_left
      · intro wq hSw
        (try dsimp only at hSw)
        go_simp
        all_goals (with_reducible rfl)
      try simp only [Act.put, List.setIfInBounds_toArray, List.set_cons_zero, List.set_cons_succ]
      refine wpAnyH_take (i := 8) (by simp only [List.getElem?_toArray, List.getElem?_cons_succ, List.getElem?_cons_zero]; rfl) (by kernel_rfl) (by kernel_rfl) (by kernel_rfl) (by exact fun _ _ _ h => h) (yields_ld (ad := ⟨g15, 1, none⟩) (by rfl) _ rfl rfl (fun w' h => ld27 (h.cell (by simp) C1.out))) (by assumption) ?_
      try simp only [Act.put, List.setIfInBounds_toArray, List.set_cons_zero, List.set_cons_succ]
      refine wpAnyH_ready (rs := [1]) (by kernel_rfl) (by simp) ?_
      refine AllReadyH.cons (by simp only [List.getElem?_toArray, List.getElem?_cons_succ, List.getElem?_cons_zero]; rfl) (fun K hK => ?_) AllReadyH.nil
      go_simp
      refine (KK0.out _ hHeld).mono ?_
      rintro E v1 ⟨ka1, kc1, rfl, haw⟩
      have hb1 := hHeld.trans haw
      refine hK.out _ _ hb1 (fun hHeld => ?_)
      clear hK K haw hb1
      try simp only [Act.put, List.setIfInBounds_toArray, List.set_cons_zero, List.set_cons_succ]
      refine wpAnyH_take (i := 2) (v := ?_) (by simp only [List.getElem?_toArray, List.getElem?_cons_succ, List.getElem?_cons_zero]; rfl) (by kernel_rfl) (by kernel_rfl) (by kernel_rfl) (by exact fun _ _ _ h => h) (Or.inl ⟨by rfl, ?_⟩) (by assumption) ?_
      rotate_left
      · intro wq hSw
        (try dsimp only at hSw)
        go_simp
        all_goals (with_reducible rfl)
      try simp only [Act.put, List.setIfInBounds_toArray, List.set_cons_zero, List.set_cons_succ]
      refine wpAnyH_ready (rs := [5]) (by kernel_rfl) (by simp) ?_
      refine AllReadyH.cons (by simp only [List.getElem?_toArray, List.getElem?_cons_succ, List.getElem?_cons_zero]; rfl) (fun K hK => ?_) AllReadyH.nil
      go_simp
      refine (KK1.out _ hHeld).mono ?_
      rintro E v5 ⟨ka5, kc5, rfl, haw⟩
      have hb1 := hHeld.trans haw
      refine hK.out _ _ hb1 (fun hHeld => ?_)
      clear hK K haw hb1
      try simp only [Act.put, List.setIfInBounds_toArray, List.set_cons_zero, List.set_cons_succ]
      refine wpAnyH_take (i := 6) (v := ?_) (by simp only [List.getElem?_toArray, List.getElem?_cons_succ, List.getElem?_cons_zero]; rfl) (by kernel_rfl) (by kernel_rfl) (by kernel_rfl) (by exact fun _ _ _ h => h) (Or.inl ⟨by rfl, ?_⟩) (by assumption) ?_
      rotate_left
      · intro wq hSw
        (try dsimp only at hSw)
        go_simp
        all_goals (with_reducible rfl)
      try simp only [Act.put, List.setIfInBounds_toArray, List.set_cons_zero, List.set_cons_succ]
      refine wpAnyH_ready (rs := [9]) (by kernel_rfl) (by simp) ?_
      refine AllReadyH.cons (by simp only [List.getElem?_toArray, List.getElem?_cons_succ, List.getElem?_cons_zero]; rfl) (fun K hK => ?_) AllReadyH.nil
      go_simp
      refine (KK2.out _ hHeld).mono ?_
      rintro E v9 ⟨ka9, kc9, rfl, haw⟩
      have hb1 := hHeld.trans haw
      refine hK.out _ _ hb1 (fun hHeld => ?_)
      clear hK K haw hb1
      try simp only [Act.put, List.setIfInBounds_toArray, List.set_cons_zero, List.set_cons_succ]
      refine wpAnyH_take (i := 10) (v := ?_) (by simp only [List.getElem?_toArray, List.getElem?_cons_succ, List.getElem?_cons_zero]; rfl) (by kernel_rfl) (by kernel_rfl) (by kernel_rfl) (by exact fun _ _ _ h => h) (Or.inl ⟨by rfl, ?_⟩) (by assumption) ?_
      rotate_left
      · intro wq hSw
        (try dsimp only at hSw)
        go_simp
        all_goals (with_reducible rfl)
      try simp only [Act.put, List.setIfInBounds_toArray, List.set_cons_zero, List.set_cons_succ]
      refine wpAnyH_take (i := 11) (v := ?_) (by simp only [List.getElem?_toArray, List.getElem?_cons_succ, List.getElem?_cons_zero]; rfl) (by kernel_rfl) (by kernel_rfl) (by kernel_rfl) (by exact fun _ _ _ h => h) (Or.inl ⟨by rfl, ?_⟩) (by assumption) ?_
      rotate_left
      · intro wq hSw
        (try dsimp only at hSw)
        go_simp
        all_goals (with_reducible rfl)
      try simp only [Act.put, List.setIfInBounds_toArray, List.set_cons_zero, List.set_cons_succ]
      refine wpAnyH_take (i := 12) (v := ?_) (by simp only [List.getElem?_toArray, List.getElem?_cons_succ, List.getElem?_cons_zero]; rfl) (by kernel_rfl) (by kernel_rfl) (by kernel_rfl) (by exact fun _ _ _ h => h) (Or.inl ⟨by rfl, ?_⟩) (by assumption) ?_
      rotate_left
      · intro wq hSw
        (try dsimp only at hSw)
        go_simp
        all_goals (with_reducible rfl)
      try simp only [Act.put, List.setIfInBounds_toArray, List.set_cons_zero, List.set_cons_succ]
      refine wpAnyH_take (i := 13) (v := ?_) (by simp only [List.getElem?_toArray, List.getElem?_cons_succ, List.getElem?_cons_zero]; rfl) (by kernel_rfl) (by kernel_rfl) (by kernel_rfl) (by exact fun _ _ _ h => h) (Or.inl ⟨by rfl, ?_⟩) (by assumption) ?_
      rotate_left
      · intro wq hSw
        (try dsimp only at hSw)
        go_simp
        all_goals (with_reducible rfl)
      try simp only [Act.put, List.setIfInBounds_toArray, List.set_cons_zero, List.set_cons_succ]
      have HFV := Lib.hid hHeld
      clear hHeld
      refine wpAnyH_done (by kernel_rfl) ?_ _
      go_wp2_with fail
      go_ret
      exact ⟨rfl, (HAF.out.trans HFV.out).to_below⟩
end tableApart
open R
namespace tableApart
theorem contract (H : Type) (enc : TypeId × Value → H) (W : World) (base : Nat) (args : Array Value) (ds gs : List (DataW H)) (before : List MemPlace)
    (hval0 : ∀ (j : Nat) t v, Tryz.f6.params[j]? = some t → args[j]? = some v → Value.okWide Tryz.prog W .any base t v)
    (hW : DataW.Whole enc Tryz.prog Tryz.f6.params.toList Rows.tableApartSpec.vars false W args.toList ds gs before)
    (hsz0 : (DataW.weightsEach Tryz.prog (Tryz.f6.params.toList ++ Rows.tableApartSpec.plain.varTypes Tryz.prog) (ds ++ gs)).all (· ≤ reachBytes) = true)
    (hL : laidMetH Tryz.prog Rows.tableApartRow.laid W) :
    Calls Tryz.prog 6 args W fun e W' => ∃ v, e = .returned v ∧ Rows.tableApartSpec.post enc Tryz.prog Tryz.f6 false true false false W args v W' := by
  have hval := hval0
  have hsz := hsz0
  have hW' := hW
  obtain ⟨p, q, hA0, hV, rfl, hfz, hnd⟩ := hW
  have hA : DataW.TrodAll enc Tryz.prog W 0 (fun _ => true) true Tryz.f6.params.toList args.toList ds p := hA0
  rw [Tryz.params6] at hA hval hsz
  obtain ⟨v0, vs0, d0, ds0, p0, q0, hargs, rfl, rfl, h0, r0⟩ := trodAll_cons hA
  obtain ⟨v1, vs1, d1, ds1, p1, q1, rfl, rfl, rfl, h1, r1⟩ := trodAll_cons r0
  obtain ⟨v2, vs2, d2, ds2, p2, q2, rfl, rfl, rfl, h2, r2⟩ := trodAll_cons r1
  obtain ⟨v3, vs3, d3, ds3, p3, q3, rfl, rfl, rfl, h3, r3⟩ := trodAll_cons r2
  obtain ⟨v4, vs4, d4, ds4, p4, q4, rfl, rfl, rfl, h4, r4⟩ := trodAll_cons r3
  obtain ⟨rfl, rfl, rfl⟩ := trodAll_nil r4
  obtain rfl : args = #[v0, v1, v2, v3, v4] := by cases args; simp_all
  obtain ⟨rfl, rfl⟩ := trodVars_none hV
  have k0 := h0
  have lt0 : ∀ x ∈ p0, x.block < W.heap.size := by obtain ⟨m, hm⟩ := k0; exact DataW.trod_lt m _ _ _ hm
  have z0 : ∀ m ∈ d0.weights Tryz.prog 39, m ≤ reachBytes := fun m hm => by
    have := List.all_eq_true.1 hsz m (DataW.weights_mem_each (j := 0) (t := 39) rfl rfl m hm)
    simpa using this
  obtain ⟨x0, ov0, dv0, rfl, w0, ol0, dl0⟩ := open_pkt (hval 0 39 v0 rfl rfl) h0 z0
  have k1 := h1
  have lt1 : ∀ x ∈ p1, x.block < W.heap.size := by obtain ⟨m, hm⟩ := k1; exact DataW.trod_lt m _ _ _ hm
  have z1 : ∀ m ∈ d1.weights Tryz.prog 39, m ≤ reachBytes := fun m hm => by
    have := List.all_eq_true.1 hsz m (DataW.weights_mem_each (j := 1) (t := 39) rfl rfl m hm)
    simpa using this
  obtain ⟨x1, ov1, dv1, rfl, w1, ol1, dl1⟩ := open_pkt (hval 1 39 v1 rfl rfl) h1 z1
  have k2 := h2
  have lt2 : ∀ x ∈ p2, x.block < W.heap.size := by obtain ⟨m, hm⟩ := k2; exact DataW.trod_lt m _ _ _ hm
  have z2 : ∀ m ∈ d2.weights Tryz.prog 59, m ≤ reachBytes := fun m hm => by
    have := List.all_eq_true.1 hsz m (DataW.weights_mem_each (j := 2) (t := 59) rfl rfl m hm)
    simpa using this
  obtain ⟨a2, len2, cap2, rfl⟩ := okWide_slice Tryz.underlying59 (hval 2 59 v2 rfl rfl)
  obtain ⟨w2, n2⟩ := open_nums h2 z2
  have k3 := h3
  have lt3 : ∀ x ∈ p3, x.block < W.heap.size := by obtain ⟨m, hm⟩ := k3; exact DataW.trod_lt m _ _ _ hm
  have z3 : ∀ m ∈ d3.weights Tryz.prog 59, m ≤ reachBytes := fun m hm => by
    have := List.all_eq_true.1 hsz m (DataW.weights_mem_each (j := 3) (t := 59) rfl rfl m hm)
    simpa using this
  obtain ⟨a3, len3, cap3, rfl⟩ := okWide_slice Tryz.underlying59 (hval 3 59 v3 rfl rfl)
  obtain ⟨w3, n3⟩ := open_nums h3 z3
  have k4 := h4
  have lt4 : ∀ x ∈ p4, x.block < W.heap.size := by obtain ⟨m, hm⟩ := k4; exact DataW.trod_lt m _ _ _ hm
  have z4 : ∀ m ∈ d4.weights Tryz.prog 59, m ≤ reachBytes := fun m hm => by
    have := List.all_eq_true.1 hsz m (DataW.weights_mem_each (j := 4) (t := 59) rfl rfl m hm)
    simpa using this
  obtain ⟨a4, len4, cap4, rfl⟩ := okWide_slice Tryz.underlying59 (hval 4 59 v4 rfl rfl)
  obtain ⟨w4, n4⟩ := open_nums h4 z4
  clear hA0 hval0
  refine (walk x0 ov0 dv0 x1 ov1 dv1 a2 len2 cap2 a3 len3 cap3 a4 len4 cap4 W (glob_of hL) w0 ol0 dl0 w1 ol1 dl1 w2 n2 w3 n3 w4 n4).mono fun e W' ⟨he, bel⟩ => ?_
  subst he
  exact ⟨_, rfl, _, _, _, [], _, [], hW', trodAll_mk1 (shut_bool Tryz.underlying4 _), (trodAll_cons_mk (Below.trod laidOut (by kernel_rfl) (of_decide_eq_true (by kernel_rfl)) k0 bel lt0) (trodAll_cons_mk (Below.trod laidOut (by kernel_rfl) (of_decide_eq_true (by kernel_rfl)) k1 bel lt1) (trodAll_cons_mk (Below.trod laidOut (by kernel_rfl) (of_decide_eq_true (by kernel_rfl)) k2 bel lt2) (trodAll_cons_mk (Below.trod laidOut (by kernel_rfl) (of_decide_eq_true (by kernel_rfl)) k3 bel lt3) (trodAll_cons_mk (Below.trod laidOut (by kernel_rfl) (of_decide_eq_true (by kernel_rfl)) k4 bel lt4) trodAll_mk0))))), rfl, bel.frame _, fun h => by cases h⟩
theorem laid_met (os : Os) : laidMet Tryz.prog Rows.tableApartRow.laid ((laidWorld Tryz.prog os).forCall (fun _ _ => 0) ⟨#[], #[.agg (csP zeroPk (.slice none 0 0) (.slice none 0 0)), .agg (csP zeroPk (.slice none 0 0) (.slice none 0 0)), .slice none 0 0, .slice none 0 0, .slice none 0 0], []⟩).memory :=
  laidMet_of_run' 8 (by kernel_rfl) (by kernel_rfl)
theorem reads (os : Os) {H : Type} (enc : TypeId × Value → H) : ∃ places, DataW.whole enc Tryz.prog ((laidWorld Tryz.prog os).forCall (fun _ _ => 0) ⟨#[], #[.agg (csP zeroPk (.slice none 0 0) (.slice none 0 0)), .agg (csP zeroPk (.slice none 0 0) (.slice none 0 0)), .slice none 0 0, .slice none 0 0, .slice none 0 0], []⟩).memory Tryz.f6.params.toList Rows.tableApartSpec.vars false #[.agg (csP zeroPk (.slice none 0 0) (.slice none 0 0)), .agg (csP zeroPk (.slice none 0 0) (.slice none 0 0)), .slice none 0 0, .slice none 0 0, .slice none 0 0].toList 8 = some ([.agg [.lit (.int .i64 0), .lit (.int .i64 0), .lit (.int .i64 0), .agg [.lit (.int .i64 0), .agg [.lit (.int .u8 0), .lit (.int .u8 0), .lit (.int .u8 0), .lit (.int .u8 0), .lit (.int .u8 0), .lit (.int .u8 0), .lit (.int .u8 0), .lit (.int .u8 0), .lit (.int .u8 0), .lit (.int .u8 0), .lit (.int .u8 0), .lit (.int .u8 0), .lit (.int .u8 0), .lit (.int .u8 0), .lit (.int .u8 0), .lit (.int .u8 0)]], .agg [.lit (.int .i64 0), .agg [.lit (.int .u8 0), .lit (.int .u8 0), .lit (.int .u8 0), .lit (.int .u8 0), .lit (.int .u8 0), .lit (.int .u8 0), .lit (.int .u8 0), .lit (.int .u8 0), .lit (.int .u8 0), .lit (.int .u8 0), .lit (.int .u8 0), .lit (.int .u8 0), .lit (.int .u8 0), .lit (.int .u8 0), .lit (.int .u8 0), .lit (.int .u8 0)]], .lit (.int .i64 0), .lit (.int .i64 0), .lit (.int .u32 0), .lit (.bool false), .lit (.bool false), .lit (.bool false), .lit (.int .i64 0), .nil, .nil], .agg [.lit (.int .i64 0), .lit (.int .i64 0), .lit (.int .i64 0), .agg [.lit (.int .i64 0), .agg [.lit (.int .u8 0), .lit (.int .u8 0), .lit (.int .u8 0), .lit (.int .u8 0), .lit (.int .u8 0), .lit (.int .u8 0), .lit (.int .u8 0), .lit (.int .u8 0), .lit (.int .u8 0), .lit (.int .u8 0), .lit (.int .u8 0), .lit (.int .u8 0), .lit (.int .u8 0), .lit (.int .u8 0), .lit (.int .u8 0), .lit (.int .u8 0)]], .agg [.lit (.int .i64 0), .agg [.lit (.int .u8 0), .lit (.int .u8 0), .lit (.int .u8 0), .lit (.int .u8 0), .lit (.int .u8 0), .lit (.int .u8 0), .lit (.int .u8 0), .lit (.int .u8 0), .lit (.int .u8 0), .lit (.int .u8 0), .lit (.int .u8 0), .lit (.int .u8 0), .lit (.int .u8 0), .lit (.int .u8 0), .lit (.int .u8 0), .lit (.int .u8 0)]], .lit (.int .i64 0), .lit (.int .i64 0), .lit (.int .u32 0), .lit (.bool false), .lit (.bool false), .lit (.bool false), .lit (.int .i64 0), .nil, .nil], .nil, .nil, .nil], [], places) :=
  ⟨[], by kernel_rfl⟩
theorem lifted (os : Os) (started : os.Started) (H : Type) (enc : TypeId × Value → H) (F : Stop.Interp) :
    ReturnsInHanded {} Tryz.checked os 6 .any ((OpenSpec.ofChange Rows.tableApartSpec).preRow enc Tryz.prog Tryz.f6 Rows.tableApartRow.domain false Rows.tableApartRow.laid) (((OpenSpec.ofChange Rows.tableApartSpec).at F).post enc Tryz.prog Tryz.f6 false true false false) := by
  obtain ⟨places, hx⟩ := reads os enc
  refine returnsInHanded_of_row (C := Tryz.checked) (s := OpenSpec.ofChange Rows.tableApartSpec) ownKn started (by kernel_rfl) Tryz.func6
    (witness_row_at (enc := enc) (C := Tryz.checked) false (laidWorld Tryz.prog os) #[.agg (csP zeroPk (.slice none 0 0) (.slice none 0 0)), .agg (csP zeroPk (.slice none 0 0) (.slice none 0 0)), .slice none 0 0, .slice none 0 0, .slice none 0 0] rfl (by kernel_rfl) (by kernel_rfl) (by kernel_rfl)
      (OpenSpec.preRow_of_cond 8 hx (by kernel_rfl) (fun k hk => by cases hk) (by kernel_rfl) (laid_met os))) ?_
  intro W base args ds gs before hval hW _ hcond hsz hL hS _
  exact contract H enc W base args ds gs before hval hW hsz hL
theorem said : Rows.TableApartSaid :=
  OpenClaim.holds_of_cond 6 Tryz.f6 rfl rfl rfl rfl rfl rfl rfl ⟨rfl, rfl, rfl, rfl, rfl⟩ rfl rfl rfl rfl rfl (by kernel_rfl) Tryz.func6 (by kernel_rfl)
    (of_decide_eq_true (by kernel_rfl)) (by unfold Func.isWrapper; first | (rw [if_pos (by decide +kernel)]; kernel_rfl) | (rw [if_neg (by decide +kernel)]; exact ⟨rfl, rfl⟩))
    (fun os started H enc _ F => by rw [OpenClaim.pre_eq_preRow]; exact lifted os started H enc F)
theorem plain (f : FuncId) (fn : Func) (hf : Tryz.pinned.checked.prog.funcNamed "mosaic/mosaiclaw15.TableApart" = some f) (hfn : Tryz.pinned.checked.prog.funcs[f]? = some fn) :
    false = Tryz.pinned.checked.prog.looks [] ∧ ∀ (j : Nat) t, fn.params[j]? = some t → Tryz.pinned.checked.prog.wantsStandIn t = false := by
  obtain rfl : f = 6 := Option.some.inj ((show Tryz.prog.funcNamed "mosaic/mosaiclaw15.TableApart" = some 6 by kernel_rfl).symm.trans hf) |>.symm
  obtain rfl : fn = Tryz.f6 := (Option.some.inj (Tryz.func6.symm.trans hfn)).symm
  refine ⟨by kernel_rfl, fun j t ht => ?_⟩
  rw [Tryz.params6] at ht
  have hm := Array.mem_of_getElem? ht
  simp only [List.mem_toArray, List.mem_cons, List.not_mem_nil, or_false] at hm
  have hw0 : Tryz.prog.wantsStandIn 39 = false := by kernel_rfl
  have hw1 : Tryz.prog.wantsStandIn 39 = false := by kernel_rfl
  have hw2 : Tryz.prog.wantsStandIn 59 = false := by kernel_rfl
  have hw3 : Tryz.prog.wantsStandIn 59 = false := by kernel_rfl
  have hw4 : Tryz.prog.wantsStandIn 59 = false := by kernel_rfl
  rcases hm with rfl | rfl | rfl | rfl | rfl
  all_goals first | exact hw0 | exact hw1 | exact hw2 | exact hw3 | exact hw4
theorem card : Rows.TableApartCardSaid :=
  Claim7.holds_tied_plain_at .later [] _ _ _ _ said (fun _ h => by cases h) (by kernel_rfl) (fun _ h => by cases h) tableApart_row_tie rfl ⟨rfl, rfl⟩ (by kernel_rfl) rfl plain (by kernel_rfl)
end tableApart
theorem tableApart_holds : Rows.TableApartCardSaid := tableApart.card
end Go.Proofs.YtkccpidgeecemaaGreatDoor
