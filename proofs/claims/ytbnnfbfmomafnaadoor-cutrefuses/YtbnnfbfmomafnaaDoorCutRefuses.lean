/-
  CutRefuses.
-/
import Derived.Test.YtbnnfbfmomafnaaDoorKit
namespace Go.Proofs.YtbnnfbfmomafnaaDoor
open Go.ChangeShapes Go.WideShapes Go.ChangeAt Go.RowKit Go.Deep Num S6
set_option linter.unusedVariables false
set_option maxHeartbeats 4000000
set_option maxRecDepth 100000

namespace cutRefuses
theorem and65535 (n : Int) : 0 ≤ bits .and .i64 n 65535 ∧ bits .and .i64 n 65535 ≤ 65535 := by
  have h : (BitVec.ofInt 64 65535).toNat = 65535 := by decide
  have key : (BitVec.ofInt 64 n &&& BitVec.ofInt 64 65535).toNat ≤ 65535 := by rw [BitVec.toNat_and, h]; exact Nat.and_le_right
  have e : bits .and .i64 n 65535 = IntKind.i64.wrap ((BitVec.ofInt 64 n &&& BitVec.ofInt 64 65535).toNat : Nat) := rfl
  rw [e, IntKind.wrap_i64]
  generalize (BitVec.ofInt 64 n &&& BitVec.ofInt 64 65535).toNat = m at *
  omega
theorem no_more {p : Pk} {m : Int} (h : p.more = true) : (uncutP p && mtuP m p.v) = false := by unfold uncutP; rw [h]; simp
theorem no_frag {p : Pk} {m : Int} (h : p.frag = true) : (uncutP p && mtuP m p.v) = false := by unfold uncutP; rw [h]; simp
theorem no_off {p : Pk} {m : Int} (h : p.off ≠ 0) : (uncutP p && mtuP m p.v) = false := by unfold uncutP; rw [decide_eq_false h]; simp
theorem no_mtu {p : Pk} {m : Int} (h : mtuP m p.v = false) : (uncutP p && mtuP m p.v) = false := by rw [h]; simp
theorem no_right {p : Pk} {m : Int} (h : rgtP p = false) : (uncutP p && mtuP m p.v) = false := by
  have : uncutP p = false := by
    rw [Bool.eq_false_iff]; intro e; have := ((uncut_iff p).1 e).r; rw [h] at this; simp at this
  rw [this]; rfl
theorem no_v5 {p : Pk} (h : p.v = 5) : rgtP p = false := by
  rw [Bool.eq_false_iff]; intro e; unfold rgtP at e
  rw [if_neg (by omega), right_iff] at e
  have := e.1.v; omega
theorem no_ttl {p : Pk} (h : p.ttl = 256) : rgtP p = false := by
  rw [Bool.eq_false_iff]; intro e; unfold rgtP at e
  by_cases hv : p.v = 6
  · rw [if_pos hv, S6.right_iff] at e; have := e.l1; omega
  · rw [if_neg hv, right_iff] at e; have := e.1.l1; omega
theorem Wf.set {p : Pk} (h : Wf p) (v tos ttl off : Int) (more frag : Bool) (d : List Int) (hv : i64ok v) (ht : i64ok ttl) (ho : i64ok off) (hd : Bytes d) (hn : d.length ≤ 140737488355328) : Wf { p with v := v, ttl := ttl, off := off, more := more, frag := frag, d := d } :=
  ⟨hv, h.tos, h.flow, h.sv, h.sl, h.sb, h.dv, h.dl, h.db, h.proto, ht, h.id0, h.id1, ho, h.o, h.ol, hd, hn⟩
theorem walk (p : Pk) (ov dv : Value) (which number : Int) (w : World) (hg : Glob w) (hp : Pkt w p ov dv) (hol : p.o.length ≤ 140737488351232) (hdl : p.d.length ≤ 140737488351232) (hw1 : (Lit.int .i64 which).wf = true) (hw2 : (Lit.int .i64 number).wf = true) :
    Calls Tryd.prog 3 #[.agg (csP p ov dv), .int .i64 which, .int .i64 number] w fun E w' => E = .returned (.bool true) ∧ Below w.heap.size w w' := by
  have HAD := Lib.hid hp.wf.ad
  have HP := Lib.hid hp; have HG := Lib.hid hg
  clear hp hg hw1 hw2 hol hdl
  go_enter Tryd.func3, Tryd.ntmps3
  go_wp2_with (refine wpList_box28 rfl _ rfl p _ _ rfl ?_; refine Hid.out ?_)
  refine Lib.hid ?_
  intro g3 w1 hg3 hb haw
  have HB3 := Lib.hid hb; have HA := Lib.hid haw
  replace HP := Lib.hid (HP.out.on haw)
  replace HG := Lib.hid (HG.out.on haw)
  clear hb haw hg3
  go_wp2_with fail
  refine (alive_c _ HG.out).mono ?_
  rintro E w2 ⟨rfl, haw⟩
  replace HB3 := Lib.hid (HB3.out.on haw)
  replace HA := Lib.hid (HA.out.on haw)
  replace HP := Lib.hid (HP.out.on haw)
  replace HG := Lib.hid (HG.out.on haw)
  clear haw
  go_wp2_with (refine wpList_load28 rfl _ rfl g3 rfl p _ _ (by exact HB3.out) HAD.out ?_)
  refine (mended_c p ov dv _ HP.out HG.out).mono ?_
  rintro E w3 ⟨q, qo, qd, rfl, hu, hwf, hqv, hmine, haw⟩
  have HA3 : Hid (w.heap.size ≤ w3.heap.size) := by show _ ≤ _; have := HA.out.size; have := haw.size; omega
  have HG3 : Hid (0 < w3.heap.size) := by show 0 < _; have := HG.out.pos; have := haw.size; omega
  have HOLD3 : Hid ((q.o ≠ [] → ∀ k, qo.ownBlock = some k → k < w3.heap.size) ∧ (q.d ≠ [] → ∀ k, qd.ownBlock = some k → k < w3.heap.size)) := ⟨(hmine.pkt hwf).o.old, (hmine.pkt hwf).d.old⟩
  have HU := Lib.hid hu; have HW := Lib.hid hwf; have HQA := Lib.hid hwf.ad
  have HQ := Lib.hid (hmine.pkt hwf)
  have HO1 := Lib.hid hmine.o.one; have HD1 := Lib.hid hmine.d.one
  replace HA := Lib.hid (HA.out.on haw)
  replace HG := Lib.hid (HG.out.on haw)
  clear haw hu hwf hmine HB3 HP HAD
  go_wp2_with (refine wpList_new28 rfl rfl rfl _ _ rfl q qo qd (fun g => rfl) (fun g => rfl) HQA.out HO1.out HD1.out ?_; refine Hid.out ?_)
  refine Lib.hid ?_
  intro g7 w4 hg7 hb haw
  have HB := Lib.hid hb
  have hl7 := hb.lt
  replace HA := Lib.hid (HA.out.on haw)
  replace HG := Lib.hid (HG.out.on haw)
  replace HQ := Lib.hid (HQ.out.on haw)
  have HN7 : Hid (w.heap.size ≤ g7 ∧ 0 < g7) := by
    have h1 := HA.out.size; have h2 := haw.size; have h3 := HG.out.pos
    have h5 : w.heap.size ≤ w3.heap.size := HA3.out
    have h6 : 0 < w3.heap.size := HG3.out
    exact ⟨by omega, by omega⟩
  have HOLD : Hid ((q.o ≠ [] → ∀ k, qo.ownBlock = some k → k ≠ g7) ∧ (q.d ≠ [] → ∀ k, qd.ownBlock = some k → k ≠ g7)) := by
    have h1 := HOLD3.out
    exact ⟨fun h k hk => by have := h1.1 h k hk; omega, fun h k hk => by have := h1.2 h k hk; omega⟩
  clear hb haw hg7
  have c0 := (HB.out.cells HQA.out).v
  have KL : Hid (∀ w', Calls Tryd.prog 11 #[.int .i64 q.v, .int .i64 number] w' fun E w'' => ∃ m, E = .returned (.int .i64 m) ∧ mtuP m q.v = true ∧ w'' = w') := fun w' => link_c q.v number hqv w'
  go_wp2_with fail
  refine (KL.out _).mono ?_
  rintro E _ ⟨m, rfl, hm, rfl⟩
  have HM := Lib.hid hm
  clear hm c0 KL
  go_wp2_with (refine wpList_load28 rfl _ rfl g7 rfl q _ _ (by exact HB.out) HQA.out ?_)
  refine (ownP_c q qo qd _ HQ.out).mono ?_
  rintro E w5 ⟨lo, ld, rfl, hmine, haw⟩
  have HLP := Lib.hid (hmine.pkt HW.out)
  have HLN := Lib.hid (show ∀ k, lo.ownBlock = some k ∨ ld.ownBlock = some k → k ≠ g7 from fun k hk => by have := (hmine.lto k hk).2; omega)
  replace HA := Lib.hid (HA.out.on haw)
  replace HG := Lib.hid (HG.out.on haw)
  replace HQ := Lib.hid (HQ.out.on haw)
  replace HB := Lib.hid (HB.out.on haw)
  have hs5 := haw.size
  clear haw hmine
  go_wp2_with (refine wpList_build28 rfl _ rfl q lo ld rfl HQA.out ?_; refine Hid.out ?_)
  refine Lib.hid ?_
  intro gl wd hgl hbl haw
  replace HA := Lib.hid (HA.out.on haw)
  replace HG := Lib.hid (HG.out.on haw)
  replace HQ := Lib.hid (HQ.out.on haw)
  replace HB := Lib.hid (HB.out.on haw)
  replace HLP := Lib.hid (HLP.out.on haw)
  have HBL := Lib.hid hbl
  have HNL : Hid (gl ≠ g7) := by show _ ≠ _; omega
  clear haw hbl hgl hl7 hs5
  obtain ⟨c, hc⟩ : ∃ c, bits .and .i64 which 7 = c := ⟨_, rfl⟩
  have hcc := hc
  obtain ⟨e, he⟩ : ∃ e, bits .and .i64 number 65535 = e := ⟨_, rfl⟩
  have hee := he
  have BE := and65535 number
  rw [he] at BE
  go_upto_block 0 with fail
  go_cut [8] (fun mv wc => ∃ q' du m', mv = .int .i64 m' ∧ BoxP wc g7 q' qo du ∧ Pkt wc q' qo du ∧ (uncutP q' && mtuP m' q'.v) = false ∧ Away [g7] wd wc)
  case first =>
    have cc := HB.out.cells HQA.out
    have s0 := cc.v; have s38 := cc.ttl; have s41 := cc.more; have s42 := cc.frag; have s43 := cc.off
    clear cc
    have f0 := HB.out.free 0; have f38 := HB.out.free 38; have f41 := HB.out.free 41; have f42 := HB.out.free 42; have f43 := HB.out.free 43
    have HPQ : ∀ (q' : Pk) (w' : World), Away [g7] wd w' → Wf q' → q'.o = q.o → q'.d = q.d → Pkt w' q' qo qd := fun q' w' hA h1 h2 h3 => ⟨h1, by rw [h2]; exact HQ.out.o.away hA (fun h k hk => by have := HOLD.out.1 h k hk; simpa using this), by rw [h3]; exact HQ.out.d.away hA (fun h k hk => by have := HOLD.out.2 h k hk; simpa using this)⟩
    have HPQ' := Lib.hid HPQ
    clear HPQ
    have hw := HW.out
    have hv64 := hw.v; have ht64 := hw.ttl; have ho64 := hw.off
    by_cases c0 : c = 0
    · subst c0
      obtain ⟨da, dc, hqd, hd1, hd2, hd3⟩ := HQ.out.d
      subst hqd
      have s45 := (HB.out.cells HQA.out).d
      have f45 := HB.out.free 45
      have hdn := hw.dn
      have hsl := slice_h da q.d.length dc (q.d.length / 8 * 8) ((q.d.length : Int) / 8 * 8) (by omega) (by omega)
      have hlt8 : (q.d.take (q.d.length / 8 * 8)).length = q.d.length / 8 * 8 := by simp; omega
      have HL8 := Lib.hid hlt8
      have HD2 := Lib.hid hd2
      clear hd2 hd3 hlt8
      rcases hqv with hv4 | hv6
      · rw [hv4] at s0
        have B1 := HB.out.put 41 (.bool true) ((csP_set (p := q) HQA.out _ _).2.2.2.2.2.2.2.2.2.1 true)
        have B2 := B1.put 42 (.bool false) ((csP_set (p := { q with more := true }) HQA.out _ _).2.2.2.2.2.2.2.2.2.2.1 false)
        have B3 := B2.put 45 (.slice da (q.d.length / 8 * 8) dc) ((csP_set (p := { q with more := true, frag := false }) HQA.out _ _).2.2.2.2.2.2.2.2.2.2.2.2.2 (q.d.take (q.d.length / 8 * 8)) (.slice da (q.d.length / 8 * 8) dc))
        have HBX := Lib.hid B3; have HAX := Lib.hid (((away_put (w := wd) (g := g7) 41 (.bool true)).trans (away_put 42 (.bool false))).trans (away_put 45 (.slice da (q.d.length / 8 * 8) dc)))
        clear B1 B2 B3
        go_wp2_with fail
        go_meet
        refine ⟨_, _, m, rfl, HBX.out, ⟨(Wf.set hw q.v q.tos q.ttl q.off true false (q.d.take (q.d.length / 8 * 8)) hv64 ht64 ho64 (hw.d.take _) (by rw [HL8.out]; omega)), ?_, ?_⟩, no_more rfl, HAX.out⟩
        · exact HQ.out.o.away HAX.out (fun h k hk => by have := HOLD.out.1 h k hk; simpa using this)
        · have hs := HQ.out.d.away HAX.out (fun h k hk => by have := HOLD.out.2 h k hk; simpa using this)
          exact ⟨da, dc, by rw [HL8.out], by rw [HL8.out]; omega, HD2.out, hs.of.2.2.2.head _⟩
      · rw [hv6] at s0
        have B1 := HB.out.put 41 (.bool true) ((csP_set (p := q) HQA.out _ _).2.2.2.2.2.2.2.2.2.1 true)
        have B2 := B1.put 42 (.bool true) ((csP_set (p := { q with more := true }) HQA.out _ _).2.2.2.2.2.2.2.2.2.2.1 true)
        have B3 := B2.put 45 (.slice da (q.d.length / 8 * 8) dc) ((csP_set (p := { q with more := true, frag := true }) HQA.out _ _).2.2.2.2.2.2.2.2.2.2.2.2.2 (q.d.take (q.d.length / 8 * 8)) (.slice da (q.d.length / 8 * 8) dc))
        have HBX := Lib.hid B3; have HAX := Lib.hid (((away_put (w := wd) (g := g7) 41 (.bool true)).trans (away_put 42 (.bool true))).trans (away_put 45 (.slice da (q.d.length / 8 * 8) dc)))
        clear B1 B2 B3
        go_wp2_with fail
        go_meet
        refine ⟨_, _, m, rfl, HBX.out, ⟨(Wf.set hw q.v q.tos q.ttl q.off true true (q.d.take (q.d.length / 8 * 8)) hv64 ht64 ho64 (hw.d.take _) (by rw [HL8.out]; omega)), ?_, ?_⟩, no_more rfl, HAX.out⟩
        · exact HQ.out.o.away HAX.out (fun h k hk => by have := HOLD.out.1 h k hk; simpa using this)
        · have hs := HQ.out.d.away HAX.out (fun h k hk => by have := HOLD.out.2 h k hk; simpa using this)
          exact ⟨da, dc, by rw [HL8.out], by rw [HL8.out]; omega, HD2.out, hs.of.2.2.2.head _⟩
    have d0 : decide (c = 0) = false := by simp [c0]
    by_cases c1 : c = 1
    · subst c1
      rcases hqv with hv4 | hv6
      · rw [hv4] at s0
        have B1 := HB.out.put 43 (.int .i64 8) ((csP_set (p := q) HQA.out _ _).2.2.2.2.2.2.2.2.2.2.2.1 8)
        have B2 := B1.put 42 (.bool false) ((csP_set (p := { q with off := 8 }) HQA.out _ _).2.2.2.2.2.2.2.2.2.2.1 false)
        have HBX := Lib.hid B2; have HAX := Lib.hid ((away_put (w := wd) (g := g7) 43 (.int .i64 8)).trans (away_put 42 (.bool false)))
        clear B1 B2
        go_wp2_with fail
        go_meet
        exact ⟨_, _, m, rfl, HBX.out, HPQ'.out _ _ HAX.out (Wf.set hw q.v q.tos q.ttl 8 q.more false q.d hv64 ht64 (by simp [i64ok]) hw.d hw.dn) rfl rfl, no_off (by show (8 : Int) ≠ 0; omega), HAX.out⟩
      · rw [hv6] at s0
        have B1 := HB.out.put 43 (.int .i64 8) ((csP_set (p := q) HQA.out _ _).2.2.2.2.2.2.2.2.2.2.2.1 8)
        have B2 := B1.put 42 (.bool true) ((csP_set (p := { q with off := 8 }) HQA.out _ _).2.2.2.2.2.2.2.2.2.2.1 true)
        have HBX := Lib.hid B2; have HAX := Lib.hid ((away_put (w := wd) (g := g7) 43 (.int .i64 8)).trans (away_put 42 (.bool true)))
        clear B1 B2
        go_wp2_with fail
        go_meet
        exact ⟨_, _, m, rfl, HBX.out, HPQ'.out _ _ HAX.out (Wf.set hw q.v q.tos q.ttl 8 q.more true q.d hv64 ht64 (by simp [i64ok]) hw.d hw.dn) rfl rfl, no_off (by show (8 : Int) ≠ 0; omega), HAX.out⟩
    have d1 : decide (c = 1) = false := by simp [c1]
    by_cases c2 : c = 2
    · subst c2
      have B1 := HB.out.put 42 (.bool true) ((csP_set (p := q) HQA.out _ _).2.2.2.2.2.2.2.2.2.2.1 true)
      have HBX := Lib.hid B1; have HAX := Lib.hid (away_put (w := wd) (g := g7) 42 (.bool true))
      clear B1
      go_wp2_with fail
      go_meet
      exact ⟨_, _, m, rfl, HBX.out, HPQ'.out _ _ HAX.out (Wf.set hw q.v q.tos q.ttl q.off q.more true q.d hv64 ht64 ho64 hw.d hw.dn) rfl rfl, no_frag rfl, HAX.out⟩
    have d2 : decide (c = 2) = false := by simp [c2]
    by_cases c3 : c = 3
    · subst c3
      rcases hqv with hv4 | hv6
      · have HV := Lib.hid hv4
        rw [hv4] at s0
        go_wp2_with fail
        go_meet
        exact ⟨q, qd, 67, rfl, HB.out, HQ.out, no_mtu (by rw [HV.out]; decide), Away.refl _ _⟩
      · have HV := Lib.hid hv6
        rw [hv6] at s0
        go_wp2_with fail
        go_meet
        exact ⟨q, qd, 1279, rfl, HB.out, HQ.out, no_mtu (by rw [HV.out]; decide), Away.refl _ _⟩
    have d3 : decide (c = 3) = false := by simp [c3]
    by_cases c4 : c = 4
    · subst c4
      go_wp2_with fail
      go_meet
      exact ⟨q, qd, 65536 + e, rfl, HB.out, HQ.out, no_mtu (by unfold mtuP; rw [show decide (65536 + e ≤ 65535) = false from by simp; omega]; simp), Away.refl _ _⟩
    have d4 : decide (c = 4) = false := by simp [c4]
    by_cases c5 : c = 5
    · subst c5
      go_wp2_with fail
      go_meet
      exact ⟨q, qd, -e, rfl, HB.out, HQ.out, no_mtu (by unfold mtuP; rw [show decide ((if q.v = 6 then (1280 : Int) else 68) ≤ -e) = false from by simp; split <;> omega]; rfl), Away.refl _ _⟩
    have d5 : decide (c = 5) = false := by simp [c5]
    by_cases c6 : c = 6
    · subst c6
      have B1 := HB.out.put 0 (.int .i64 5) ((csP_set (p := q) HQA.out _ _).1 (5))
      have HBX := Lib.hid B1; have HAX := Lib.hid (away_put (w := wd) (g := g7) 0 (.int .i64 5))
      clear B1
      go_wp2_with fail
      go_meet
      exact ⟨_, _, m, rfl, HBX.out, HPQ'.out _ _ HAX.out (Wf.set hw 5 q.tos q.ttl q.off q.more q.frag q.d (by simp [i64ok]) ht64 ho64 hw.d hw.dn) rfl rfl, no_right (no_v5 rfl), HAX.out⟩
    have d6 : decide (c = 6) = false := by simp [c6]
    have B1 := HB.out.put 38 (.int .i64 256) ((csP_set (p := q) HQA.out _ _).2.2.2.2.2.2.1 (256))
    have HBX := Lib.hid B1; have HAX := Lib.hid (away_put (w := wd) (g := g7) 38 (.int .i64 256))
    clear B1
    go_wp2_with fail
    go_meet
    exact ⟨_, _, m, rfl, HBX.out, HPQ'.out _ _ HAX.out (Wf.set hw q.v q.tos 256 q.off q.more q.frag q.d hv64 (by simp [i64ok]) ho64 hw.d hw.dn) rfl rfl, no_right (no_ttl rfl), HAX.out⟩
  case rest =>
    obtain ⟨q', du, m', rfl, hbq, hpq, hno, haw⟩ := hcut
    generalize wc = we at *
    have HB7 := Lib.hid hbq; have HP7 := Lib.hid hpq; have HNO := Lib.hid hno
    have HAD := Lib.hid hpq.wf.ad
    have hn7 := HN7.out
    replace HG := Lib.hid (HG.out.away haw (by simp; omega))
    replace HA := Lib.hid (HA.out.next haw (fun x hx => .inr (by simp at hx; omega)))
    replace HBL := Lib.hid (HBL.out.away haw (by simp; exact HNL.out))
    replace HLP : Hid (Pkt we q lo ld) := ⟨HW.out, HLP.out.o.away haw (fun h k hk => by have := HLN.out k (.inl hk); simpa using this), HLP.out.d.away haw (fun h k hk => by have := HLN.out k (.inr hk); simpa using this)⟩
    clear hbq hpq hno haw HB HQ HOLD HOLD3 hcc hee hc he
    have HL : Hid (Pks we (some ⟨gl, 0, none⟩) [⟨q, lo, ld⟩]) := by
      obtain ⟨a', c', hv', -, -, hp', -⟩ := (lst_one HBL.out HQA.out).pks (by simp) (fun x hx => by simp at hx; subst hx; exact HLP.out)
      simp only [List.length_singleton, Value.slice.injEq] at hv'
      show Pks _ _ _
      rw [hv'.1]; exact hp'
    go_wp2_with (refine wpList_load28 rfl _ rfl g7 rfl q' _ _ (by exact HB7.out) HAD.out ?_)
    refine (ownP_c q' qo du _ HP7.out).mono ?_
    rintro E wf1 ⟨no, nd, rfl, hmine, haw⟩
    have HNP := Lib.hid (hmine.pkt HP7.out.wf)
    replace HA := Lib.hid (HA.out.on haw)
    replace HG := Lib.hid (HG.out.on haw)
    replace HB7 := Lib.hid (HB7.out.on haw)
    replace HP7 := Lib.hid (HP7.out.on haw)
    replace HL := Lib.hid (HL.out.on haw)
    clear haw hmine
    go_wp2_with fail
    refine (cut_c q' no nd m' 3 _ HNP.out HG.out (by omega) (by omega)).mono ?_
    rintro E wg ⟨v, xs, rfl, hcu, hxm, haw⟩
    rw [cut_not HNO.out] at hxm ⊢
    obtain rfl : xs = [] := List.map_eq_nil_iff.1 hxm
    obtain ⟨va, vc, hv, -, -, -, -⟩ := hcu.pks (by simp)
    simp only [List.length_nil] at hv
    subst hv
    replace HA := Lib.hid (HA.out.on haw)
    replace HG := Lib.hid (HG.out.on haw)
    replace HB7 := Lib.hid (HB7.out.on haw)
    replace HP7 := Lib.hid (HP7.out.on haw)
    replace HL := Lib.hid (HL.out.on haw)
    clear haw hcu hxm HNP
    have K1 : Hid (∀ w', Away [] wg w' → Calls Tryd.prog 14 #[.agg (csP q' qo du), .int .i64 m', .slice (some ⟨gl, 0, none⟩) 1 1] w' fun E w'' => E = .returned (.bool false) ∧ Away [] w' w'') := fun w' h => by
      have := is_c q' qo du m' (some ⟨gl, 0, none⟩) [⟨q, lo, ld⟩] 1 1 w' rfl (HP7.out.on h) (HL.out.on h) (HG.out.on h)
      rw [is_not _ HNO.out] at this
      exact this
    go_wp2_with fail
    refine wp_region_held_drew (S := (fun w' => Away [] wg w')) (by kernel_rfl) ((Away.refl [] wg).drew) (fun hHeld => ?_)
    refine wpAnyH_take (i := 0) (v := ?_) (by simp only [List.getElem?_toArray, List.getElem?_cons_zero]; rfl) (by kernel_rfl) (by kernel_rfl) (by kernel_rfl) (by exact fun _ _ _ h => h) (Or.inl ⟨by rfl, ?_⟩) (by assumption) ?_
    rotate_left
    · intro wq hSw
      (try dsimp only at hSw)
      go_simp
      all_goals (with_reducible rfl)
    try simp only [Act.put, List.setIfInBounds_toArray, List.set_cons_zero, List.set_cons_succ]
    refine wpAnyH_take (i := 1) (v := ?_) (by simp only [List.getElem?_toArray, List.getElem?_cons_succ, List.getElem?_cons_zero]; rfl) (by kernel_rfl) (by kernel_rfl) (by kernel_rfl) (by exact fun _ _ _ h => h) (Or.inl ⟨by rfl, ?_⟩) (by assumption) ?_
    rotate_left
    · intro wq hSw
      (try dsimp only at hSw)
      go_simp
      all_goals (with_reducible rfl)
    try simp only [Act.put, List.setIfInBounds_toArray, List.set_cons_zero, List.set_cons_succ]
    refine wpAnyH_take (i := 2) (v := ?_) (by simp only [List.getElem?_toArray, List.getElem?_cons_succ, List.getElem?_cons_zero]; rfl) (by kernel_rfl) (by kernel_rfl) (by kernel_rfl) (by exact fun _ _ _ h => h) (Or.inl ⟨by rfl, ?_⟩) (by assumption) ?_
    rotate_left
    · intro wq hSw
      (try dsimp only at hSw)
      go_simp
      all_goals (with_reducible rfl)
    try simp only [Act.put, List.setIfInBounds_toArray, List.set_cons_zero, List.set_cons_succ]
    refine wpAnyH_take (i := 3) (v := ?_) (by simp only [List.getElem?_toArray, List.getElem?_cons_succ, List.getElem?_cons_zero]; rfl) (by kernel_rfl) (by kernel_rfl) (by kernel_rfl) (by exact fun _ _ _ h => h) (Or.inl ⟨by rfl, ?_⟩) (by assumption) ?_
    rotate_left
    · intro wq hSw
      (try dsimp only at hSw)
      go_simp
      all_goals (with_reducible rfl)
    try simp only [Act.put, List.setIfInBounds_toArray, List.set_cons_zero, List.set_cons_succ]
    refine wpAnyH_take (i := 4) (v := ?_) (by simp only [List.getElem?_toArray, List.getElem?_cons_succ, List.getElem?_cons_zero]; rfl) (by kernel_rfl) (by kernel_rfl) (by kernel_rfl) (by exact fun _ _ _ h => h) (Or.inl ⟨by rfl, ?_⟩) (by assumption) ?_
    rotate_left
    · intro wq hSw
      (try dsimp only at hSw)
      go_simp
      all_goals (with_reducible rfl)
    try simp only [Act.put, List.setIfInBounds_toArray, List.set_cons_zero, List.set_cons_succ]
    refine wpAnyH_take (i := 5) (v := ?_) (by simp only [List.getElem?_toArray, List.getElem?_cons_succ, List.getElem?_cons_zero]; rfl) (by kernel_rfl) (by kernel_rfl) (by kernel_rfl) (by exact fun _ _ _ h => h) (Or.inl ⟨by rfl, ?_⟩) (by assumption) ?_
    rotate_left
    · intro wq hSw
      (try dsimp only at hSw)
      go_simp
      all_goals (with_reducible rfl)
    try simp only [Act.put, List.setIfInBounds_toArray, List.set_cons_zero, List.set_cons_succ]
    refine wpAnyH_take (i := 6) (v := ?_) (by simp only [List.getElem?_toArray, List.getElem?_cons_succ, List.getElem?_cons_zero]; rfl) (by kernel_rfl) (by kernel_rfl) (by kernel_rfl) (by exact fun _ _ _ h => h) (Or.inl ⟨by rfl, ?_⟩) (by assumption) ?_
    rotate_left
    · intro wq hSw
      (try dsimp only at hSw)
      go_simp
      all_goals (with_reducible rfl)
    try simp only [Act.put, List.setIfInBounds_toArray, List.set_cons_zero, List.set_cons_succ]
    refine wpAnyH_take (i := 7) (v := ?_) (by simp only [List.getElem?_toArray, List.getElem?_cons_succ, List.getElem?_cons_zero]; rfl) (by kernel_rfl) (by kernel_rfl) (by kernel_rfl) (by exact fun _ _ _ h => h) (Or.inl ⟨by rfl, ?_⟩) (by assumption) ?_
    rotate_left
    · intro wq hSw
      (try dsimp only at hSw)
      go_simp
      all_goals (with_reducible rfl)
    try simp only [Act.put, List.setIfInBounds_toArray, List.set_cons_zero, List.set_cons_succ]
    refine wpAnyH_take (i := 8) (by simp only [List.getElem?_toArray, List.getElem?_cons_succ, List.getElem?_cons_zero]; rfl) (by kernel_rfl) (by kernel_rfl) (by kernel_rfl) (by exact fun _ _ _ h => h) (yields_ld (ad := ⟨g7, 0, none⟩) (by rfl) _ rfl rfl (fun w' h => load28_run (HB7.out.on h) HAD.out)) (by assumption) ?_
    try simp only [Act.put, List.setIfInBounds_toArray, List.set_cons_zero, List.set_cons_succ]
    refine wpAnyH_take (i := 9) (v := ?_) (by simp only [List.getElem?_toArray, List.getElem?_cons_succ, List.getElem?_cons_zero]; rfl) (by kernel_rfl) (by kernel_rfl) (by kernel_rfl) (by exact fun _ _ _ h => h) (Or.inl ⟨by rfl, ?_⟩) (by assumption) ?_
    rotate_left
    · intro wq hSw
      (try dsimp only at hSw)
      go_simp
      all_goals (with_reducible rfl)
    try simp only [Act.put, List.setIfInBounds_toArray, List.set_cons_zero, List.set_cons_succ]
    refine wpAnyH_take (i := 10) (v := ?_) (by simp only [List.getElem?_toArray, List.getElem?_cons_succ, List.getElem?_cons_zero]; rfl) (by kernel_rfl) (by kernel_rfl) (by kernel_rfl) (by exact fun _ _ _ h => h) (Or.inl ⟨by rfl, ?_⟩) (by assumption) ?_
    rotate_left
    · intro wq hSw
      (try dsimp only at hSw)
      go_simp
      all_goals (with_reducible rfl)
    try simp only [Act.put, List.setIfInBounds_toArray, List.set_cons_zero, List.set_cons_succ]
    refine wpAnyH_ready (rs := [11]) (by kernel_rfl) (by simp) ?_
    refine AllReadyH.cons (by simp only [List.getElem?_toArray, List.getElem?_cons_succ, List.getElem?_cons_zero]; rfl) (fun K hK => ?_) AllReadyH.nil
    go_simp
    refine (K1.out _ hHeld).mono ?_
    rintro E y1 ⟨rfl, haw⟩
    have hS := hHeld.on haw
    clear haw
    go_wp2_with fail
    refine hK.out _ _ hS (fun hHeld => ?_)
    clear hK K
    try simp only [Act.put, List.setIfInBounds_toArray, List.set_cons_zero, List.set_cons_succ]
    refine wpAnyH_take (i := 12) (v := ?_) (by simp only [List.getElem?_toArray, List.getElem?_cons_succ, List.getElem?_cons_zero]; rfl) (by kernel_rfl) (by kernel_rfl) (by kernel_rfl) (by exact fun _ _ _ h => h) (Or.inl ⟨by rfl, ?_⟩) (by assumption) ?_
    rotate_left
    · intro wq hSw
      (try dsimp only at hSw)
      go_simp
      all_goals (with_reducible rfl)
    try simp only [Act.put, List.setIfInBounds_toArray, List.set_cons_zero, List.set_cons_succ]
    refine wpAnyH_take (i := 13) (v := ?_) (by simp only [List.getElem?_toArray, List.getElem?_cons_succ, List.getElem?_cons_zero]; rfl) (by kernel_rfl) (by kernel_rfl) (by kernel_rfl) (by exact fun _ _ _ h => h) (Or.inl ⟨by rfl, ?_⟩) (by assumption) ?_
    rotate_left
    · intro wq hSw
      (try dsimp only at hSw)
      go_simp
      all_goals (with_reducible rfl)
    try simp only [Act.put, List.setIfInBounds_toArray, List.set_cons_zero, List.set_cons_succ]
    refine wpAnyH_take (i := 14) (v := ?_) (by simp only [List.getElem?_toArray, List.getElem?_cons_succ, List.getElem?_cons_zero]; rfl) (by kernel_rfl) (by kernel_rfl) (by kernel_rfl) (by exact fun _ _ _ h => h) (Or.inl ⟨by rfl, ?_⟩) (by assumption) ?_
    rotate_left
    · intro wq hSw
      (try dsimp only at hSw)
      go_simp
      all_goals (with_reducible rfl)
    try simp only [Act.put, List.setIfInBounds_toArray, List.set_cons_zero, List.set_cons_succ]
    refine wpAnyH_take (i := 15) (by simp only [List.getElem?_toArray, List.getElem?_cons_succ, List.getElem?_cons_zero]; rfl) (by kernel_rfl) (by kernel_rfl) (by kernel_rfl) (by exact fun _ _ _ h => h) (yields_ld (ad := ⟨g7, 0, none⟩) (by rfl) _ rfl rfl (fun w' h => load28_run (HB7.out.on h) HAD.out)) (by assumption) ?_
    try simp only [Act.put, List.setIfInBounds_toArray, List.set_cons_zero, List.set_cons_succ]
    refine wpAnyH_take (i := 16) (v := ?_) (by simp only [List.getElem?_toArray, List.getElem?_cons_succ, List.getElem?_cons_zero]; rfl) (by kernel_rfl) (by kernel_rfl) (by kernel_rfl) (by exact fun _ _ _ h => h) (Or.inl ⟨by rfl, ?_⟩) (by assumption) ?_
    rotate_left
    · intro wq hSw
      (try dsimp only at hSw)
      go_simp
      all_goals (with_reducible rfl)
    try simp only [Act.put, List.setIfInBounds_toArray, List.set_cons_zero, List.set_cons_succ]
    refine wpAnyH_take (i := 17) (by simp only [List.getElem?_toArray, List.getElem?_cons_succ, List.getElem?_cons_zero]; rfl) (by kernel_rfl) (by kernel_rfl) (by kernel_rfl) (by exact fun _ _ _ h => h) (yields_ld (ad := ⟨g7, 0, none⟩) (by rfl) _ rfl rfl (fun w' h => load28_run (HB7.out.on h) HAD.out)) (by assumption) ?_
    try simp only [Act.put, List.setIfInBounds_toArray, List.set_cons_zero, List.set_cons_succ]
    refine wpAnyH_ready (rs := [18]) (by kernel_rfl) (by simp) ?_
    refine AllReadyH.cons (by simp only [List.getElem?_toArray, List.getElem?_cons_succ, List.getElem?_cons_zero]; rfl) (fun K hK => ?_) AllReadyH.nil
    go_simp
    refine (ownP_c q' qo du _ (HP7.out.on hHeld)).mono ?_
    rintro E y2 ⟨so, sd, rfl, hmine, haw⟩
    have hS := hHeld.on haw
    have HSP := Lib.hid (hmine.pkt HP7.out.wf)
    clear haw hmine
    go_wp2_with fail
    refine hK.out _ _ hS (fun hHeld => ?_)
    clear hK K
    try simp only [Act.put, List.setIfInBounds_toArray, List.set_cons_zero, List.set_cons_succ]
    refine wpAnyH_ready (rs := [19]) (by kernel_rfl) (by simp) ?_
    refine AllReadyH.cons (by simp only [List.getElem?_toArray, List.getElem?_cons_succ, List.getElem?_cons_zero]; rfl) (fun K hK => ?_) AllReadyH.nil
    rw [if_pos (by rfl)]
    refine wp_build28 (.tmp 95) rfl q' so sd rfl HAD.out ?_
    intro gq y3 hgq hbq haw ea eb
    clear ea eb
    have hS := hHeld.on haw
    have HL2 : Hid (Pks y3 (some ⟨gq, 0, none⟩) [⟨q', so, sd⟩]) := by
      obtain ⟨a', c', hv', -, -, hp', -⟩ := (lst_one hbq HAD.out).pks (by simp) (fun x hx => by simp at hx; subst hx; exact HSP.out.on haw)
      simp only [List.length_singleton, Value.slice.injEq] at hv'
      show Pks _ _ _
      rw [hv'.1]; exact hp'
    clear haw hbq hgq
    refine hK.out _ _ hS (fun hHeld => ?_)
    clear hK K
    try simp only [Act.put, List.setIfInBounds_toArray, List.set_cons_zero, List.set_cons_succ]
    have K2 : Hid (Calls Tryd.prog 14 #[.agg (csP q' qo du), .int .i64 m', .slice (some ⟨gq, 0, none⟩) 1 1] y3 fun E w'' => E = .returned (.bool false) ∧ Away [] y3 w'') := by
      have := is_c q' qo du m' (some ⟨gq, 0, none⟩) [⟨q', so, sd⟩] 1 1 y3 rfl (HP7.out.on hHeld) HL2.out (HG.out.on hHeld)
      rw [is_not _ HNO.out] at this
      exact this
    refine wpAnyH_ready (rs := [20]) (by kernel_rfl) (by simp) ?_
    refine AllReadyH.cons (by simp only [List.getElem?_toArray, List.getElem?_cons_succ, List.getElem?_cons_zero]; rfl) (fun K hK => ?_) AllReadyH.nil
    go_simp
    refine K2.out.mono ?_
    rintro E y4 ⟨rfl, haw⟩
    have hS := hHeld.on haw
    clear haw
    go_wp2_with fail
    refine hK.out _ _ hS (fun hHeld => ?_)
    clear hK K
    try simp only [Act.put, List.setIfInBounds_toArray, List.set_cons_zero, List.set_cons_succ]
    refine wpAnyH_take (i := 21) (v := ?_) (by simp only [List.getElem?_toArray, List.getElem?_cons_succ, List.getElem?_cons_zero]; rfl) (by kernel_rfl) (by kernel_rfl) (by kernel_rfl) (by exact fun _ _ _ h => h) (Or.inl ⟨by rfl, ?_⟩) (by assumption) ?_
    rotate_left
    · intro wq hSw
      (try dsimp only at hSw)
      go_simp
      all_goals (with_reducible rfl)
    try simp only [Act.put, List.setIfInBounds_toArray, List.set_cons_zero, List.set_cons_succ]
    refine wpAnyH_take (i := 22) (v := ?_) (by simp only [List.getElem?_toArray, List.getElem?_cons_succ, List.getElem?_cons_zero]; rfl) (by kernel_rfl) (by kernel_rfl) (by kernel_rfl) (by exact fun _ _ _ h => h) (Or.inl ⟨by rfl, ?_⟩) (by assumption) ?_
    rotate_left
    · intro wq hSw
      (try dsimp only at hSw)
      go_simp
      all_goals (with_reducible rfl)
    try simp only [Act.put, List.setIfInBounds_toArray, List.set_cons_zero, List.set_cons_succ]
    refine wpAnyH_take (i := 23) (v := ?_) (by simp only [List.getElem?_toArray, List.getElem?_cons_succ, List.getElem?_cons_zero]; rfl) (by kernel_rfl) (by kernel_rfl) (by kernel_rfl) (by exact fun _ _ _ h => h) (Or.inl ⟨by rfl, ?_⟩) (by assumption) ?_
    rotate_left
    · intro wq hSw
      (try dsimp only at hSw)
      go_simp
      all_goals (with_reducible rfl)
    try simp only [Act.put, List.setIfInBounds_toArray, List.set_cons_zero, List.set_cons_succ]
    refine wpAnyH_done (by kernel_rfl) ?_ _
    have HE := Lib.hid (HA.out.on hHeld)
    clear hHeld
    go_wp2_with fail
    go_ret
    exact ⟨rfl, HE.out.to_below⟩
end cutRefuses
namespace cutRefuses
theorem contract (H : Type) (enc : TypeId × Value → H) (W : World) (base : Nat) (args : Array Value) (ds gs : List (DataW H)) (before : List MemPlace)
    (hval0 : ∀ (j : Nat) t v, Tryd.f3.params[j]? = some t → args[j]? = some v → Value.okWide Tryd.prog W .any base t v)
    (hW : DataW.Whole enc Tryd.prog Tryd.f3.params.toList Rows.cutRefusesSpec.vars false W args.toList ds gs before)
    (hsz0 : (DataW.weightsEach Tryd.prog (Tryd.f3.params.toList ++ Rows.cutRefusesSpec.plain.varTypes Tryd.prog) (ds ++ gs)).all (· ≤ reachBytes) = true)
    (hL : laidMetH Tryd.prog Rows.cutRefusesRow.laid W) :
    Calls Tryd.prog 3 args W fun e W' => ∃ v, e = .returned v ∧ Rows.cutRefusesSpec.post enc Tryd.prog Tryd.f3 false true false false W args v W' := by
  have hval := hval0
  have hsz := hsz0
  have hW' := hW
  obtain ⟨p, q, hA0, hV, rfl, hfz, hnd⟩ := hW
  have hA : DataW.TrodAll enc Tryd.prog W 0 (fun _ => true) true Tryd.f3.params.toList args.toList ds p := hA0
  rw [Tryd.params3] at hA hval hsz
  obtain ⟨v0, vs0, d0, ds0, p0, q0, hargs, rfl, rfl, h0, r0⟩ := trodAll_cons hA
  obtain ⟨v1, vs1, d1, ds1, p1, q1, rfl, rfl, rfl, h1, r1⟩ := trodAll_cons r0
  obtain ⟨v2, vs2, d2, ds2, p2, q2, rfl, rfl, rfl, h2, r2⟩ := trodAll_cons r1
  obtain ⟨rfl, rfl, rfl⟩ := trodAll_nil r2
  obtain rfl : args = #[v0, v1, v2] := by cases args; simp_all
  obtain ⟨rfl, rfl⟩ := trodVars_none hV
  have k0 := h0
  have lt0 : ∀ x ∈ p0, x.block < W.heap.size := by obtain ⟨m, hm⟩ := k0; exact DataW.trod_lt m _ _ _ hm
  have z0 : ∀ m ∈ d0.weights Tryd.prog 28, m ≤ reachBytes := fun m hm => by
    have := List.all_eq_true.1 hsz m (DataW.weights_mem_each (j := 0) (t := 28) rfl rfl m hm)
    simpa using this
  obtain ⟨x0, ov0, dv0, rfl, w0, ol0, dl0⟩ := open_pkt (hval 0 28 v0 rfl rfl) h0 z0
  obtain ⟨a1, rfl, rfl, rfl, w1⟩ := open_int Tryd.underlying3 (hval 1 3 v1 rfl rfl) h1
  obtain ⟨a2, rfl, rfl, rfl, w2⟩ := open_int Tryd.underlying3 (hval 2 3 v2 rfl rfl) h2
  clear hA0 hval0
  refine (walk x0 ov0 dv0 a1 a2 W (glob_of hL) w0 ol0 dl0 w1 w2).mono fun e W' ⟨he, bel⟩ => ?_
  subst he
  exact ⟨_, rfl, _, _, _, [], _, [], hW', trodAll_mk1 (shut_bool Tryd.underlying4 _), (trodAll_cons_mk (Below.trod laidOut (by kernel_rfl) (of_decide_eq_true (by kernel_rfl)) k0 bel lt0) (trodAll_cons_mk (shut_int Tryd.underlying3 w1) (trodAll_cons_mk (shut_int Tryd.underlying3 w2) trodAll_mk0))), rfl, bel.frame _, fun h => by cases h⟩
theorem laid_met (os : Os) : laidMet Tryd.prog Rows.cutRefusesRow.laid ((laidWorld Tryd.prog os).forCall (fun _ _ => 0) ⟨#[], #[.agg (csP zeroPk (.slice none 0 0) (.slice none 0 0)), .int .i64 0, .int .i64 0], []⟩).memory :=
  laidMet_of_run' 8 (by kernel_rfl) (by kernel_rfl)
theorem reads (os : Os) {H : Type} (enc : TypeId × Value → H) : ∃ places, DataW.whole enc Tryd.prog ((laidWorld Tryd.prog os).forCall (fun _ _ => 0) ⟨#[], #[.agg (csP zeroPk (.slice none 0 0) (.slice none 0 0)), .int .i64 0, .int .i64 0], []⟩).memory Tryd.f3.params.toList Rows.cutRefusesSpec.vars false #[.agg (csP zeroPk (.slice none 0 0) (.slice none 0 0)), .int .i64 0, .int .i64 0].toList 8 = some ([.agg [.lit (.int .i64 0), .lit (.int .i64 0), .lit (.int .i64 0), .agg [.lit (.int .i64 0), .agg [.lit (.int .u8 0), .lit (.int .u8 0), .lit (.int .u8 0), .lit (.int .u8 0), .lit (.int .u8 0), .lit (.int .u8 0), .lit (.int .u8 0), .lit (.int .u8 0), .lit (.int .u8 0), .lit (.int .u8 0), .lit (.int .u8 0), .lit (.int .u8 0), .lit (.int .u8 0), .lit (.int .u8 0), .lit (.int .u8 0), .lit (.int .u8 0)]], .agg [.lit (.int .i64 0), .agg [.lit (.int .u8 0), .lit (.int .u8 0), .lit (.int .u8 0), .lit (.int .u8 0), .lit (.int .u8 0), .lit (.int .u8 0), .lit (.int .u8 0), .lit (.int .u8 0), .lit (.int .u8 0), .lit (.int .u8 0), .lit (.int .u8 0), .lit (.int .u8 0), .lit (.int .u8 0), .lit (.int .u8 0), .lit (.int .u8 0), .lit (.int .u8 0)]], .lit (.int .i64 0), .lit (.int .i64 0), .lit (.int .u32 0), .lit (.bool false), .lit (.bool false), .lit (.bool false), .lit (.int .i64 0), .nil, .nil], .lit (.int .i64 0), .lit (.int .i64 0)], [], places) :=
  ⟨[], by kernel_rfl⟩
theorem lifted (os : Os) (started : os.Started) (H : Type) (enc : TypeId × Value → H) (F : Stop.Interp) :
    ReturnsInHanded {} Tryd.checked os 3 .any ((OpenSpec.ofChange Rows.cutRefusesSpec).preRow enc Tryd.prog Tryd.f3 Rows.cutRefusesRow.domain false Rows.cutRefusesRow.laid) (((OpenSpec.ofChange Rows.cutRefusesSpec).at F).post enc Tryd.prog Tryd.f3 false true false false) := by
  obtain ⟨places, hx⟩ := reads os enc
  refine returnsInHanded_of_row (C := Tryd.checked) (s := OpenSpec.ofChange Rows.cutRefusesSpec) ownKn started (by kernel_rfl) Tryd.func3
    (witness_row_at (enc := enc) (C := Tryd.checked) false (laidWorld Tryd.prog os) #[.agg (csP zeroPk (.slice none 0 0) (.slice none 0 0)), .int .i64 0, .int .i64 0] rfl (by kernel_rfl) (by kernel_rfl) (by kernel_rfl)
      (OpenSpec.preRow_of_cond 8 hx (by kernel_rfl) (fun k hk => by cases hk) (by kernel_rfl) (laid_met os))) ?_
  intro W base args ds gs before hval hW _ hcond hsz hL hS _
  exact contract H enc W base args ds gs before hval hW hsz hL
theorem said : Rows.CutRefusesSaid :=
  OpenClaim.holds_of_cond 3 Tryd.f3 rfl rfl rfl rfl rfl rfl rfl ⟨rfl, rfl, rfl, rfl, rfl⟩ rfl rfl rfl rfl rfl (by kernel_rfl) Tryd.func3 (by kernel_rfl)
    (of_decide_eq_true (by kernel_rfl)) (by unfold Func.isWrapper; first | (rw [if_pos (by decide +kernel)]; kernel_rfl) | (rw [if_neg (by decide +kernel)]; exact ⟨rfl, rfl⟩))
    (fun os started H enc _ F => by rw [OpenClaim.pre_eq_preRow]; exact lifted os started H enc F)
theorem plain (f : FuncId) (fn : Func) (hf : Tryd.pinned.checked.prog.funcNamed "mosaic/mosaiclaw10.CutRefuses" = some f) (hfn : Tryd.pinned.checked.prog.funcs[f]? = some fn) :
    false = Tryd.pinned.checked.prog.looks [] ∧ ∀ (j : Nat) t, fn.params[j]? = some t → Tryd.pinned.checked.prog.wantsStandIn t = false := by
  obtain rfl : f = 3 := Option.some.inj ((show Tryd.prog.funcNamed "mosaic/mosaiclaw10.CutRefuses" = some 3 by kernel_rfl).symm.trans hf) |>.symm
  obtain rfl : fn = Tryd.f3 := (Option.some.inj (Tryd.func3.symm.trans hfn)).symm
  refine ⟨by kernel_rfl, fun j t ht => ?_⟩
  rw [Tryd.params3] at ht
  have hm := Array.mem_of_getElem? ht
  simp only [List.mem_toArray, List.mem_cons, List.not_mem_nil, or_false] at hm
  have h28 : Tryd.prog.wantsStandIn 28 = false := by kernel_rfl
  have h26 : Tryd.prog.wantsStandIn 26 = false := by kernel_rfl
  have h3 : Tryd.prog.wantsStandIn 3 = false := by kernel_rfl
  rcases hm with rfl | rfl | rfl
  all_goals first | exact h28 | exact h26 | exact h3
theorem card : Rows.CutRefusesCardSaid :=
  Claim7.holds_tied_plain_at .later [] _ _ _ _ said (fun _ h => by cases h) (by kernel_rfl) (fun _ h => by cases h) cutRefuses_row_tie rfl ⟨rfl, rfl⟩ (by kernel_rfl) rfl plain (by kernel_rfl)
end cutRefuses
theorem cutRefuses_holds : Rows.CutRefusesCardSaid := cutRefuses.card
#print axioms cutRefuses_holds
end Go.Proofs.YtbnnfbfmomafnaaDoor
