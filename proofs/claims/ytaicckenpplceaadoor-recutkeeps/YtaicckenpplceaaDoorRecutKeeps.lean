/-
  RecutKeeps.
-/
import Derived.Test.YtaicckenpplceaaDoorSm2
import Derived.Test.YtaicckenpplceaaDoorKit
import Derived.Test.YtaicckenpplceaaDoorBkP
import Derived.Test.YtaicckenpplceaaDoorOw
import Derived.Test.YtaicckenpplceaaDoorDe
import Derived.Test.YtaicckenpplceaaDoorRtK
import Derived.Lib.MinMax
namespace Go.Proofs.YtaicckenpplceaaDoor
open Go.ChangeShapes Go.WideShapes Go.ChangeAt Go.RowKit Go.Deep Num
open S6 (wp_region_cls quiet_val quiet_call quiet_ld)
set_option linter.unusedVariables false
set_option linter.unusedSimpArgs false
set_option maxHeartbeats 40000000
set_option maxRecDepth 100000

namespace recutKeeps
open R
open Mk (Kept LstV)
theorem ref_each {x : Pk} {l : List Pk} (h : Ref x l) (hv : x.v = 4) : ∀ q ∈ l, q.o.length ≤ 65535 ∧ q.d.length ≤ 65535 := fun q hq => by
  have hk := h.kin q hq
  have hr := hk.r
  unfold rgtP at hr
  rw [if_neg (by rw [hk.v, hv]; decide), right_iff] at hr
  have := hr.1.all
  omega
theorem unc_data {z : Pk} (h : Unc z) (hv : z.v = 4) {l : List Int} (hl : l.length = z.d.length) : Unc { z with d := l } := by
  refine ⟨?_, h.off, h.more, h.frag⟩
  have hr := h.r
  unfold rgtP at hr ⊢
  have hv6 : ¬ z.v = 6 := by omega
  rw [if_neg hv6, right_iff] at hr
  have hr1 := hr.1
  refine (if_neg hv6).trans ((right_iff _).2 ⟨?_, hr.2⟩)
  exact ⟨hr1.v, hr1.flow, hr1.frag, hr1.id, hr1.t0, hr1.t1, hr1.l0, hr1.l1, hr1.r0, hr1.r1, hr1.sv, hr1.sb, hr1.dv, hr1.db, hr1.o0, hr1.o1, hr1.o8, fun e => by show l.length % 8 = 0; rw [hl]; exact hr1.m8 e, fun e => by show l.length ≠ 0; rw [hl]; exact hr1.m0 e, fun e => by show l.length ≠ 0; rw [hl]; exact hr1.f0 e, by show z.off + (l.length : Int) ≤ 65535; rw [hl]; exact hr1.reach, by show 20 + z.o.length + l.length ≤ 65535; rw [hl]; exact hr1.all⟩
theorem wf_data {z : Pk} (h : Wf z) {l : List Int} (hb : Bytes l) (hl : l.length ≤ 140737488355328) : Wf { z with d := l } :=
  ⟨h.v, h.tos, h.flow, h.sv, h.sl, h.sb, h.dv, h.dl, h.db, h.proto, h.ttl, h.id0, h.id1, h.off, h.o, h.ol, hb, hl⟩
theorem wrap8 (n : Int) : 0 ≤ IntKind.u8.wrap n ∧ IntKind.u8.wrap n ≤ 255 := by simp [IntKind.wrap, IntKind.bits, IntKind.signed]; omega
theorem wp_ldc {o : Oper} {a : Act} {w : World} {K : Act → World → Prop} {Q : Exit → Act → World → Prop} (t : TypeId) (x : Operand) (ho : o.op = .load t x) (ad : Addr) (v : Value) (hx : a.eval x = .pointer (some ad)) (hr : (Instr.loadAt t (.pointer (some ad))).run Tryd.prog w = .ok v w) (h : K (a.put o.dst v) w) : Oper.wp Tryd.prog o a w K Q := by
  unfold Oper.wp execOp
  simp only [ho, hx, Sem.run_bind, hr, Result.andThen_ok, Sem.run_pure]
  exact h
theorem wp_stc {o : Oper} {a : Act} {w w' : World} {K : Act → World → Prop} {Q : Exit → Act → World → Prop} (t : TypeId) (x y : Operand) (ho : o.op = .store t x y) (ad : Addr) (v : Value) (hx : a.eval x = .pointer (some ad)) (hy : a.eval y = v) (hr : (Instr.storeAt t (.pointer (some ad)) v).run Tryd.prog w = .ok () w') (h : K (a.put o.dst undef) w') : Oper.wp Tryd.prog o a w K Q := by
  unfold Oper.wp execOp
  simp only [ho, hx, hy, Sem.run_bind, hr, Result.andThen_ok, Sem.run_pure]
  exact h
theorem put5 (w : World) (ad : Addr) (n : Int) (u : Value) (hc : w.cell? ad = some u) (hf : w.frozen? ad = false) : (Instr.storeAt 5 (.pointer (some ad)) (.int .u8 n)).run Tryd.prog w = .ok () (w.setCell ad (.int .u8 n)) := by
  simp [go_sem, Instr.storeAt, Instr.sureAddr, storeVar, hc, hf]
theorem pks_away {S : List Nat} {w w' : World} {b : Nat} {xs : List X} (h : Pks w (some ⟨b, 0, none⟩) xs) (hw : Away S w w') (hb : b ∉ S) (hl : ∀ x ∈ xs, x.ok w') : Pks w' (some ⟨b, 0, none⟩) xs := by
  obtain ⟨h1, h2, h3⟩ := h
  refine ⟨h1, hl, ?_⟩
  rcases h3 with h3 | ⟨b', off, he, hc⟩
  · exact .inl h3
  · simp only [Option.some.injEq, Addr.mk.injEq, and_true] at he
    obtain ⟨rfl, rfl⟩ := he
    exact .inr ⟨b, 0, rfl, fun i x hx => range_away hw hb (hc i x hx)⟩
theorem walk (p : Pk) (ov dv : Value) (r : Pk) (rov rdv : Value) (n : Int) (w : World) (hg : Glob w) (hp : Pkt w p ov dv) (hol : p.o.length ≤ 140737488351232) (hdl : p.d.length ≤ 140737488351232) (hr : Pkt w r rov rdv) (hrl : r.o.length ≤ 140737488351232) (hrd : r.d.length ≤ 140737488351232) (hwn : (Lit.int .i64 n).wf = true) :
    Calls Tryd.prog 7 #[.agg (csP p ov dv), .agg (csP r rov rdv), .int .i64 n] w fun E w' => E = .returned (.bool true) ∧ Below w.heap.size w w' := by
  have HPA := Lib.hid hp.wf.ad
  have HRA := Lib.hid hr.wf.ad
  have HP := Lib.hid hp; have HR := Lib.hid hr; have HG := Lib.hid hg
  have HNI : Hid (i64ok n) := by
    have h5 : IntKind.i64.min ≤ n ∧ n ≤ IntKind.i64.max := by simpa [Lit.wf] using hwn
    exact h5
  clear hp hr hg hol hdl hrl hrd hwn
  go_enter Tryd.func7, Tryd.ntmps7
  go_wp2_with (refine wpList_box28 rfl _ rfl p ov dv rfl ?_; refine Hid.out ?_)
  refine Lib.hid ?_
  intro g3 w1 hg_g3 hb haw
  have HA := Lib.hid haw
  have HB3 := Lib.hid hb
  clear hb haw hg_g3
  go_wp2_with (refine wpList_box28 rfl _ rfl r rov rdv rfl ?_; refine Hid.out ?_)
  refine Lib.hid ?_
  intro g4 w2 hg_g4 hb haw
  replace HA := Lib.hid (HA.out.trans haw)
  replace HB3 := Lib.hid (HB3.out.on haw)
  have HB4 := Lib.hid hb
  clear hb haw hg_g4
  have hS_w2 := HA.out.size
  go_wp2_with (refine wpList_load28 rfl _ rfl g3 rfl p _ _ (by exact HB3.out) HPA.out ?_)
  refine (R.right_c p ov dv _ (HP.out.on HA.out) (HG.out.on HA.out)).mono ?_
  rintro E w4 ⟨q, qo, qd, rfl, hu, hwf, hv_q, hdf_q, hmine, haw⟩
  have hS_w4 := haw.size
  replace HA := Lib.hid (HA.out.trans haw)
  replace HB3 := Lib.hid (HB3.out.on haw)
  replace HB4 := Lib.hid (HB4.out.on haw)
  have HUq := Lib.hid hu
  have HWq := Lib.hid hwf
  have HVq := Lib.hid hv_q
  have HFq := Lib.hid hdf_q
  have hO1 := hmine.o.one
  have hD1 := hmine.d.one
  have HMI := Lib.hid hmine
  clear hu hwf hmine haw hv_q hdf_q
  go_wp2_with (refine wpList_new28 rfl rfl rfl _ _ rfl q qo qd (fun g => rfl) (fun g => rfl) HWq.out.ad hO1 hD1 ?_; refine Hid.out ?_)
  refine Lib.hid ?_
  intro g7 w5 hg_g7 hb haw
  have HQ : Hid (QV w2.heap.size w5.heap.size w5 g7 q qo qd) := ⟨hb, (HMI.out.on haw).pkt HWq.out, by omega, hb.lt, fun k hk => by have h1 := HMI.out.lto k hk; have h2 := haw.size; exact ⟨h1.2, by omega, by omega⟩⟩
  replace HA := Lib.hid (HA.out.trans haw)
  replace HB3 := Lib.hid (HB3.out.on haw)
  replace HB4 := Lib.hid (HB4.out.on haw)
  have hS_w5 := haw.size
  clear hb haw hO1 hD1 HMI hg_g7
  clear HB3
  have hS_w5 := HA.out.size
  go_wp2_with (refine wpList_load28 rfl _ rfl g4 rfl r _ _ (by exact HB4.out) HRA.out ?_)
  refine (R.right_c r rov rdv _ (HR.out.on HA.out) (HG.out.on HA.out)).mono ?_
  rintro E w6 ⟨s, so, sd, rfl, hu, hwf, hv_s, hdf_s, hmine, haw⟩
  have hS_w6 := haw.size
  replace HA := Lib.hid (HA.out.trans haw)
  replace HB4 := Lib.hid (HB4.out.on haw)
  replace HQ := Lib.hid (HQ.out.on haw)
  have HUs := Lib.hid hu
  have HWs := Lib.hid hwf
  have HVs := Lib.hid hv_s
  have HFs := Lib.hid hdf_s
  have hO1 := hmine.o.one
  have hD1 := hmine.d.one
  have HMI := Lib.hid hmine
  clear hu hwf hmine haw hv_s hdf_s
  go_wp2_with (refine wpList_new28 rfl rfl rfl _ _ rfl s so sd (fun g => rfl) (fun g => rfl) HWs.out.ad hO1 hD1 ?_; refine Hid.out ?_)
  refine Lib.hid ?_
  intro g8 w7 hg_g8 hb haw
  have HS : Hid (QV w5.heap.size w7.heap.size w7 g8 s so sd) := ⟨hb, (HMI.out.on haw).pkt HWs.out, by omega, hb.lt, fun k hk => by have h1 := HMI.out.lto k hk; have h2 := haw.size; exact ⟨h1.2, by omega, by omega⟩⟩
  replace HA := Lib.hid (HA.out.trans haw)
  replace HB4 := Lib.hid (HB4.out.on haw)
  replace HQ := Lib.hid (HQ.out.on haw)
  have hS_w7 := haw.size
  clear hb haw hO1 hD1 HMI hg_g8
  clear HB4
  obtain ⟨r9, hr9⟩ : ∃ r : Nat, (r : Int) = n % (900 + 1) := ⟨(n % (900 + 1)).toNat, by omega⟩
  have hr9b : r9 ≤ 900 := by omega
  have KR : Hid (∀ w', Calls Tryd.prog 9 #[.int .i64 n, .int .i64 900] w' fun E w'' => E = .returned (.int .i64 (r9 : Int)) ∧ w'' = w') := fun w' => by rw [hr9]; exact rest_c _ _ w' HNI.out (by omega) (by omega)
  clear hr9
  go_wp2_with fail
  refine (KR.out _).mono ?_
  rintro E w7b ⟨rfl, rfl⟩
  clear KR
  obtain ⟨m, hm⟩ : ∃ m : Int, m = 68 + (r9 : Int) := ⟨_, rfl⟩
  have HM : Hid (mtuP m 4 = true) := by refine Lib.hid ?_; rw [hm, mtu_iff]; simp; omega
  have e8 : IntKind.i64.wrap (68 + (r9 : Int)) = m := by rw [IntKind.wrap_i64, hm]; omega
  have e9 : 68 + (r9 : Int) = m := hm.symm
  clear hm
  obtain ⟨qa, qc, hqd, -⟩ := HQ.out.pkt.d
  subst hqd
  obtain ⟨sa, sc, hsd, -⟩ := HS.out.pkt.d
  subst hsd
  have c1 := (HQ.out.box.cells HWq.out.ad).d
  have c2 := (HS.out.box.cells HWs.out.ad).d
  have hxq := HQ.out.pkt.d.of.2
  have hxs := HS.out.pkt.d.of.2
  obtain ⟨qn, hqn⟩ : ∃ k, k = q.d.length := ⟨_, rfl⟩
  obtain ⟨sn, hsn⟩ : ∃ k, k = s.d.length := ⟨_, rfl⟩
  have hq65 : qn ≤ 65535 := by rw [hqn]; exact HUq.out.all.1
  have hs65 : sn ≤ 65535 := by rw [hsn]; exact HUs.out.all.1
  have HQN : Hid (q.d.length = qn) := hqn.symm
  have HSN : Hid (s.d.length = sn) := hsn.symm
  rw [← hqn] at c1 hxq HQ
  rw [← hsn] at c2 hxs HS
  clear hqn hsn
  go_upto_if 49 with fail
  go_cut [] (fun wc => ∃ (a b : Nat) (du1 du2 : Value), QV w2.heap.size w5.heap.size wc g7 { q with d := q.d.take a } qo du1 ∧ QV w5.heap.size w7b.heap.size wc g8 { s with d := s.d.take b } so du2 ∧ (q.d.take a).length + (s.d.take b).length ≤ 6000 ∧ Away [g7, g8] w7b wc)
  case first =>
    as_aux_lemma =>
    by_cases h6 : 6000 < qn + sn
    · have n1 : (6000 : Int) < (qn : Int) + (sn : Int) := by omega
      have n1' : (6000 : Int) < ((qn + sn : Nat) : Int) := by omega
      obtain ⟨a, ha⟩ : ∃ a : Nat, a = min qn 3000 := ⟨_, rfl⟩
      obtain ⟨b, hb⟩ : ∃ b : Nat, b = min sn 3000 := ⟨_, rfl⟩
      have ma : min (qn : Int) 3000 = (a : Int) := by omega
      have mb : min (sn : Int) 3000 = (b : Int) := by omega
      have ha2 : a ≤ qn ∧ a ≤ 3000 := by omega
      have hb2 : b ≤ sn ∧ b ≤ 3000 := by omega
      clear ha hb
      have s1 := slice_h qa qn qc a (a : Int) rfl (by omega)
      have s2 := slice_h sa sn sc b (b : Int) rfl (by omega)
      have hne : g7 ≠ g8 := by have h1 := HQ.out.hi; have h2 := HS.out.lo; omega
      go_wp2_with (refine wpList_putF rfl 26 _ _ rfl g7 45 rfl (.slice qa a qc) rfl (fun u h1 h2 => put26 _ _ _ _ _ u h1 h2) q { q with d := q.d.take a } _ _ _ _ (by exact HQ.out.box) (by exact HWq.out.ad) (by omega) (by exact (csP_set (p := q) HWq.out.ad _ _).2.2.2.2.2.2.2.2.2.2.2.2.2 _ _) ?_; refine Hid.out ?_)
      refine Lib.hid ?_
      intro wy hb haw
      have HQ2 : Hid (QV w2.heap.size w5.heap.size wy g7 { q with d := q.d.take a } qo (.slice qa a qc)) := HQ.out.putd hb haw (cutd_wf HWq.out a) rfl rfl (by omega)
      have HS2 := Lib.hid (HS.out.away haw (fun k hk => .inl (by simp at hk; have := HQ.out.hi; omega)))
      have HA2 := Lib.hid haw
      clear hb haw c1 c2
      have c2 := (HS2.out.box.cells HWs.out.ad).d
      go_wp2_with (refine wpList_putF rfl 26 _ _ rfl g8 45 rfl (.slice sa b sc) rfl (fun u h1 h2 => put26 _ _ _ _ _ u h1 h2) s { s with d := s.d.take b } _ _ _ _ (by exact HS2.out.box) (by exact HWs.out.ad) (by omega) (by exact (csP_set (p := s) HWs.out.ad _ _).2.2.2.2.2.2.2.2.2.2.2.2.2 _ _) ?_; refine Hid.out ?_)
      refine Lib.hid ?_
      intro wz hb haw
      have HS3 : Hid (QV w5.heap.size w7b.heap.size wz g8 { s with d := s.d.take b } so (.slice sa b sc)) := HS2.out.putd hb haw (cutd_wf HWs.out b) rfl rfl (by omega)
      have HQ3 := Lib.hid (HQ2.out.away haw (fun k hk => .inr (by simp at hk; have := HS.out.lo; omega)))
      have HA3 : Hid (Away [g7, g8] w7b wz) := (HA2.out.mono (by simp)).next haw (fun x hx => .inl (by simp at hx; simp [hx]))
      clear hb haw c2
      go_wp2_with fail
      go_meet
      exact ⟨a, b, _, _, HQ3.out, HS3.out, by rw [List.length_take, List.length_take]; omega, HA3.out⟩
    · have n1 : ¬ ((6000 : Int) < (qn : Int) + (sn : Int)) := by omega
      have n1' : ¬ ((6000 : Int) < ((qn + sn : Nat) : Int)) := by omega
      have HT1 : Hid (q.d.take qn = q.d) := List.take_of_length_le (by rw [HQN.out]; omega)
      have HT2 : Hid (s.d.take sn = s.d) := List.take_of_length_le (by rw [HSN.out]; omega)
      go_wp2_with fail
      go_meet
      exact ⟨qn, sn, _, _, by rw [HT1.out]; exact HQ.out, by rw [HT2.out]; exact HS.out, by rw [HT1.out, HT2.out, HQN.out, HSN.out]; omega, Away.refl _ _⟩
  case rest =>
    obtain ⟨da, db, qd1, sd1, hqv, hsv, hsum, haw⟩ := hcut
    generalize wc = w8 at *
    have hS_w8 := haw.size
    have hg7 := HQ.out.lo
    have hg8 := HS.out.lo
    replace HQ := Lib.hid hqv
    replace HS := Lib.hid hsv
    replace HA := Lib.hid (HA.out.next haw (fun k hk => .inr (by simp at hk; omega)))
    obtain ⟨z, hz⟩ : ∃ z : Pk, z = { q with d := q.d.take da } := ⟨_, rfl⟩
    obtain ⟨y, hy⟩ : ∃ y : Pk, y = { s with d := s.d.take db } := ⟨_, rfl⟩
    have HZU : Hid (Unc z) := by rw [hz]; exact cutd_unc HUq.out da
    have HYU : Hid (Unc y) := by rw [hy]; exact cutd_unc HUs.out db
    have HZW : Hid (Wf z) := by rw [hz]; exact cutd_wf HWq.out da
    have HYW : Hid (Wf y) := by rw [hy]; exact cutd_wf HWs.out db
    have HZV : Hid (z.v = 4) := by rw [hz]; exact HVq.out
    have HYV : Hid (y.v = 4) := by rw [hy]; exact HVs.out
    have HZF : Hid (z.df = false) := by rw [hz]; exact HFq.out
    have HYF : Hid (y.df = false) := by rw [hy]; exact HFs.out
    have HSM : Hid (z.d.length + y.d.length ≤ 6000) := by rw [hz, hy]; exact hsum
    rw [← hz] at HQ
    rw [← hy] at HS
    clear hz hy haw hqv hsv hsum HUq HUs HWq HWs HVq HVs HFq HFs HQN HSN c1 c2 hxq hxs
    have hzo : z.o.length ≤ 40 := (HZU.out.all.2 (by rw [HZV.out]; decide)).1
    have hyo : y.o.length ≤ 40 := (HYU.out.all.2 (by rw [HYV.out]; decide)).1
    have hzd : z.d.length ≤ 6000 := by have := HSM.out; omega
    have hyd : y.d.length ≤ 6000 := by have := HSM.out; omega
    go_wp2_with (refine wpList_load28 rfl _ rfl g7 rfl z _ _ (by exact HQ.out.box) HZW.out.ad ?_)
    refine (lent_c z qo qd1 _ HQ.out.pkt (by omega) (by omega)).mono ?_
    rintro E w9 ⟨io, id, rfl, hln, haw⟩
    have hS_w9 := haw.size
    replace HA := Lib.hid (HA.out.trans haw)
    replace HQ := Lib.hid (HQ.out.on haw)
    replace HS := Lib.hid (HS.out.on haw)
    have HLIB : Hid (∀ k, io.ownBlock = some k ∨ id.ownBlock = some k → w8.heap.size ≤ k ∧ k < w9.heap.size) := fun k hk => hln.lt k hk
    have HLI := Lib.hid hln
    have hO1 := hln.o.one
    have hD1 := hln.d.one
    clear hln haw
    go_wp2_with (refine wpList_new28 rfl rfl rfl _ _ rfl z io id (fun g => rfl) (fun g => rfl) HZW.out.ad hO1 hD1 ?_; refine Hid.out ?_)
    refine Lib.hid ?_
    intro g9 w10 hg_g9 hb haw
    have hS_w10 := haw.size
    have hgl_g9 : w9.heap.size ≤ g9 ∧ g9 < w10.heap.size := ⟨hg_g9, hb.lt⟩
    replace HA := Lib.hid (HA.out.trans haw)
    replace HQ := Lib.hid (HQ.out.on haw)
    replace HS := Lib.hid (HS.out.on haw)
    replace HLI := Lib.hid (HLI.out.on haw)
    have HBI := Lib.hid hb
    clear hb haw hO1 hD1 hg_g9
    go_wp2_with (refine wpList_load28 rfl _ rfl g8 rfl y _ _ (by exact HS.out.box) HYW.out.ad ?_)
    refine (lent_c y so sd1 _ HS.out.pkt (by omega) (by omega)).mono ?_
    rintro E w11 ⟨xo, xd, rfl, hln, haw⟩
    have hS_w11 := haw.size
    replace HA := Lib.hid (HA.out.trans haw)
    replace HQ := Lib.hid (HQ.out.on haw)
    replace HS := Lib.hid (HS.out.on haw)
    replace HLI := Lib.hid (HLI.out.on haw)
    replace HBI := Lib.hid (HBI.out.on haw)
    have HLX := Lib.hid hln
    have hO1 := hln.o.one
    have hD1 := hln.d.one
    clear hln haw
    go_wp2_with (refine wpList_new28 rfl rfl rfl _ _ rfl y xo xd (fun g => rfl) (fun g => rfl) HYW.out.ad hO1 hD1 ?_; refine Hid.out ?_)
    refine Lib.hid ?_
    intro g10 w12 hg_g10 hb haw
    have hS_w12 := haw.size
    have hgl_g10 : w11.heap.size ≤ g10 ∧ g10 < w12.heap.size := ⟨hg_g10, hb.lt⟩
    replace HA := Lib.hid (HA.out.trans haw)
    replace HQ := Lib.hid (HQ.out.on haw)
    replace HS := Lib.hid (HS.out.on haw)
    replace HLI := Lib.hid (HLI.out.on haw)
    replace HBI := Lib.hid (HBI.out.on haw)
    replace HLX := Lib.hid (HLX.out.on haw)
    have HBX := Lib.hid hb
    clear hb haw hO1 hD1 hg_g10
    obtain ⟨lz, hlz, hrz⟩ := recut_ref HZW.out HZU.out.r HZV.out HZF.out HM.out
    obtain ⟨ly, hly, hry⟩ := recut_ref HYW.out HYU.out.r HYV.out HYF.out HM.out
    have HLZ := Lib.hid hlz; have HRZ := Lib.hid hrz; have HLY := Lib.hid hly; have HRY := Lib.hid hry
    have hlzl : lz.length ≤ 6001 := by have := R.ref_len HRZ.out; omega
    have hlyl : ly.length ≤ 6001 := by have := R.ref_len HRY.out; omega
    have HEZ : Hid (∀ x ∈ lz, x.o.length ≤ 65535 ∧ x.d.length ≤ 65535) := fun x hx => ref_each HRZ.out HZV.out x hx
    have HEY : Hid (∀ x ∈ ly, x.o.length ≤ 65535 ∧ x.d.length ≤ 65535) := fun x hx => ref_each HRY.out HYV.out x hx
    clear hlz hrz hly hry
    go_wp2_with fail
    go_loopw [11, 12, 13] (fun kv wv iv wr => ∃ (t : Nat) (T : List Kept), iv = .int .i64 (t : Int) ∧ t ≤ 2 ∧ T.length = t * (2 * (lz.length + ly.length + 2)) ∧ RK w12.heap.size wr kv wv T [] ∧ Away [] w12 wr) (fun _ _ iv _ => 2 - (intOf iv).toNat)
    case atStart => exact ⟨0, [], rfl, by omega, by simp, RK.start _, Away.refl _ _⟩
    case round =>
      obtain ⟨t, T, rfl, ht, hTl, hrk, haw⟩ := hrel
      have HRK := Lib.hid hrk
      have HAR := Lib.hid haw
      clear hrk haw
      generalize wr = wt at *
      by_cases ht2 : t < 2
      · as_aux_lemma =>
        have t1 : (t : Int) < 2 := by omega
        have hS_t := HAR.out.size
        obtain ⟨kv0, hkv0⟩ : ∃ v, v = u11 := ⟨_, rfl⟩
        obtain ⟨wv0, hwv0⟩ : ∃ v, v = u12 := ⟨_, rfl⟩
        rw [← hkv0, ← hwv0] at HRK
        rw [← hkv0, ← hwv0]
        clear hkv0 hwv0
        have HKL0 : Hid (∀ k, kv0.ownBlock = some k → k < wt.heap.size) := HRK.out.kl.lt
        have HWL0 : Hid (∀ k, wv0.ownBlock = some k → k < wt.heap.size) := HRK.out.wl.lt
        have HTL0 : Hid (∀ t ∈ T, ∀ k, t.v.ownBlock = some k ∨ t.u.ownBlock = some k → k < wt.heap.size) := fun t ht k hk => by
          rcases hk with hk | hk
          · exact (HRK.out.own t ht).1.lt k hk
          · exact (HRK.out.own t ht).2.1.lt k hk
        have HBz := Lib.hid (HBI.out.on HAR.out)
        have hS_wtz := HAR.out.size
        have KC := recut_c z io id m wt ((HLI.out.on HAR.out).pkt HZW.out) (HG.out.on (HA.out.trans HAR.out))
        have HKC := Lib.hid KC
        clear KC
        go_wp2_with (refine wpList_load28 rfl _ rfl g9 rfl z _ _ (by exact HBz.out) HZW.out.ad ?_)
        refine HKC.out.mono ?_
        rintro E w13 ⟨va, xs, rfl, hcu, hxm, haw⟩
        rw [HLZ.out] at hxm ⊢
        dsimp only at hxm ⊢
        have hl_xs : xs.length = lz.length := by rw [← hxm, List.length_map]
        replace HRK := Lib.hid (HRK.out.cuts haw (by omega) hcu (fun x hx => HEZ.out x.p (by rw [← hxm]; exact List.mem_map_of_mem hx)))
        replace HAR := Lib.hid (HAR.out.trans haw)
        have HCa := Lib.hid hcu
        have HXa := Lib.hid hxm
        have hS_w13 := haw.size
        obtain ⟨ga, gac, hva, galo, gahi, gale⟩ := R.Cuts.shape hcu (fun h => by have h1 := HRZ.out.ne; rw [← hxm, h] at h1; exact h1 rfl)
        rw [hl_xs] at hva gale
        subst hva
        clear hcu hxm haw HBz HKC
        have HBz := Lib.hid (HBX.out.on HAR.out)
        have hS_w13z := HAR.out.size
        have KC := recut_c y xo xd m w13 ((HLX.out.on HAR.out).pkt HYW.out) (HG.out.on (HA.out.trans HAR.out))
        have HKC := Lib.hid KC
        clear KC
        go_wp2_with (refine wpList_load28 rfl _ rfl g10 rfl y _ _ (by exact HBz.out) HYW.out.ad ?_)
        refine HKC.out.mono ?_
        rintro E w14 ⟨vb, ys, rfl, hcu, hxm, haw⟩
        rw [HLY.out] at hxm ⊢
        dsimp only at hxm ⊢
        have hl_ys : ys.length = ly.length := by rw [← hxm, List.length_map]
        replace HRK := Lib.hid (HRK.out.cuts haw (by omega) hcu (fun x hx => HEY.out x.p (by rw [← hxm]; exact List.mem_map_of_mem hx)))
        replace HCa := Lib.hid (HCa.out.on haw)
        replace HAR := Lib.hid (HAR.out.trans haw)
        have HCb := Lib.hid hcu
        have HXb := Lib.hid hxm
        have hS_w14 := haw.size
        obtain ⟨gb, gbc, hvb, gblo, gbhi, gble⟩ := R.Cuts.shape hcu (fun h => by have h1 := HRY.out.ne; rw [← hxm, h] at h1; exact h1 rfl)
        rw [hl_ys] at hvb gble
        subst hvb
        clear hcu hxm haw HBz HKC
        go_wp2_with fail
        refine (join_c (some ⟨ga, 0, none⟩) xs lz.length gac _ hl_xs (by simp) (by exact R.Cuts.pks' HCa.out (by omega)) (HG.out.on (HA.out.trans HAR.out))).mono ?_
        rintro E w15 ⟨tj, cj, jo, jd, hjt, rfl, hjw, hjm, haw⟩
        rw [HXa.out] at hjt
        obtain ⟨htj, rfl⟩ := join_all HZU.out HZV.out HRZ.out (List.Perm.refl _) hjt
        replace htj := htj.symm
        subst htj
        replace HRK := Lib.hid (HRK.out.mine haw (by have := HAR.out.size; omega) hjm hjw (by omega) (by omega))
        replace HCa := Lib.hid (HCa.out.on haw)
        replace HCb := Lib.hid (HCb.out.on haw)
        replace HAR := Lib.hid (HAR.out.trans haw)
        have HJ1 := Lib.hid hjm
        have hO1 := hjm.o.one
        have hD1 := hjm.d.one
        have hS_w15 := haw.size
        clear hjt hjw hjm haw
        go_wp2_with (refine wpList_new28 rfl rfl rfl _ _ rfl z jo jd (fun g => rfl) (fun g => rfl) HZW.out.ad hO1 hD1 ?_; refine Hid.out ?_)
        refine Lib.hid ?_
        intro g18 w16 hg_g18 hb haw
        have hS_w16 := haw.size
        replace HRK := Lib.hid (HRK.out.on haw)
        replace HAR := Lib.hid (HAR.out.trans haw)
        replace HCa := Lib.hid (HCa.out.on haw)
        replace HCb := Lib.hid (HCb.out.on haw)
        replace HJ1 := Lib.hid (HJ1.out.on haw)
        have HBJ1 := Lib.hid hb
        have hgl_g18 : w15.heap.size ≤ g18 := hg_g18
        clear hb haw hO1 hD1 hg_g18
        go_wp2_with fail
        refine (join_c (some ⟨gb, 0, none⟩) ys ly.length gbc _ hl_ys (by simp) (by exact R.Cuts.pks' HCb.out (by omega)) (HG.out.on (HA.out.trans HAR.out))).mono ?_
        rintro E w17 ⟨tj, cj, ko, kd, hjt, rfl, hjw, hjm, haw⟩
        rw [HXb.out] at hjt
        obtain ⟨htj, rfl⟩ := join_all HYU.out HYV.out HRY.out (List.Perm.refl _) hjt
        replace htj := htj.symm
        subst htj
        replace HRK := Lib.hid (HRK.out.mine haw (by have := HAR.out.size; omega) hjm hjw (by omega) (by omega))
        replace HCa := Lib.hid (HCa.out.on haw)
        replace HCb := Lib.hid (HCb.out.on haw)
        replace HJ1 := Lib.hid (HJ1.out.on haw)
        replace HBJ1 := Lib.hid (HBJ1.out.on haw)
        replace HAR := Lib.hid (HAR.out.trans haw)
        have HJ2 := Lib.hid hjm
        have hO1 := hjm.o.one
        have hD1 := hjm.d.one
        have hS_w17 := haw.size
        clear hjt hjw hjm haw
        go_wp2_with (refine wpList_new28 rfl rfl rfl _ _ rfl y ko kd (fun g => rfl) (fun g => rfl) HYW.out.ad hO1 hD1 ?_; refine Hid.out ?_)
        refine Lib.hid ?_
        intro g20 w18 hg_g20 hb haw
        have hS_w18 := haw.size
        replace HRK := Lib.hid (HRK.out.on haw)
        replace HAR := Lib.hid (HAR.out.trans haw)
        replace HCa := Lib.hid (HCa.out.on haw)
        replace HCb := Lib.hid (HCb.out.on haw)
        replace HJ1 := Lib.hid (HJ1.out.on haw)
        replace HBJ1 := Lib.hid (HBJ1.out.on haw)
        replace HJ2 := Lib.hid (HJ2.out.on haw)
        have HBJ2 := Lib.hid hb
        have hgl_g20 : w17.heap.size ≤ g20 := hg_g20
        clear hb haw hO1 hD1 hg_g20
        have hga : ∀ f ∈ [] ++ lotX xs ++ lotX ys ++ lotX [⟨z, jo, jd⟩] ++ lotX [⟨y, ko, kd⟩], f.1.ownBlock ≠ some ga := fun f hf he => by
          rw [List.nil_append] at hf
          rcases List.mem_append.1 hf with hf | hf
          · rcases List.mem_append.1 hf with hf | hf
            · rcases List.mem_append.1 hf with hf | hf
              · obtain ⟨x, hx, hr⟩ := lotX_mem hf
                rcases hr with rfl | rfl
                · exact HCa.out.far x hx ga (.inl he) rfl
                · exact HCa.out.far x hx ga (.inr he) rfl
              · obtain ⟨x, hx, hr⟩ := lotX_mem hf
                rcases hr with rfl | rfl
                · have := (HCb.out.each x hx).2.no ga he; omega
                · have := (HCb.out.each x hx).2.nd ga he; omega
            · obtain ⟨x, hx, hr⟩ := lotX_mem hf
              simp at hx; subst hx
              rcases hr with rfl | rfl
              · have := HJ1.out.no ga he; omega
              · have := HJ1.out.nd ga he; omega
          · obtain ⟨x, hx, hr⟩ := lotX_mem hf
            simp at hx; subst hx
            rcases hr with rfl | rfl
            · have := HJ2.out.no ga he; omega
            · have := HJ2.out.nd ga he; omega
        have HGA := Lib.hid hga
        clear hga
        have HP1 : Hid (Pkt w18 z jo jd) := HJ1.out.pkt HZW.out
        have HP2 : Hid (Pkt w18 y ko kd) := HJ2.out.pkt HYW.out
        obtain ⟨zs, hzs⟩ : ∃ zs : List X, zs = xs ++ ys ++ [⟨z, jo, jd⟩, ⟨y, ko, kd⟩] := ⟨_, rfl⟩
        have HZS := Lib.hid hzs
        have hzl : zs.length = lz.length + ly.length + 2 := by rw [hzs]; simp; omega
        clear hzs
        go_upto_region 17 with fail
        go_cut [14] (fun v wc => LstP wc v zs ∧ (∀ k, v.ownBlock = some k → k = ga ∨ w18.heap.size ≤ k) ∧ Away [ga] w18 wc)
        case first =>
          as_aux_lemma =>
          have HAE : Hid (Away [] w18 w18.drew) := (Away.refl [] w18).drew
          have KP1 : Hid (∀ w', Away [ga] w18 w' → Pkt w' z jo jd) := fun w' h => (HJ1.out.away h (fun k hk hc => by simp at hc; subst hc; rcases hk with hk | hk; exact HGA.out (jo, z.o) (by simp [lotX]) hk; exact HGA.out (jd, z.d) (by simp [lotX]) hk)).pkt HZW.out
          have KP2 : Hid (∀ w', Away [ga] w18 w' → Pkt w' y ko kd) := fun w' h => (HJ2.out.away h (fun k hk hc => by simp at hc; subst hc; rcases hk with hk | hk; exact HGA.out (ko, y.o) (by simp [lotX]) hk; exact HGA.out (kd, y.d) (by simp [lotX]) hk)).pkt HYW.out
          have hb18 := HBJ1.out.lt
          have hb20 := HBJ2.out.lt
          refine wp_region_held_drew (S := (fun w' => BoxP w' g18 z jo jd ∧ BoxP w' g20 y ko kd)) (by kernel_rfl) (by exact ⟨HBJ1.out, HBJ2.out⟩) (fun hHeld => ?_)
          refine wpAnyH_take (i := 0) (v := ?_) (by simp only [List.getElem?_toArray, List.getElem?_cons_zero]; rfl) (by kernel_rfl) (by kernel_rfl) (by kernel_rfl) (by exact fun _ _ _ h => h) (Or.inl ⟨by rfl, ?_⟩) (by assumption) ?_
          rotate_left
          · intro wq hSw
            (try dsimp only at hSw)
            go_simp
            all_goals (with_reducible rfl)
          try simp only [Act.put, List.setIfInBounds_toArray, List.set_cons_zero, List.set_cons_succ]
          refine wpAnyH_take (i := 1) (v := ?_) (by simp only [List.getElem?_toArray, List.getElem?_cons_succ, List.getElem?_cons_zero]; rfl) (by kernel_rfl) (by kernel_rfl) (by kernel_rfl) (by exact fun _ _ _ h => h) (Or.inl ⟨by rfl, ?_⟩) (by assumption) ?_
          rotate_left
          · intro wq hSw
            (try dsimp only at hSw)
            go_simp
            all_goals (with_reducible rfl)
          try simp only [Act.put, List.setIfInBounds_toArray, List.set_cons_zero, List.set_cons_succ]
          refine wpAnyH_take (i := 3) (by simp only [List.getElem?_toArray, List.getElem?_cons_succ, List.getElem?_cons_zero]; rfl) (by kernel_rfl) (by kernel_rfl) (by kernel_rfl) (by exact fun _ _ _ h => h) (yields_ld (ad := ⟨g18, 0, none⟩) (by rfl) _ rfl rfl (fun w' h => S6.load28_run h.1 HZW.out.ad)) (by assumption) ?_
          try simp only [Act.put, List.setIfInBounds_toArray, List.set_cons_zero, List.set_cons_succ]
          refine wpAnyH_take (i := 4) (by simp only [List.getElem?_toArray, List.getElem?_cons_succ, List.getElem?_cons_zero]; rfl) (by kernel_rfl) (by kernel_rfl) (by kernel_rfl) (by exact fun _ _ _ h => h) (yields_ld (ad := ⟨g20, 0, none⟩) (by rfl) _ rfl rfl (fun w' h => S6.load28_run h.2 HYW.out.ad)) (by assumption) ?_
          try simp only [Act.put, List.setIfInBounds_toArray, List.set_cons_zero, List.set_cons_succ]
          refine wpAnyH_ready (rs := [2, 5]) (by kernel_rfl) (by simp) ?_
          refine AllReadyH.cons (by simp only [List.getElem?_toArray, List.getElem?_cons_succ, List.getElem?_cons_zero]; rfl) (fun K hK => ?_) (AllReadyH.cons (by simp only [List.getElem?_toArray, List.getElem?_cons_succ, List.getElem?_cons_zero]; rfl) (fun K hK => ?_) AllReadyH.nil)
          · rw [if_pos (by rfl)]
            refine wp_appQ _ _ rfl (.slice (some ⟨ga, 0, none⟩) lz.length gac) xs ys rfl (by exact (HCa.out.on HAE.out).lst) ⟨gb, 0, none⟩ ly.length gbc rfl hl_ys (by exact R.Cuts.pks' (HCb.out.on HAE.out) (by omega)) (by omega) ?_
            intro v1 y61 hl1 hgr1 hmv1
            have haw := (Away.refl [ga] _).grown hgr1 (fun k hk => .inl (by simp [Value.ownBlock] at hk; simp [hk]))
            have HM1 : Hid (∀ k, v1.ownBlock = some k → k = ga ∨ w18.heap.size ≤ k) := fun k hk => by
              rcases hmv1 k hk with h1 | h1
              · exact .inl (by simp [Value.ownBlock] at h1; exact h1.symm)
              · exact .inr (by have := HAE.out.size; omega)
            have HAQ : Hid (Away [ga] w18 y61) := (HAE.out.mono (by simp)).trans haw
            have HLL := Lib.hid hl1
            have hS : BoxP y61 g18 z jo jd ∧ BoxP y61 g20 y ko kd := ⟨hHeld.1.away haw (by simp; omega), hHeld.2.away haw (by simp; omega)⟩
            clear haw hl1 hgr1 hmv1 HAE
            refine hK.out _ _ hS (fun hHeld => ?_)
            clear hK K hS
            try simp only [Act.put, List.setIfInBounds_toArray, List.set_cons_zero, List.set_cons_succ]
            refine wpAnyH_ready (rs := [5]) (by kernel_rfl) (by simp) ?_
            refine AllReadyH.cons (by simp only [List.getElem?_toArray, List.getElem?_cons_succ, List.getElem?_cons_zero]; rfl) (fun K hK => ?_) AllReadyH.nil
            rw [if_pos (by rfl)]
            have hsq := Away.size (show Away [ga] w18 _ from HAQ.out)
            refine wp_build28_2 _ _ rfl z y jo jd ko kd rfl rfl (by exact KP1.out _ HAQ.out) (by exact KP2.out _ HAQ.out) ?_
            intro y62 hpk haw
            have HPK := Lib.hid hpk
            have hS : BoxP y62 g18 z jo jd ∧ BoxP y62 g20 y ko kd := ⟨hHeld.1.on haw, hHeld.2.on haw⟩
            replace HAQ := Lib.hid (HAQ.out.next haw (by simp))
            replace HLL := Lib.hid (HLL.out.on haw)
            clear haw hpk
            refine hK.out _ _ hS (fun hHeld => ?_)
            clear hK K hS
            try simp only [Act.put, List.setIfInBounds_toArray, List.set_cons_zero, List.set_cons_succ]
            refine wpAnyH_ready (rs := [6]) (by kernel_rfl) (by simp) ?_
            refine AllReadyH.cons (by simp only [List.getElem?_toArray, List.getElem?_cons_succ, List.getElem?_cons_zero]; rfl) (fun K hK => ?_) AllReadyH.nil
            rw [if_pos (by rfl)]
            refine wp_appQ _ _ rfl v1 (xs ++ ys) [⟨z, jo, jd⟩, ⟨y, ko, kd⟩] rfl (by exact HLL.out) _ 2 2 rfl rfl (by exact HPK.out) (by simp; omega) ?_
            intro v2 y63 hl2 hgr2 hmv2
            have haw := (Away.refl v1.ownBlock.toList _).grown hgr2 (fun k hk => .inl (by simp [hk]))
            have hsz := HAQ.out.size
            have HM2 : Hid (∀ k, v2.ownBlock = some k → k = ga ∨ w18.heap.size ≤ k) := fun k hk => by
              rcases hmv2 k hk with h1 | h1
              · exact HM1.out k h1
              · exact .inr (by omega)
            replace HAQ := Lib.hid (HAQ.out.grown hgr2 (fun k hk => by rcases HM1.out k hk with rfl | h1; exact .inl (by simp); exact .inr h1))
            have HL2 : Hid (LstP y63 v2 zs) := by rw [HZS.out]; exact hl2
            have hS : BoxP y63 g18 z jo jd ∧ BoxP y63 g20 y ko kd := ⟨hHeld.1.away haw (fun hc => by have := HM1.out g18 (by simpa using hc); omega), hHeld.2.away haw (fun hc => by have := HM1.out g20 (by simpa using hc); omega)⟩
            clear haw hl2 hgr2 hmv2
            refine hK.out _ _ hS (fun hHeld => ?_)
            clear hK K hS
            try simp only [Act.put, List.setIfInBounds_toArray, List.set_cons_zero, List.set_cons_succ]
            refine wpAnyH_take (i := 7) (v := ?_) (by simp only [List.getElem?_toArray, List.getElem?_cons_succ, List.getElem?_cons_zero]; rfl) (by kernel_rfl) (by kernel_rfl) (by kernel_rfl) (by exact fun _ _ _ h => h) (Or.inl ⟨by rfl, ?_⟩) (by assumption) ?_
            rotate_left
            · intro wq hSw
              (try dsimp only at hSw)
              go_simp
              all_goals (with_reducible rfl)
            try simp only [Act.put, List.setIfInBounds_toArray, List.set_cons_zero, List.set_cons_succ]
            clear hHeld
            refine wpAnyH_done (by kernel_rfl) ?_ _
            go_wp2_with fail
            go_meet
            exact ⟨HL2.out, HM2.out, HAQ.out⟩
          · rw [if_pos (by rfl)]
            have hsq := Away.size (show Away [ga] w18 _ from (HAE.out.mono (by simp)))
            refine wp_build28_2 _ _ rfl z y jo jd ko kd rfl rfl (by exact KP1.out _ (HAE.out.mono (by simp))) (by exact KP2.out _ (HAE.out.mono (by simp))) ?_
            intro y61 hpk haw
            have HPK := Lib.hid hpk
            have hS : BoxP y61 g18 z jo jd ∧ BoxP y61 g20 y ko kd := ⟨hHeld.1.on haw, hHeld.2.on haw⟩
            replace HAE := Lib.hid (HAE.out.trans haw)
            clear haw hpk
            refine hK.out _ _ hS (fun hHeld => ?_)
            clear hK K hS
            try simp only [Act.put, List.setIfInBounds_toArray, List.set_cons_zero, List.set_cons_succ]
            refine wpAnyH_ready (rs := [2]) (by kernel_rfl) (by simp) ?_
            refine AllReadyH.cons (by simp only [List.getElem?_toArray, List.getElem?_cons_succ, List.getElem?_cons_zero]; rfl) (fun K hK => ?_) AllReadyH.nil
            rw [if_pos (by rfl)]
            refine wp_appQ _ _ rfl (.slice (some ⟨ga, 0, none⟩) lz.length gac) xs ys rfl (by exact (HCa.out.on HAE.out).lst) ⟨gb, 0, none⟩ ly.length gbc rfl hl_ys (by exact R.Cuts.pks' (HCb.out.on HAE.out) (by omega)) (by omega) ?_
            intro v1 y62 hl1 hgr1 hmv1
            have haw := (Away.refl [ga] _).grown hgr1 (fun k hk => .inl (by simp [Value.ownBlock] at hk; simp [hk]))
            have HM1 : Hid (∀ k, v1.ownBlock = some k → k = ga ∨ w18.heap.size ≤ k) := fun k hk => by
              rcases hmv1 k hk with h1 | h1
              · exact .inl (by simp [Value.ownBlock] at h1; exact h1.symm)
              · exact .inr (by have := HAE.out.size; omega)
            have HAQ : Hid (Away [ga] w18 y62) := (HAE.out.mono (by simp)).trans haw
            have HLL := Lib.hid hl1
            have hS : BoxP y62 g18 z jo jd ∧ BoxP y62 g20 y ko kd := ⟨hHeld.1.away haw (by simp; omega), hHeld.2.away haw (by simp; omega)⟩
            replace HPK := Lib.hid (pks_away HPK.out haw (by simp; omega) (fun x hx => by simp only [List.mem_cons, List.not_mem_nil, or_false] at hx; rcases hx with rfl | rfl; exact KP1.out _ HAQ.out; exact KP2.out _ HAQ.out))
            clear haw hl1 hgr1 hmv1 HAE
            refine hK.out _ _ hS (fun hHeld => ?_)
            clear hK K hS
            try simp only [Act.put, List.setIfInBounds_toArray, List.set_cons_zero, List.set_cons_succ]
            refine wpAnyH_ready (rs := [6]) (by kernel_rfl) (by simp) ?_
            refine AllReadyH.cons (by simp only [List.getElem?_toArray, List.getElem?_cons_succ, List.getElem?_cons_zero]; rfl) (fun K hK => ?_) AllReadyH.nil
            rw [if_pos (by rfl)]
            refine wp_appQ _ _ rfl v1 (xs ++ ys) [⟨z, jo, jd⟩, ⟨y, ko, kd⟩] rfl (by exact HLL.out) _ 2 2 rfl rfl (by exact HPK.out) (by simp; omega) ?_
            intro v2 y63 hl2 hgr2 hmv2
            have haw := (Away.refl v1.ownBlock.toList _).grown hgr2 (fun k hk => .inl (by simp [hk]))
            have hsz := HAQ.out.size
            have HM2 : Hid (∀ k, v2.ownBlock = some k → k = ga ∨ w18.heap.size ≤ k) := fun k hk => by
              rcases hmv2 k hk with h1 | h1
              · exact HM1.out k h1
              · exact .inr (by omega)
            replace HAQ := Lib.hid (HAQ.out.grown hgr2 (fun k hk => by rcases HM1.out k hk with rfl | h1; exact .inl (by simp); exact .inr h1))
            have HL2 : Hid (LstP y63 v2 zs) := by rw [HZS.out]; exact hl2
            have hS : BoxP y63 g18 z jo jd ∧ BoxP y63 g20 y ko kd := ⟨hHeld.1.away haw (fun hc => by have := HM1.out g18 (by simpa using hc); omega), hHeld.2.away haw (fun hc => by have := HM1.out g20 (by simpa using hc); omega)⟩
            clear haw hl2 hgr2 hmv2
            refine hK.out _ _ hS (fun hHeld => ?_)
            clear hK K hS
            try simp only [Act.put, List.setIfInBounds_toArray, List.set_cons_zero, List.set_cons_succ]
            refine wpAnyH_take (i := 7) (v := ?_) (by simp only [List.getElem?_toArray, List.getElem?_cons_succ, List.getElem?_cons_zero]; rfl) (by kernel_rfl) (by kernel_rfl) (by kernel_rfl) (by exact fun _ _ _ h => h) (Or.inl ⟨by rfl, ?_⟩) (by assumption) ?_
            rotate_left
            · intro wq hSw
              (try dsimp only at hSw)
              go_simp
              all_goals (with_reducible rfl)
            try simp only [Act.put, List.setIfInBounds_toArray, List.set_cons_zero, List.set_cons_succ]
            clear hHeld
            refine wpAnyH_done (by kernel_rfl) ?_ _
            go_wp2_with fail
            go_meet
            exact ⟨HL2.out, HM2.out, HAQ.out⟩
        case rest =>
          obtain ⟨hlz', hvb, haw⟩ := hcut
          obtain ⟨va', hva0⟩ : ∃ v, v = u14 := ⟨_, rfl⟩
          rw [← hva0] at hlz' hvb ⊢
          clear hva0
          generalize wc = wq at *
          have hS_q := haw.size
          have HLA := Lib.hid hlz'
          have HVB : Hid (∀ k, va'.ownBlock = some k → k = ga ∨ w18.heap.size ≤ k) := hvb
          replace HRK : Hid (RK w12.heap.size wq kv0 wv0 T (lotX (zs.drop 0))) := by
            have h1 := HRK.out.away haw (fun k hk => by simp at hk; subst hk; exact ⟨fun he => by have := HKL0.out k he; omega, fun he => by have := HWL0.out k he; omega⟩) (fun k hk t ht => by simp at hk; subst hk; exact ⟨fun he => by have := (HTL0.out t ht k (.inl he)); omega, fun he => by have := (HTL0.out t ht k (.inr he)); omega⟩) (fun k hk f hf => by simp at hk; subst hk; exact HGA.out f hf)
            rw [List.drop_zero, HZS.out, lotX_app, lotX_app, show lotX [(⟨z, jo, jd⟩ : X), ⟨y, ko, kd⟩] = lotX [⟨z, jo, jd⟩] ++ lotX [⟨y, ko, kd⟩] from rfl]
            refine Lib.hid ?_
            simpa using h1
          replace HAR := Lib.hid (HAR.out.next haw (fun k hk => .inr (by simp at hk; omega)))
          have HZA : Hid (∀ x ∈ zs, Ad x.p) := fun x hx => by
            rw [HZS.out] at hx
            simp only [List.mem_append, List.mem_cons, List.not_mem_nil, or_false] at hx
            rcases hx with (hx | hx) | rfl | rfl
            · exact (HCa.out.each x hx).1.ad
            · exact (HCb.out.each x hx).1.ad
            · exact HZW.out.ad
            · exact HYW.out.ad
          have HKA : Hid (∀ k, va'.ownBlock = some k → kv0.ownBlock ≠ some k ∧ wv0.ownBlock ≠ some k) := fun k hk => ⟨fun he => by have h1 := HKL0.out k he; have h2 := HVB.out k hk; omega, fun he => by have h1 := HWL0.out k he; have h2 := HVB.out k hk; omega⟩
          obtain ⟨gA, gAc, hva⟩ : ∃ g c, va' = .slice (some ⟨g, 0, none⟩) zs.length c := by
            rcases HLA.out.2 with ⟨h1, h2⟩ | ⟨g, cap, cur, h1, -⟩
            · omega
            · exact ⟨g, cap, h1⟩
          subst hva
          obtain ⟨M, hMz⟩ : ∃ M, M = zs.length := ⟨_, rfl⟩
          rw [← hMz] at HLA HKA HVB hzl ⊢
          have HMZ : Hid (zs.length = M) := hMz.symm
          clear hMz hlz' hvb haw HCa HCb HJ1 HJ2 HBJ1 HBJ2 HP1 HP2 HGA HZS
          replace hzl := hzl.symm
          go_wp2_with fail
          go_loopw [11, 12, 22] (fun kv wv iv wr => ∃ (i : Nat) (T1 : List Kept), iv = .int .i64 (i : Int) ∧ i ≤ M ∧ T1.length = 2 * i ∧ RK w12.heap.size wr kv wv (T ++ T1) (lotX (zs.drop i)) ∧ LstP wr (.slice (some ⟨gA, 0, none⟩) M gAc) zs ∧ kv.ownBlock ≠ some gA ∧ wv.ownBlock ≠ some gA ∧ Away [] w12 wr) (fun _ _ iv _ => M - (intOf iv).toNat)
          case atStart => exact ⟨0, [], rfl, by omega, rfl, by rw [List.append_nil]; exact HRK.out, HLA.out, (HKA.out gA rfl).1, (HKA.out gA rfl).2, HAR.out⟩
          case round =>
            obtain ⟨i, T1, rfl, hi, hT1, hrk, hla, hk1, hk2, haw⟩ := hrel
            have HRI := Lib.hid hrk
            have HLI2 := Lib.hid hla
            have HK1 := Lib.hid hk1
            have HK2 := Lib.hid hk2
            have HAI := Lib.hid haw
            clear hrk hla hk1 hk2 haw HRK HLA HAR HKA
            generalize wr = wi at *
            by_cases hiM : i < M
            · as_aux_lemma =>
              obtain ⟨x, hxi, hxm⟩ := get_of (show i < zs.length by rw [HMZ.out]; exact hiM)
              have HXI := Lib.hid hxi
              have HXA := Lib.hid (HZA.out x hxm)
              rw [lotX_drop hxi] at HRI
              have h44 := lst_cell HLI2.out HMZ.out HZA.out hxi (f := 44) (listP_od HXA.out x.o x.d).1
              have h45 := lst_cell HLI2.out HMZ.out HZA.out hxi (f := 45) (listP_od HXA.out x.o x.d).2
              have hfo := HRI.out.fr (x.o, x.p.o) (by simp)
              have hfd := HRI.out.fr (x.d, x.p.d) (by simp)
              obtain ⟨oa, on, oc, hxo⟩ := hfo.1.shp
              obtain ⟨da', dn, dc, hxd⟩ := hfd.1.shp
              simp only at hxo hxd
              obtain ⟨lo, hlo⟩ : ∃ l, l = x.p.o := ⟨_, rfl⟩
              obtain ⟨ld, hld⟩ : ∃ l, l = x.p.d := ⟨_, rfl⟩
              have HFO : Hid (Owns wi (.slice oa on oc) lo ∧ Bytes lo ∧ lo.length ≤ 65535) := by rw [hlo, ← hxo]; exact hfo
              have HFD : Hid (Owns wi (.slice da' dn dc) ld ∧ Bytes ld ∧ ld.length ≤ 65535) := by rw [hld, ← hxd]; exact hfd
              rw [hxo, hxd, ← hlo, ← hld] at HRI
              rw [hxo] at h44
              rw [hxd] at h45
              have C44 := Lib.hid h44.1
              have C45 := Lib.hid h45.1
              have hszi := HAI.out.size
              have hgl : gA < wi.heap.size := HLI2.out.lt gA rfl
              have i2 : 0 ≤ (i : Int) := by omega
              have i3 : (i : Int) < (M : Int) := by omega
              have i4 : ((i : Int)).toNat = i := by omega
              have hTT : (T ++ T1).length ≤ 60000 := by rw [List.length_append, hTl, hT1]; have : t * (2 * (lz.length + ly.length + 2)) ≤ 1 * (2 * (lz.length + ly.length + 2)) := Nat.mul_le_mul_right _ (by omega); omega
              clear hxi hxm h44 h45 hfo hfd hxo hxd hlo hld
              go_upto_region 21 with fail
              refine wp_region_held_drew (S := (fun w' => w'.cell? ⟨gA, i * 46 + 44, none⟩ = some (.slice oa on oc) ∧ w'.cell? ⟨gA, i * 46 + 45, none⟩ = some (.slice da' dn dc))) (by kernel_rfl) (by exact ⟨C44.out, C45.out⟩) (fun hHeld => ?_)
              refine wpAnyH_take (i := 0) (v := ?_) (by simp only [List.getElem?_toArray, List.getElem?_cons_zero]; rfl) (by kernel_rfl) (by kernel_rfl) (by kernel_rfl) (by exact fun _ _ _ h => h) (Or.inl ⟨by rfl, ?_⟩) (by assumption) ?_
              rotate_left
              · intro wq hSw
                (try dsimp only at hSw)
                go_simp
                all_goals (with_reducible rfl)
              try simp only [Act.put, List.setIfInBounds_toArray, List.set_cons_zero, List.set_cons_succ]
              refine wpAnyH_take (i := 1) (v := ?_) (by simp only [List.getElem?_toArray, List.getElem?_cons_succ, List.getElem?_cons_zero]; rfl) (by kernel_rfl) (by kernel_rfl) (by kernel_rfl) (by exact fun _ _ _ h => h) (Or.inl ⟨by rfl, ?_⟩) (by assumption) ?_
              rotate_left
              · intro wq hSw
                (try dsimp only at hSw)
                go_simp
                all_goals (with_reducible rfl)
              try simp only [Act.put, List.setIfInBounds_toArray, List.set_cons_zero, List.set_cons_succ]
              refine wpAnyH_take (i := 2) (v := ?_) (by simp only [List.getElem?_toArray, List.getElem?_cons_succ, List.getElem?_cons_zero]; rfl) (by kernel_rfl) (by kernel_rfl) (by kernel_rfl) (by exact fun _ _ _ h => h) (Or.inl ⟨by rfl, ?_⟩) (by assumption) ?_
              rotate_left
              · intro wq hSw
                (try dsimp only at hSw)
                go_simp
                all_goals (with_reducible rfl)
              try simp only [Act.put, List.setIfInBounds_toArray, List.set_cons_zero, List.set_cons_succ]
              refine wpAnyH_take (i := 3) (v := ?_) (by simp only [List.getElem?_toArray, List.getElem?_cons_succ, List.getElem?_cons_zero]; rfl) (by kernel_rfl) (by kernel_rfl) (by kernel_rfl) (by exact fun _ _ _ h => h) (Or.inl ⟨by rfl, ?_⟩) (by assumption) ?_
              rotate_left
              · intro wq hSw
                (try dsimp only at hSw)
                go_simp
                all_goals (with_reducible rfl)
              try simp only [Act.put, List.setIfInBounds_toArray, List.set_cons_zero, List.set_cons_succ]
              refine wpAnyH_take (i := 4) (v := ?_) (by simp only [List.getElem?_toArray, List.getElem?_cons_succ, List.getElem?_cons_zero]; rfl) (by kernel_rfl) (by kernel_rfl) (by kernel_rfl) (by exact fun _ _ _ h => h) (Or.inl ⟨by rfl, ?_⟩) (by assumption) ?_
              rotate_left
              · intro wq hSw
                (try dsimp only at hSw)
                go_simp
                all_goals (with_reducible rfl)
              try simp only [Act.put, List.setIfInBounds_toArray, List.set_cons_zero, List.set_cons_succ]
              refine wpAnyH_take (i := 5) (by simp only [List.getElem?_toArray, List.getElem?_cons_succ, List.getElem?_cons_zero]; rfl) (by kernel_rfl) (by kernel_rfl) (by kernel_rfl) (by exact fun _ _ _ h => h) (yields_ld (ad := ⟨gA, i * 46 + 44, none⟩) (by rfl) _ rfl rfl (fun w' h => S6.ld26 h.1)) (by assumption) ?_
              try simp only [Act.put, List.setIfInBounds_toArray, List.set_cons_zero, List.set_cons_succ]
              refine wpAnyH_take (i := 6) (v := ?_) (by simp only [List.getElem?_toArray, List.getElem?_cons_succ, List.getElem?_cons_zero]; rfl) (by kernel_rfl) (by kernel_rfl) (by kernel_rfl) (by exact fun _ _ _ h => h) (Or.inl ⟨by rfl, ?_⟩) (by assumption) ?_
              rotate_left
              · intro wq hSw
                (try dsimp only at hSw)
                go_simp
                all_goals (with_reducible rfl)
              try simp only [Act.put, List.setIfInBounds_toArray, List.set_cons_zero, List.set_cons_succ]
              refine wpAnyH_take (i := 7) (v := ?_) (by simp only [List.getElem?_toArray, List.getElem?_cons_succ, List.getElem?_cons_zero]; rfl) (by kernel_rfl) (by kernel_rfl) (by kernel_rfl) (by exact fun _ _ _ h => h) (Or.inl ⟨by rfl, ?_⟩) (by assumption) ?_
              rotate_left
              · intro wq hSw
                (try dsimp only at hSw)
                go_simp
                all_goals (with_reducible rfl)
              try simp only [Act.put, List.setIfInBounds_toArray, List.set_cons_zero, List.set_cons_succ]
              refine wpAnyH_take (i := 8) (v := ?_) (by simp only [List.getElem?_toArray, List.getElem?_cons_succ, List.getElem?_cons_zero]; rfl) (by kernel_rfl) (by kernel_rfl) (by kernel_rfl) (by exact fun _ _ _ h => h) (Or.inl ⟨by rfl, ?_⟩) (by assumption) ?_
              rotate_left
              · intro wq hSw
                (try dsimp only at hSw)
                go_simp
                all_goals (with_reducible rfl)
              try simp only [Act.put, List.setIfInBounds_toArray, List.set_cons_zero, List.set_cons_succ]
              refine wpAnyH_take (i := 9) (v := ?_) (by simp only [List.getElem?_toArray, List.getElem?_cons_succ, List.getElem?_cons_zero]; rfl) (by kernel_rfl) (by kernel_rfl) (by kernel_rfl) (by exact fun _ _ _ h => h) (Or.inl ⟨by rfl, ?_⟩) (by assumption) ?_
              rotate_left
              · intro wq hSw
                (try dsimp only at hSw)
                go_simp
                all_goals (with_reducible rfl)
              try simp only [Act.put, List.setIfInBounds_toArray, List.set_cons_zero, List.set_cons_succ]
              refine wpAnyH_take (i := 10) (by simp only [List.getElem?_toArray, List.getElem?_cons_succ, List.getElem?_cons_zero]; rfl) (by kernel_rfl) (by kernel_rfl) (by kernel_rfl) (by exact fun _ _ _ h => h) (yields_ld (ad := ⟨gA, i * 46 + 45, none⟩) (by rfl) _ rfl rfl (fun w' h => S6.ld26 h.2)) (by assumption) ?_
              try simp only [Act.put, List.setIfInBounds_toArray, List.set_cons_zero, List.set_cons_succ]
              refine wpAnyH_ready (rs := [11]) (by kernel_rfl) (by simp) ?_
              refine AllReadyH.cons (by simp only [List.getElem?_toArray, List.getElem?_cons_succ, List.getElem?_cons_zero]; rfl) (fun K hK => ?_) AllReadyH.nil
              have hac := (Away.refl [] wi.drew).alloc (.cells #[(.slice oa on oc), (.slice da' dn dc)] 26)
              have hS := And.intro (hac.cell (by simp) hHeld.1) (hac.cell (by simp) hHeld.2)
              have H2C := Lib.hid (two_cells wi.drew (.slice oa on oc) (.slice da' dn dc) wi.drew.heap.size rfl)
              have HKl : Hid (LstV (wi.drew.alloc (.cells #[(.slice oa on oc), (.slice da' dn dc)] 26)) u11 ((T ++ T1).map Kept.v)) := (HRI.out.kl.on ((Away.refl [] wi).drew)).on hac
              go_simp
              refine hK.out _ _ (by exact hS) (fun hHeld => ?_)
              clear hK K hac hS
              try simp only [Act.put, List.setIfInBounds_toArray, List.set_cons_zero, List.set_cons_succ]
              refine wpAnyH_ready (rs := [12]) (by kernel_rfl) (by simp) ?_
              refine AllReadyH.cons (by simp only [List.getElem?_toArray, List.getElem?_cons_succ, List.getElem?_cons_zero]; rfl) (fun K hK => ?_) AllReadyH.nil
              refine R.step_appV rfl _ _ rfl u11 ((T ++ T1).map Kept.v) [(.slice oa on oc), (.slice da' dn dc)] rfl (by exact HKl.out) ⟨wi.drew.heap.size, 0, none⟩ 2 2 rfl rfl (by exact H2C.out) (by simp [Value.oneCell']) (by rw [List.length_map]; omega) (fun kv2 wk hlv ha2 hm2 => ?_)
              have HL1 := Lib.hid hlv
              have HA1 : Hid (Away u11.ownBlock.toList wi wk) := (((Away.refl _ wi).drew).alloc _).trans ha2
              have HM1 : Hid (Moved wi u11 kv2) := fun k hk => by
                rcases hm2 k hk with h1 | h1
                · exact .inl h1
                · exact .inr (by simp at h1; omega)
              have hS := And.intro (ha2.cell (by simpa using HK1.out) hHeld.1) (ha2.cell (by simpa using HK1.out) hHeld.2)
              clear hlv ha2 hm2 HKl H2C
              refine hK.out _ _ (by exact hS) (fun hHeld => ?_)
              clear hK K hS
              try simp only [Act.put, List.setIfInBounds_toArray, List.set_cons_zero, List.set_cons_succ]
              refine wpAnyH_take (i := 13) (v := ?_) (by simp only [List.getElem?_toArray, List.getElem?_cons_succ, List.getElem?_cons_zero]; rfl) (by kernel_rfl) (by kernel_rfl) (by kernel_rfl) (by exact fun _ _ _ h => h) (Or.inl ⟨by rfl, ?_⟩) (by assumption) ?_
              rotate_left
              · intro wq hSw
                (try dsimp only at hSw)
                go_simp
                all_goals (with_reducible rfl)
              try simp only [Act.put, List.setIfInBounds_toArray, List.set_cons_zero, List.set_cons_succ]
              have HCK := Lib.hid hHeld
              clear hHeld
              refine wpAnyH_done (by kernel_rfl) ?_ _
              go_upto_region 22 with fail
              have HSO : Hid (Sl wk.drew (.slice oa on oc) lo) := ((HFO.out.1.away HA1.out (fun k hk hc => (HRI.out.kb k (by simpa using hc)).2.2 (.slice oa on oc, lo) (by simp) hk)).on ((Away.refl [] wk).drew)).sl HFO.out.2.1 (by have := HFO.out.2.2; omega)
              have HSD : Hid (Sl wk.drew (.slice da' dn dc) ld) := ((HFD.out.1.away HA1.out (fun k hk hc => (HRI.out.kb k (by simpa using hc)).2.2 (.slice da' dn dc, ld) (by simp) hk)).on ((Away.refl [] wk).drew)).sl HFD.out.2.1 (by have := HFD.out.2.2; omega)
              have HWK : Hid (LstV wk u12 ((T ++ T1).map Kept.u)) := HRI.out.wl.away HA1.out (fun k hk hc => (HRI.out.wb k hk).2.1 (by simpa using hc))
              have HAC : Hid (Away [] wk wk.drew) := (Away.refl [] wk).drew
              refine wp_region_held_drew (S := (fun w' => w'.cell? ⟨gA, i * 46 + 44, none⟩ = some (.slice oa on oc) ∧ w'.cell? ⟨gA, i * 46 + 45, none⟩ = some (.slice da' dn dc))) (by kernel_rfl) (by exact HCK.out) (fun hHeld => ?_)
              refine wpAnyH_take (i := 0) (v := ?_) (by simp only [List.getElem?_toArray, List.getElem?_cons_zero]; rfl) (by kernel_rfl) (by kernel_rfl) (by kernel_rfl) (by exact fun _ _ _ h => h) (Or.inl ⟨by rfl, ?_⟩) (by assumption) ?_
              rotate_left
              · intro wq hSw
                (try dsimp only at hSw)
                go_simp
                all_goals (with_reducible rfl)
              try simp only [Act.put, List.setIfInBounds_toArray, List.set_cons_zero, List.set_cons_succ]
              refine wpAnyH_take (i := 1) (v := ?_) (by simp only [List.getElem?_toArray, List.getElem?_cons_succ, List.getElem?_cons_zero]; rfl) (by kernel_rfl) (by kernel_rfl) (by kernel_rfl) (by exact fun _ _ _ h => h) (Or.inl ⟨by rfl, ?_⟩) (by assumption) ?_
              rotate_left
              · intro wq hSw
                (try dsimp only at hSw)
                go_simp
                all_goals (with_reducible rfl)
              try simp only [Act.put, List.setIfInBounds_toArray, List.set_cons_zero, List.set_cons_succ]
              refine wpAnyH_take (i := 2) (v := ?_) (by simp only [List.getElem?_toArray, List.getElem?_cons_succ, List.getElem?_cons_zero]; rfl) (by kernel_rfl) (by kernel_rfl) (by kernel_rfl) (by exact fun _ _ _ h => h) (Or.inl ⟨by rfl, ?_⟩) (by assumption) ?_
              rotate_left
              · intro wq hSw
                (try dsimp only at hSw)
                go_simp
                all_goals (with_reducible rfl)
              try simp only [Act.put, List.setIfInBounds_toArray, List.set_cons_zero, List.set_cons_succ]
              refine wpAnyH_take (i := 3) (v := ?_) (by simp only [List.getElem?_toArray, List.getElem?_cons_succ, List.getElem?_cons_zero]; rfl) (by kernel_rfl) (by kernel_rfl) (by kernel_rfl) (by exact fun _ _ _ h => h) (Or.inl ⟨by rfl, ?_⟩) (by assumption) ?_
              rotate_left
              · intro wq hSw
                (try dsimp only at hSw)
                go_simp
                all_goals (with_reducible rfl)
              try simp only [Act.put, List.setIfInBounds_toArray, List.set_cons_zero, List.set_cons_succ]
              refine wpAnyH_take (i := 4) (v := ?_) (by simp only [List.getElem?_toArray, List.getElem?_cons_succ, List.getElem?_cons_zero]; rfl) (by kernel_rfl) (by kernel_rfl) (by kernel_rfl) (by exact fun _ _ _ h => h) (Or.inl ⟨by rfl, ?_⟩) (by assumption) ?_
              rotate_left
              · intro wq hSw
                (try dsimp only at hSw)
                go_simp
                all_goals (with_reducible rfl)
              try simp only [Act.put, List.setIfInBounds_toArray, List.set_cons_zero, List.set_cons_succ]
              refine wpAnyH_take (i := 5) (by simp only [List.getElem?_toArray, List.getElem?_cons_succ, List.getElem?_cons_zero]; rfl) (by kernel_rfl) (by kernel_rfl) (by kernel_rfl) (by exact fun _ _ _ h => h) (yields_ld (ad := ⟨gA, i * 46 + 44, none⟩) (by rfl) _ rfl rfl (fun w' h => S6.ld26 h.1)) (by assumption) ?_
              try simp only [Act.put, List.setIfInBounds_toArray, List.set_cons_zero, List.set_cons_succ]
              refine wpAnyH_take (i := 7) (v := ?_) (by simp only [List.getElem?_toArray, List.getElem?_cons_succ, List.getElem?_cons_zero]; rfl) (by kernel_rfl) (by kernel_rfl) (by kernel_rfl) (by exact fun _ _ _ h => h) (Or.inl ⟨by rfl, ?_⟩) (by assumption) ?_
              rotate_left
              · intro wq hSw
                (try dsimp only at hSw)
                go_simp
                all_goals (with_reducible rfl)
              try simp only [Act.put, List.setIfInBounds_toArray, List.set_cons_zero, List.set_cons_succ]
              refine wpAnyH_take (i := 8) (v := ?_) (by simp only [List.getElem?_toArray, List.getElem?_cons_succ, List.getElem?_cons_zero]; rfl) (by kernel_rfl) (by kernel_rfl) (by kernel_rfl) (by exact fun _ _ _ h => h) (Or.inl ⟨by rfl, ?_⟩) (by assumption) ?_
              rotate_left
              · intro wq hSw
                (try dsimp only at hSw)
                go_simp
                all_goals (with_reducible rfl)
              try simp only [Act.put, List.setIfInBounds_toArray, List.set_cons_zero, List.set_cons_succ]
              refine wpAnyH_take (i := 9) (v := ?_) (by simp only [List.getElem?_toArray, List.getElem?_cons_succ, List.getElem?_cons_zero]; rfl) (by kernel_rfl) (by kernel_rfl) (by kernel_rfl) (by exact fun _ _ _ h => h) (Or.inl ⟨by rfl, ?_⟩) (by assumption) ?_
              rotate_left
              · intro wq hSw
                (try dsimp only at hSw)
                go_simp
                all_goals (with_reducible rfl)
              try simp only [Act.put, List.setIfInBounds_toArray, List.set_cons_zero, List.set_cons_succ]
              refine wpAnyH_take (i := 10) (v := ?_) (by simp only [List.getElem?_toArray, List.getElem?_cons_succ, List.getElem?_cons_zero]; rfl) (by kernel_rfl) (by kernel_rfl) (by kernel_rfl) (by exact fun _ _ _ h => h) (Or.inl ⟨by rfl, ?_⟩) (by assumption) ?_
              rotate_left
              · intro wq hSw
                (try dsimp only at hSw)
                go_simp
                all_goals (with_reducible rfl)
              try simp only [Act.put, List.setIfInBounds_toArray, List.set_cons_zero, List.set_cons_succ]
              refine wpAnyH_take (i := 11) (by simp only [List.getElem?_toArray, List.getElem?_cons_succ, List.getElem?_cons_zero]; rfl) (by kernel_rfl) (by kernel_rfl) (by kernel_rfl) (by exact fun _ _ _ h => h) (yields_ld (ad := ⟨gA, i * 46 + 45, none⟩) (by rfl) _ rfl rfl (fun w' h => S6.ld26 h.2)) (by assumption) ?_
              try simp only [Act.put, List.setIfInBounds_toArray, List.set_cons_zero, List.set_cons_succ]
              refine wpAnyH_ready (rs := [6]) (by kernel_rfl) (by simp) ?_
              refine AllReadyH.cons (by simp only [List.getElem?_toArray, List.getElem?_cons_succ, List.getElem?_cons_zero]; rfl) (fun K hK => ?_) AllReadyH.nil
              refine R.step_clone rfl _ _ rfl (.slice oa on oc) lo rfl rfl (by exact HSO.out) (fun uv1 wc1 ho hn haw => ?_)
              obtain ⟨ua1, un1, uc1, hue⟩ := ho.shp
              subst hue
              have HO1 := Lib.hid ho
              have HN1 := Lib.hid hn
              replace HSD := Lib.hid (HSD.out.on haw)
              replace HAC := Lib.hid (HAC.out.trans haw)
              have hsz1 := haw.size
              have hS := And.intro (haw.cell (by simp) hHeld.1) (haw.cell (by simp) hHeld.2)
              clear haw ho hn
              refine hK.out _ _ (by exact hS) (fun hHeld => ?_)
              clear hK K hS
              try simp only [Act.put, List.setIfInBounds_toArray, List.set_cons_zero, List.set_cons_succ]
              refine wpAnyH_ready (rs := [12]) (by kernel_rfl) (by simp) ?_
              refine AllReadyH.cons (by simp only [List.getElem?_toArray, List.getElem?_cons_succ, List.getElem?_cons_zero]; rfl) (fun K hK => ?_) AllReadyH.nil
              refine R.step_clone rfl _ _ rfl (.slice da' dn dc) ld rfl rfl (by exact HSD.out) (fun uv2 wc2 ho hn haw => ?_)
              obtain ⟨ua2, un2, uc2, hue⟩ := ho.shp
              subst hue
              have HO2 := Lib.hid ho
              have HN2 := Lib.hid hn
              replace HO1 := Lib.hid (HO1.out.on haw)
              replace HAC := Lib.hid (HAC.out.trans haw)
              have hsz2 := haw.size
              have hS := And.intro (haw.cell (by simp) hHeld.1) (haw.cell (by simp) hHeld.2)
              clear haw ho hn
              refine hK.out _ _ (by exact hS) (fun hHeld => ?_)
              clear hK K hS
              try simp only [Act.put, List.setIfInBounds_toArray, List.set_cons_zero, List.set_cons_succ]
              refine wpAnyH_ready (rs := [13]) (by kernel_rfl) (by simp) ?_
              refine AllReadyH.cons (by simp only [List.getElem?_toArray, List.getElem?_cons_succ, List.getElem?_cons_zero]; rfl) (fun K hK => ?_) AllReadyH.nil
              have hac := (Away.refl [] wc2).alloc (.cells #[(.slice ua1 un1 uc1), (.slice ua2 un2 uc2)] 26)
              have hS := And.intro (hac.cell (by simp) hHeld.1) (hac.cell (by simp) hHeld.2)
              have H2C := Lib.hid (two_cells wc2 (.slice ua1 un1 uc1) (.slice ua2 un2 uc2) wc2.heap.size rfl)
              replace HO1 := Lib.hid (HO1.out.on hac)
              replace HO2 := Lib.hid (HO2.out.on hac)
              replace HAC := Lib.hid (HAC.out.trans hac)
              have HWl : Hid (LstV (wc2.alloc (.cells #[(.slice ua1 un1 uc1), (.slice ua2 un2 uc2)] 26)) u12 ((T ++ T1).map Kept.u)) := HWK.out.on HAC.out
              go_simp
              refine hK.out _ _ (by exact hS) (fun hHeld => ?_)
              clear hK K hac hS
              try simp only [Act.put, List.setIfInBounds_toArray, List.set_cons_zero, List.set_cons_succ]
              refine wpAnyH_ready (rs := [14]) (by kernel_rfl) (by simp) ?_
              refine AllReadyH.cons (by simp only [List.getElem?_toArray, List.getElem?_cons_succ, List.getElem?_cons_zero]; rfl) (fun K hK => ?_) AllReadyH.nil
              refine R.step_appV rfl _ _ rfl u12 ((T ++ T1).map Kept.u) [(.slice ua1 un1 uc1), (.slice ua2 un2 uc2)] rfl (by exact HWl.out) ⟨wc2.heap.size, 0, none⟩ 2 2 rfl rfl (by exact H2C.out) (by simp [Value.oneCell']) (by rw [List.length_map]; omega) (fun wv2 w4 hlv ha2 hm2 => ?_)
              have HL4 := Lib.hid hlv
              have HA4 := Lib.hid ha2
              have HM4 := Lib.hid hm2
              have hS := And.intro (ha2.cell (by simpa using HK2.out) hHeld.1) (ha2.cell (by simpa using HK2.out) hHeld.2)
              clear hlv ha2 hm2 HWl H2C
              refine hK.out _ _ (by exact hS) (fun hHeld => ?_)
              clear hK K hS
              try simp only [Act.put, List.setIfInBounds_toArray, List.set_cons_zero, List.set_cons_succ]
              refine wpAnyH_take (i := 15) (v := ?_) (by simp only [List.getElem?_toArray, List.getElem?_cons_succ, List.getElem?_cons_zero]; rfl) (by kernel_rfl) (by kernel_rfl) (by kernel_rfl) (by exact fun _ _ _ h => h) (Or.inl ⟨by rfl, ?_⟩) (by assumption) ?_
              rotate_left
              · intro wq hSw
                (try dsimp only at hSw)
                go_simp
                all_goals (with_reducible rfl)
              try simp only [Act.put, List.setIfInBounds_toArray, List.set_cons_zero, List.set_cons_succ]
              clear hHeld
              refine wpAnyH_done (by kernel_rfl) ?_ _
              have hdr : wk.drew.heap.size = wk.heap.size := rfl
              have HRN : Hid (RK w12.heap.size w4 kv2 wv2 ((T ++ T1) ++ [⟨lo, (.slice oa on oc), (.slice ua1 un1 uc1)⟩, ⟨ld, (.slice da' dn dc), (.slice ua2 un2 uc2)⟩]) (lotX (zs.drop (i + 1)))) := HRI.out.take hszi HL1.out HA1.out HM1.out HAC.out HO1.out HO2.out HN1.out (HN2.out.mono (by omega)) HL4.out HA4.out HM4.out
              have hs1 := HA1.out.size
              have hs3 := HAC.out.size
              have HKL2 := Lib.hid HRI.out.kl.lt
              have HWL2 := Lib.hid HRI.out.wl.lt
              have HAN : Hid (Away [] w12 w4) := ((HAI.out.next HA1.out (fun k hk => .inr ((HRI.out.kb k (by simpa using hk)).1))).trans HAC.out).next HA4.out (fun k hk => .inr ((HRI.out.wb k (by simpa using hk)).1))
              have HLN : Hid (LstP w4 (.slice (some ⟨gA, 0, none⟩) M gAc) zs) := (((HLI2.out.away HA1.out (fun k hk hc => by simp [Value.ownBlock] at hk; subst hk; exact HK1.out (by simpa using hc)))).on HAC.out).away HA4.out (fun k hk hc => by simp [Value.ownBlock] at hk; subst hk; exact HK2.out (by simpa using hc))
              have HKN : Hid (kv2.ownBlock ≠ some gA) := fun he => by
                rcases HM1.out gA he with h1 | h1
                · exact HK1.out h1
                · omega
              have HWN : Hid (wv2.ownBlock ≠ some gA) := fun he => by
                rcases HM4.out gA he with h1 | h1
                · exact HK2.out h1
                · omega
              go_wp2_with fail
              go_roundw
              case rel => exact ⟨i + 1, T1 ++ [⟨lo, (.slice oa on oc), (.slice ua1 un1 uc1)⟩, ⟨ld, (.slice da' dn dc), (.slice ua2 un2 uc2)⟩], by go_num, by omega, by simp; omega, by rw [← List.append_assoc]; exact HRN.out, HLN.out, HKN.out, HWN.out, HAN.out⟩
              case measure => simp [intOf]; omega
            · obtain rfl : i = M := by omega
              have hlt' : ¬ ((i : Int) < (i : Int)) := by omega
              have HRN : Hid (RK w12.heap.size wi u11 u12 (T ++ T1) []) := by
                have h1 := HRI.out
                rw [List.drop_eq_nil_of_le (by rw [HMZ.out]; omega)] at h1
                exact h1
              have HTN : Hid ((T ++ T1).length = (t + 1) * (2 * (lz.length + ly.length + 2))) := by refine Lib.hid ?_; rw [List.length_append, hTl, hT1, ← hzl, Nat.add_mul]; omega
              go_wp2_with fail
              go_roundw
              case rel => exact ⟨t + 1, T ++ T1, by go_num, by omega, HTN.out, HRN.out, HAI.out⟩
              case measure => simp [intOf]; omega
      · obtain rfl : t = 2 := by omega
        have HTL : Hid (T.length ≤ 60000) := by refine Lib.hid ?_; rw [hTl]; omega
        have HTB : Hid (∀ k ∈ T.flatMap (fun t => t.v.ownBlock.toList), w12.heap.size ≤ k) := fun k hk => by
          obtain ⟨tt, htt, h1⟩ := List.mem_flatMap.1 hk
          exact HRK.out.tb tt htt k (.inl (by simpa using h1))
        have hS_t := HAR.out.size
        have hzl2 := HZW.out.ol
        have K11 := Lib.hid (R.known_c wt (HG.out.on (HA.out.trans HAR.out)))
        clear ht ht2 hTl
        go_wp2_with (go_at_call 11; refine K11.out.mono ?_; refine Hid.out ?_)
        refine Lib.hid ?_
        first | rintro E w20 rfl haw | rintro E w20 ⟨rfl, haw⟩
        replace HAR := Lib.hid (HAR.out.trans haw)
        replace HRK := Lib.hid (HRK.out.on haw)
        have HB9 := Lib.hid (HBI.out.on HAR.out)
        have HB10 := Lib.hid (HBX.out.on HAR.out)
        have HQ2 := Lib.hid (HQ.out.on HAR.out)
        have HS2 := Lib.hid (HS.out.on HAR.out)
        have KW1 := Lib.hid (R.whole_c z _ io id qo qd1 w20 (HLI.out.on HAR.out) HZW.out HQ2.out.pkt (by omega) (by omega))
        clear haw K11
        go_wp2_with (first
          | (refine wpList_load28 rfl _ rfl g9 rfl z _ _ (by exact HB9.out) HZW.out.ad ?_)
          | (refine wpList_load28 rfl _ rfl g7 rfl z _ _ (by exact HQ2.out.box) HZW.out.ad ?_)
          | (go_at_call 22; refine KW1.out.mono ?_; refine Hid.out ?_))
        refine Lib.hid ?_
        first | rintro E w21 rfl haw | rintro E w21 ⟨rfl, haw⟩
        replace HAR := Lib.hid (HAR.out.trans haw)
        replace HRK := Lib.hid (HRK.out.on haw)
        replace HB10 := Lib.hid (HB10.out.on haw)
        replace HS2 := Lib.hid (HS2.out.on haw)
        have KW2 := Lib.hid (R.whole_c y _ xo xd so sd1 w21 (HLX.out.on HAR.out) HYW.out HS2.out.pkt (by omega) (by omega))
        clear haw KW1
        go_wp2_with (first
          | (refine wpList_load28 rfl _ rfl g10 rfl y _ _ (by exact HB10.out) HYW.out.ad ?_)
          | (refine wpList_load28 rfl _ rfl g8 rfl y _ _ (by exact HS2.out.box) HYW.out.ad ?_)
          | (go_at_call 22; refine KW2.out.mono ?_; refine Hid.out ?_))
        refine Lib.hid ?_
        first | rintro E w22 rfl haw | rintro E w22 ⟨rfl, haw⟩
        replace HAR := Lib.hid (HAR.out.trans haw)
        replace HRK := Lib.hid (HRK.out.on haw)
        have KMK := Lib.hid (Mk.marked_c w22 u11 u12 T HRK.out.bag HTL.out)
        clear haw KW2
        go_wp2_with (go_at_call 23; refine KMK.out.mono ?_; refine Hid.out ?_)
        refine Lib.hid ?_
        first | rintro E w23 rfl haw | rintro E w23 ⟨rfl, haw⟩
        have HAW : Hid (Away [] w12 w23) := HAR.out.next haw (fun k hk => .inr (HTB.out k hk))
        replace HB9 := Lib.hid (HBI.out.on HAW.out)
        replace HQ2 := Lib.hid (HQ.out.on HAW.out)
        have HLI2 := Lib.hid (HLI.out.on HAW.out)
        have KW1 := Lib.hid (R.whole_c z _ io id qo qd1 w23 HLI2.out HZW.out HQ2.out.pkt (by omega) (by omega))
        clear haw KMK HRK HAR HB10 HS2
        go_wp2_with (first
          | (refine wpList_load28 rfl _ rfl g9 rfl z _ _ (by exact HB9.out) HZW.out.ad ?_)
          | (refine wpList_load28 rfl _ rfl g7 rfl z _ _ (by exact HQ2.out.box) HZW.out.ad ?_)
          | (go_at_call 22; refine KW1.out.mono ?_; refine Hid.out ?_))
        refine Lib.hid ?_
        first | rintro E w24 rfl haw | rintro E w24 ⟨rfl, haw⟩
        replace HAW := Lib.hid (HAW.out.trans haw)
        replace HB9 := Lib.hid (HB9.out.on haw)
        replace HQ2 := Lib.hid (HQ2.out.on haw)
        replace HLI2 := Lib.hid (HLI2.out.on haw)
        have hS_24 := HAW.out.size
        clear haw KW1 HTL HTB
        have KC := Lib.hid (recut_c z qo qd1 m w24 HQ2.out.pkt (HG.out.on (HA.out.trans HAW.out)))
        go_wp2_with (refine wpList_load28 rfl _ rfl g7 rfl z _ _ (by exact HQ2.out.box) HZW.out.ad ?_)
        refine KC.out.mono ?_
        rintro E w25 ⟨vl, xs, rfl, hcu, hxm, haw⟩
        rw [HLZ.out] at hxm ⊢
        dsimp only at hxm ⊢
        have hl_xs : xs.length = lz.length := by rw [← hxm, List.length_map]
        replace HAW := Lib.hid (HAW.out.trans haw)
        replace HB9 := Lib.hid (HB9.out.on haw)
        replace HQ2 := Lib.hid (HQ2.out.on haw)
        replace HLI2 := Lib.hid (HLI2.out.on haw)
        have HC := Lib.hid hcu
        have HCB : Hid (∀ x ∈ xs, ∀ k, x.o.ownBlock = some k ∨ x.d.ownBlock = some k → k < w25.heap.size) := fun x hx k hk => ((hcu.each x hx).2.lto k hk).1
        have HX := Lib.hid hxm
        have hS_25 := haw.size
        obtain ⟨gl, glc, hvl, gllo, glhi, glle⟩ := R.Cuts.shape hcu (fun h => by have h1 := HRZ.out.ne; rw [← hxm, h] at h1; exact h1 rfl)
        rw [hl_xs] at hvl glle
        subst hvl
        clear hcu hxm haw KC
        go_wp2_with fail
        refine (owns_c (some ⟨gl, 0, none⟩) xs lz.length glc _ hl_xs (by exact R.Cuts.pks' HC.out (by omega)) (by omega)).mono ?_
        rintro E w26 ⟨vp, ps, rfl, hcp, hpm, haw⟩
        replace HAW := Lib.hid (HAW.out.trans haw)
        replace HB9 := Lib.hid (HB9.out.on haw)
        replace HQ2 := Lib.hid (HQ2.out.on haw)
        replace HLI2 := Lib.hid (HLI2.out.on haw)
        replace HC := Lib.hid (HC.out.on haw)
        have HCP := Lib.hid hcp
        have HPM : Hid (ps.map X.p = lz) := by rw [hpm]; exact HX.out
        have hl_ps : ps.length = lz.length := by rw [← HPM.out, List.length_map]
        have hS_26 := haw.size
        obtain ⟨gp, gpc, hvp, gplo, gphi, gple⟩ := R.Cuts.shape hcp (fun h => by have h1 := HRZ.out.ne; rw [← HPM.out, h] at h1; exact h1 rfl)
        rw [hl_ps] at hvp gple
        subst hvp
        clear hcp hpm haw
        obtain ⟨N, hNz⟩ : ∃ N, N = lz.length := ⟨_, rfl⟩
        rw [← hNz] at hl_xs hl_ps glle gple HC HCP hlzl ⊢
        have HNZ : Hid (lz.length = N) := hNz.symm
        have HXL : Hid (xs.length = N) := hl_xs
        have HPL : Hid (ps.length = N) := hl_ps
        have HXF : Hid (∀ x ∈ xs, ∀ k, x.o.ownBlock = some k ∨ x.d.ownBlock = some k → k ≠ gl ∧ k < w25.heap.size) := fun x hx k hk => ⟨fun h => HC.out.far x hx k hk (by rw [h]; rfl), HCB.out x hx k hk⟩
        clear hNz hl_xs hl_ps
        go_wp2_with fail
        go_loopw [26] (fun iv wr => ∃ (i : Nat) (ks : List X), iv = .int .i64 (i : Int) ∧ i ≤ N ∧ LstP wr (.slice (some ⟨gl, 0, none⟩) N glc) ks ∧ ks.map X.p = lz ∧ (∀ j x, ks[j]? = some x → j < i → Lnt w26.heap.size wr x.p x.o x.d) ∧ (∀ j, i ≤ j → ks[j]? = xs[j]?) ∧ Away [gl] w26 wr) (fun iv _ => N - (intOf iv).toNat)
        case atStart => exact ⟨0, xs, rfl, by omega, HC.out.lst, HX.out, by omega, fun _ _ => rfl, Away.refl _ _⟩
        case round =>
          obtain ⟨i, ks, rfl, hi, hls, hkp, hln, hrs, haw⟩ := hrel
          have HLS := Lib.hid hls; have HKP := Lib.hid hkp; have HLN := Lib.hid hln; have HRS := Lib.hid hrs; have HAL := Lib.hid haw
          have HKL : Hid (ks.length = N) := by refine Lib.hid ?_; have h1 := congrArg List.length hkp; rw [List.length_map] at h1; rw [h1]; exact HNZ.out
          have HKA : Hid (∀ x ∈ ks, Ad x.p) := fun x hx => (HRZ.out.kin x.p (by rw [← hkp]; exact List.mem_map_of_mem hx)).wf.ad
          have HKW : Hid (∀ x ∈ ks, Wf x.p) := fun x hx => (HRZ.out.kin x.p (by rw [← hkp]; exact List.mem_map_of_mem hx)).wf
          have HKE : Hid (∀ x ∈ ks, x.p.o.length ≤ 65535 ∧ x.p.d.length ≤ 65535) := fun x hx => HEZ.out x.p (by rw [← hkp]; exact List.mem_map_of_mem hx)
          clear hls hkp hln hrs haw
          generalize wr = wi at *
          by_cases hiN : i < N
          · as_aux_lemma =>
            obtain ⟨x, hxi, hxm⟩ := get_of (show i < ks.length by rw [HKL.out]; exact hiN)
            have hxx : xs[i]? = some x := by rw [← HRS.out i (Nat.le_refl _)]; exact hxi
            have hxmx := List.mem_of_getElem? hxx
            have HXI := Lib.hid hxi
            have HXA := Lib.hid (HKA.out x hxm)
            have HXW := Lib.hid (HKW.out x hxm)
            have hle := HKE.out x hxm
            have HRX : Hid (wi.rangeAt gl (i * 46) (listP x.p x.o x.d)) := fun q u hu => (lst_cell HLS.out HKL.out HKA.out hxi (f := q) (u := u) (by unfold csP; rw [List.getElem?_toArray]; exact hu)).1
            have HPX : Hid (Pkt wi x.p x.o x.d) := ((HC.out.each x hxmx).2.away HAL.out (fun k hk hc => by simp at hc; exact (HXF.out x hxmx k hk).1 hc)).pkt HXW.out
            have hsz := HAL.out.size
            have hglw : gl < wi.heap.size := HLS.out.lt gl rfl
            clear hxi hxx hxm hxmx
            have i2 : 0 ≤ (i : Int) := by omega
            have i3 : (i : Int) < (N : Int) := by omega
            have i4 : ((i : Int)).toNat = i := by omega
            go_wp2_with (refine wpList_load28m rfl _ rfl gl (i * 46) (by simp [Act.eval]) x.p x.o x.d (by exact HRX.out) HXA.out ?_)
            refine (lent_c x.p x.o x.d _ HPX.out (by omega) (by omega)).mono ?_
            rintro E v1 ⟨ou, du, rfl, hlnt, haw⟩
            have HL1 := Lib.hid (HLS.out.on haw)
            have HLT := Lib.hid hlnt
            have HA1 := Lib.hid haw
            have hO1 := hlnt.o.one
            have hD1 := hlnt.d.one
            have hs1 := haw.size
            clear hlnt haw HRX HPX
            have HTH : Hid (v1.there gl (i * 46) (csP x.p ou du).size) := by
              refine Lib.hid ?_
              rw [csP_size HXA.out]
              intro q hq
              have h46 := csP_size HXA.out x.o x.d
              have := lst_cell HL1.out HKL.out HKA.out HXI.out (f := q) (u := (csP x.p x.o x.d)[q]'(by omega)) (Array.getElem?_eq_getElem _)
              exact ⟨by rw [this.1]; rfl, this.2⟩
            have HL2 : Hid (LstP (v1.setCells gl (i * 46) (csP x.p ou du).toList) (.slice (some ⟨gl, 0, none⟩) N glc) (ks.set i ⟨x.p, ou, du⟩)) := lst_putall HL1.out HKL.out HKA.out (y := ⟨x.p, ou, du⟩) hiN HXA.out
            have HAC := Lib.hid (away_cells (csP x.p ou du).toList v1 gl (i * 46))
            go_wp2_with (refine wpList_store_mid rfl 28 _ _ rfl gl (i * 46) (csP x.p ou du) (by simp [Act.eval]) rfl HTH.out (by rw [csP_size HXA.out]; exact info28) (csP_one x.p ou du hO1 hD1) ?_; refine Hid.out ?_)
            refine Lib.hid ?_
            generalize v1.setCells gl (i * 46) (csP x.p ou du).toList = v2 at *
            have HA2 : Hid (Away [gl] w26 v2) := (HAL.out.next HA1.out (by simp)).trans HAC.out
            have HN1 : Hid ((ks.set i ⟨x.p, ou, du⟩).map X.p = lz) := by
              refine Lib.hid ?_
              rw [List.map_set, HKP.out]
              refine List.ext_getElem? fun j => ?_
              have hp : lz[i]? = some x.p := by rw [← HKP.out, List.getElem?_map, HXI.out]; rfl
              by_cases hj : j = i
              · subst hj; rw [List.getElem?_set_self (lt_of_get hp), hp]
              · rw [List.getElem?_set_ne (fun h => hj h.symm)]
            have HN2 : Hid (∀ j y, (ks.set i ⟨x.p, ou, du⟩)[j]? = some y → j < i + 1 → Lnt w26.heap.size v2 y.p y.o y.d) := fun j y hy hj => by
              have hfar : ∀ k, w26.heap.size ≤ k → k ≠ gl := fun k hk h => by omega
              by_cases hji : j = i
              · subst hji
                rw [List.getElem?_set_self (lt_of_get HXI.out)] at hy
                simp at hy; subst hy
                have h1 : Lnt w26.heap.size v1 x.p ou du := ⟨HLT.out.o.mono hsz, HLT.out.d.mono hsz, HLT.out.ap⟩
                exact h1.away HAC.out (fun k hk hc => by simp at hc; have := (h1.lt k hk).1; omega)
              · rw [List.getElem?_set_ne (fun h => hji h.symm)] at hy
                have h1 := (HLN.out j y hy (by omega)).on HA1.out
                exact h1.away HAC.out (fun k hk hc => by simp at hc; have := (h1.lt k hk).1; omega)
            have HN3 : Hid (∀ j, i + 1 ≤ j → (ks.set i ⟨x.p, ou, du⟩)[j]? = xs[j]?) := fun j hj => by rw [List.getElem?_set_ne (by omega)]; exact HRS.out j (by omega)
            clear HTH HAC
            go_wp2_with fail
            go_roundw
            case rel => exact ⟨i + 1, _, by go_num, by omega, HL2.out, HN1.out, HN2.out, HN3.out, HA2.out⟩
            case measure => simp [intOf]; omega
          · obtain rfl : i = N := by omega
            have hlt3 : ¬ ((i : Int) < (i : Int)) := by omega
            have hglb : w12.heap.size ≤ gl := by omega
            have haw := HAL.out
            have hgS : ∀ k ∈ [gl], k = gl := by simp
            replace HAW := Lib.hid (HAW.out.next haw (fun k hk => .inr (by have := hgS k hk; omega)))
            replace HB9 := Lib.hid (HB9.out.away haw (fun hc => by have := hgS _ hc; omega))
            replace HQ2 := Lib.hid (HQ2.out.away haw (fun k hk => .inr (by have := hgS k hk; omega)))
            replace HLI2 := Lib.hid (HLI2.out.away haw (fun k hk hc => by have h1 := hgS k hc; have h2 := HLIB.out k hk; omega))
            replace HCP := Lib.hid (HCP.out.away haw (fun k hk => by have := hgS k hk; omega))
            have HLL : Hid (∀ x ∈ ks, Lnt w26.heap.size wi x.p x.o x.d) := fun x hx => by
              obtain ⟨j, hj⟩ := List.mem_iff_getElem?.1 hx
              exact HLN.out j x hj (by have := lt_of_get hj; rw [HKL.out] at this; exact this)
            have HPK : Hid (Pks wi (some ⟨gl, 0, none⟩) ks) := by
              obtain ⟨a', c', hv', -, -, hp', -⟩ := HLS.out.pks (by rw [HKL.out]; omega) (fun x hx => (HLL.out x hx).pkt (HKW.out x hx))
              simp only [Value.slice.injEq] at hv'
              refine Lib.hid ?_
              rw [hv'.1]; exact hp'
            have hS_i := haw.size
            clear haw hgS HLN HRS HAL HLS HC HXF
            go_wp2_with fail
            refine (join_c (some ⟨gl, 0, none⟩) ks i glc _ HKL.out (by simp) (by exact HPK.out) (HG.out.on (HA.out.trans HAW.out))).mono ?_
            rintro E w30 ⟨tj, cj, jo, jd, hjt, rfl, hjw, hjm, haw⟩
            rw [HKP.out] at hjt
            obtain ⟨htj, rfl⟩ := join_all HZU.out HZV.out HRZ.out (List.Perm.refl _) hjt
            replace htj := htj.symm
            subst htj
            have HJM := Lib.hid hjm
            have hO1 := hjm.o.one
            have hD1 := hjm.d.one
            replace HAW := Lib.hid (HAW.out.trans haw)
            replace HB9 := Lib.hid (HB9.out.on haw)
            replace HQ2 := Lib.hid (HQ2.out.on haw)
            replace HLI2 := Lib.hid (HLI2.out.on haw)
            replace HCP := Lib.hid (HCP.out.on haw)
            replace HPK := Lib.hid (HPK.out.on haw)
            replace HLL : Hid (∀ x ∈ ks, Lnt w26.heap.size w30 x.p x.o x.d) := fun x hx => (HLL.out x hx).on haw
            clear hjt hjw hjm haw
            go_wp2_with (refine wpList_new28 rfl rfl rfl _ _ rfl z jo jd (fun g => rfl) (fun g => rfl) HZW.out.ad hO1 hD1 ?_; refine Hid.out ?_)
            refine Lib.hid ?_
            intro g27 w31 hg27 hb haw
            have hg27b : w12.heap.size ≤ g27 := by have := HAW.out.size; omega
            have HBJ := Lib.hid hb
            replace HJM := Lib.hid (HJM.out.on haw)
            replace HAW := Lib.hid (HAW.out.trans haw)
            replace HB9 := Lib.hid (HB9.out.on haw)
            replace HQ2 := Lib.hid (HQ2.out.on haw)
            replace HLI2 := Lib.hid (HLI2.out.on haw)
            replace HCP := Lib.hid (HCP.out.on haw)
            replace HPK := Lib.hid (HPK.out.on haw)
            replace HLL : Hid (∀ x ∈ ks, Lnt w26.heap.size w31 x.p x.o x.d) := fun x hx => (HLL.out x hx).on haw
            clear hb haw hO1 hD1 hg27
            go_wp2_with fail
            go_loopw [29] (fun iv wr => ∃ j : Nat, iv = .int .i64 (j : Int) ∧ j ≤ i ∧ Away [] w31 wr) (fun iv _ => i - (intOf iv).toNat)
            case atStart => exact ⟨0, rfl, by omega, Away.refl _ _⟩
            case round =>
              obtain ⟨j, rfl, hj, haw⟩ := hrel
              have HAJ := Lib.hid haw
              clear haw
              by_cases hjN : j < i
              · as_aux_lemma =>
                obtain ⟨x, hxk, hxm⟩ := get_of (show j < ks.length by rw [HKL.out]; exact hjN)
                obtain ⟨y2, hyk, hym⟩ := get_of (show j < ps.length by rw [HPL.out]; exact hjN)
                have hpe : x.p = y2.p := by
                  have h1 := congrArg (fun l => l[j]?) (HKP.out.trans HPM.out.symm)
                  simp only [List.getElem?_map, hxk, hyk, Option.map_some, Option.some.injEq] at h1
                  exact h1
                obtain ⟨b1, o1, ha1, r1, k1⟩ := HPK.out.at hxk
                obtain ⟨b2, o2, ha2, r2, k2⟩ := (R.Cuts.pks' HCP.out (by rw [HPL.out]; omega)).at hyk
                simp only [Option.some.injEq, Addr.mk.injEq, and_true] at ha1 ha2
                obtain ⟨rfl, rfl⟩ := ha1
                obtain ⟨rfl, rfl⟩ := ha2
                have HLX1 := Lib.hid (HLL.out x hxm)
                have HXW := Lib.hid (HKW.out x hxm)
                have hle := HKE.out x hxm
                obtain ⟨px, xo', xd'⟩ := x
                obtain ⟨q2, yo, yd⟩ := y2
                simp only at hpe hle
                subst hpe
                have HAD := Lib.hid k1.wf.ad
                have R1 : Hid (∀ w', Away [] w31 w' → w'.rangeAt gl (j * 46) (listP px xo' xd')) := fun w' h => by
                  have h1 := range_away h (by simp) r1
                  rw [Nat.zero_add] at h1
                  exact h1
                have R2 : Hid (∀ w', Away [] w31 w' → w'.rangeAt gp (j * 46) (listP px yo yd)) := fun w' h => by
                  have h1 := range_away h (by simp) r2
                  rw [Nat.zero_add] at h1
                  exact h1
                have KS : Hid (∀ w', Away [] w31 w' → Calls Tryd.prog 22 #[.agg (csP px xo' xd'), .agg (csP px yo yd)] w' fun E w2 => E = .returned (.bool true) ∧ Away [] w31 w2) := fun w' h => (R.whole_c px _ xo' xd' yo yd w' (HLX1.out.on h) HXW.out (Pkt.on k2 h) (by omega) (by omega)).mono (by rintro E w2 ⟨rfl, h2⟩; exact ⟨rfl, h.trans h2⟩)
                clear r1 r2 k1 k2 hxk hyk hxm hym
                have j0 : (j : Int) < (i : Int) := by omega
                go_upto_region 35 with fail
                refine wp_region_cls (C := fun w' => Away [] w31 w') (by kernel_rfl) (by kernel_rfl) (by exact HAJ.out.drew) ?_
                repeat (first
                  | go_big_quiet_skip
                  | (go_big_quiet_want
                     first
                       | (refine quiet_call 22 #[.agg (csP px xo' xd'), .agg (csP px yo yd)] (.bool true) ?_ KS.out ?_; (focus (intro w; go_simp; done)); go_simp; go_big_quiet_on)
                       | (refine R.quiet_ix32 _ _ rfl gl 0 i glc j _ rfl rfl rfl (by omega) ?_; go_simp; go_big_quiet_on)
                       | (refine R.quiet_ix32 _ _ rfl gp 0 i gpc j _ rfl rfl rfl (by omega) ?_; go_simp; go_big_quiet_on)
                       | (refine quiet_ld _ rfl (ad := ⟨gl, j * 46, none⟩) rfl (fun w' h => load28m_run (R1.out w' h) HAD.out) ?_; go_simp; go_big_quiet_on)
                       | (refine quiet_ld _ rfl (ad := ⟨gp, j * 46, none⟩) rfl (fun w' h => load28m_run (R2.out w' h) HAD.out) ?_; go_simp; go_big_quiet_on)
                       | (go_big_quiet_op; go_big_quiet_on)
                       | (refine quiet_val ?_ ?_ ?_
                          rotate_left
                          · intro w; go_simp; rfl
                          go_simp; go_big_quiet_on)))
                refine wpQuiet_nil ?_
                intro V hV
                have HV := Lib.hid hV
                clear hV
                go_wp2_with fail
                go_roundw
                case rel => exact ⟨j + 1, by go_num, by omega, HV.out⟩
                case measure => simp [intOf]; omega
              · obtain rfl : j = i := by omega
                have hlt4 : ¬ ((j : Int) < (j : Int)) := by omega
                generalize wr = w33 at *
                have haw := HAJ.out
                replace HAW := Lib.hid (HAW.out.trans haw)
                replace HB9 := Lib.hid (HB9.out.on haw)
                replace HQ2 := Lib.hid (HQ2.out.on haw)
                replace HLI2 := Lib.hid (HLI2.out.on haw)
                replace HBJ := Lib.hid (HBJ.out.on haw)
                replace HJM := Lib.hid (HJM.out.on haw)
                clear haw HAJ HCP HPK HLL HKP HKA HKW HKE
                obtain ⟨gd, kd, hid, hod, -⟩ := HLI2.out.d
                obtain ⟨dn, hdn⟩ : ∃ n, n = z.d.length := ⟨_, rfl⟩
                rw [← hdn] at hid hod
                have HDN : Hid (z.d.length = dn) := hdn.symm
                have hdnb : dn ≤ 6000 := by omega
                have HID := Lib.hid hid
                have hgdb : w8.heap.size ≤ gd ∧ gd < w9.heap.size := HLIB.out gd (.inr (by rw [hid]; rfl))
                have HOD := Lib.hid hod
                have HB9d : Hid (BoxP w33 g9 z io (.slice (some ⟨gd, 0, none⟩) dn kd)) := by rw [← hid]; exact HB9.out
                have HIO := Lib.hid HLI2.out.o
                have HAP : Hid (∀ k, io.ownBlock = some k → k ≠ gd) := fun k hk h => HLI2.out.ap k hk (by rw [hid, h]; rfl)
                clear hdn hid hod HB9
                have hg9d : g9 ≠ gd := by omega
                have c45 : w33.cell? ⟨g9, 45, none⟩ = some (.slice (some ⟨gd, 0, none⟩) dn kd) := (HB9d.out.cells HZW.out.ad).d
                have HC45 := Lib.hid c45
                clear c45
                go_wp2_with fail
                go_loopw [30] (fun iv wr => ∃ (i2 : Nat) (l2 : List Int), iv = .int .i64 (i2 : Int) ∧ i2 ≤ dn ∧ l2.length = dn ∧ Bytes l2 ∧ Owns wr (.slice (some ⟨gd, 0, none⟩) (dn + 2) kd) (l2 ++ [171, 172]) ∧ Away [gd] w33 wr) (fun iv _ => dn - (intOf iv).toNat)
                case atStart => exact ⟨0, z.d, rfl, by omega, HDN.out, HZW.out.d, HOD.out, Away.refl _ _⟩
                case round =>
                  obtain ⟨i2, l2, rfl, hi2, hl2, hbl, hol, haw⟩ := hrel
                  have HL2 : Hid (l2.length = dn) := hl2
                  have HBL := Lib.hid hbl
                  have HOL := Lib.hid hol
                  have HA5 := Lib.hid haw
                  have c45 : wr.cell? ⟨g9, 45, none⟩ = some (.slice (some ⟨gd, 0, none⟩) dn kd) := haw.cell (by simp; omega) HC45.out
                  clear hbl hol haw hl2
                  generalize wr = w5 at *
                  by_cases hi3 : i2 < dn
                  · as_aux_lemma =>
                    obtain ⟨x0, hx0⟩ : ∃ x0, x0 = (l2 ++ [171, 172])[i2]?.getD 0 := ⟨_, rfl⟩
                    have hcl := HOL.out.cells i2 (by rw [List.length_append, HL2.out]; omega)
                    rw [← hx0] at hcl
                    have HCB2 : Hid (w5.drew.cell? ⟨gd, i2, none⟩ = some (.int .u8 x0) ∧ w5.drew.frozen? ⟨gd, i2, none⟩ = false) := hcl
                    obtain ⟨v0, hv0⟩ : ∃ v, v = IntKind.u8.wrap (x0 + 1) := ⟨_, rfl⟩
                    have HV0 := Lib.hid hv0
                    have hvb := wrap8 (x0 + 1)
                    rw [← hv0] at hvb
                    have HO3 : Hid (Owns (w5.drew.setCell ⟨gd, i2, none⟩ (.int .u8 v0)) (.slice (some ⟨gd, 0, none⟩) (dn + 2) kd) (l2.set i2 v0 ++ [171, 172])) := by
                      refine Lib.hid ?_
                      have h1 := Owns.set (HOL.out.on ((Away.refl [] w5).drew)) (by rw [List.length_append, HL2.out]; rfl) i2 v0
                      rw [List.set_append_left _ _ (by rw [HL2.out]; exact hi3)] at h1
                      exact h1
                    have HA6 : Hid (Away [gd] w33 (w5.drew.setCell ⟨gd, i2, none⟩ (.int .u8 v0))) := (HA5.out.drew).setCell (.inl (by simp)) _
                    have HB6 : Hid (Bytes (l2.set i2 v0)) := fun b hb => by
                      rcases List.mem_or_eq_of_mem_set hb with h1 | h1
                      · exact HBL.out b h1
                      · rw [h1]; exact hvb
                    have HC4 : Hid (w5.drew.cell? ⟨g9, 45, none⟩ = some (.slice (some ⟨gd, 0, none⟩) dn kd)) := c45
                    have HCS : Hid ((w5.drew.setCell ⟨gd, i2, none⟩ (.int .u8 v0)).cell? ⟨g9, 45, none⟩ = some (.slice (some ⟨gd, 0, none⟩) dn kd)) := (away_put (w := w5.drew) (g := gd) i2 _).cell (by simp; omega) HC4.out
                    clear hcl hx0 hv0
                    have k2 : 0 ≤ (i2 : Int) := by omega
                    have k3 : (i2 : Int) < (dn : Int) := by omega
                    have k4 : ((i2 : Int)).toNat = i2 := by omega
                    go_upto_region 40 with fail
                    refine wp_region_held_drew (S := (fun w' => w'.cell? ⟨g9, 45, none⟩ = some (.slice (some ⟨gd, 0, none⟩) dn kd))) (by kernel_rfl) (by exact HC4.out) (fun hHeld => ?_)
                    refine wpAnyH_take (i := 0) (v := ?_) (by simp only [List.getElem?_toArray, List.getElem?_cons_zero]; rfl) (by kernel_rfl) (by kernel_rfl) (by kernel_rfl) (by exact fun _ _ _ h => h) (Or.inl ⟨by rfl, ?_⟩) (by assumption) ?_
                    rotate_left
                    · intro wq hSw
                      (try dsimp only at hSw)
                      go_simp
                      all_goals (with_reducible rfl)
                    try simp only [Act.put, List.setIfInBounds_toArray, List.set_cons_zero, List.set_cons_succ]
                    refine wpAnyH_take (i := 1) (by simp only [List.getElem?_toArray, List.getElem?_cons_succ, List.getElem?_cons_zero]; rfl) (by kernel_rfl) (by kernel_rfl) (by kernel_rfl) (by exact fun _ _ _ h => h) (yields_ld (ad := ⟨g9, 45, none⟩) (by rfl) _ rfl rfl (fun w' h => S6.ld26 h)) (by assumption) ?_
                    try simp only [Act.put, List.setIfInBounds_toArray, List.set_cons_zero, List.set_cons_succ]
                    refine wpAnyH_take (i := 2) (v := ?_) (by simp only [List.getElem?_toArray, List.getElem?_cons_succ, List.getElem?_cons_zero]; rfl) (by kernel_rfl) (by kernel_rfl) (by kernel_rfl) (by exact fun _ _ _ h => h) (Or.inl ⟨by rfl, ?_⟩) (by assumption) ?_
                    rotate_left
                    · intro wq hSw
                      (try dsimp only at hSw)
                      go_simp
                      all_goals (with_reducible rfl)
                    try simp only [Act.put, List.setIfInBounds_toArray, List.set_cons_zero, List.set_cons_succ]
                    refine wpAnyH_take (i := 3) (v := ?_) (by simp only [List.getElem?_toArray, List.getElem?_cons_succ, List.getElem?_cons_zero]; rfl) (by kernel_rfl) (by kernel_rfl) (by kernel_rfl) (by exact fun _ _ _ h => h) (Or.inl ⟨by rfl, ?_⟩) (by assumption) ?_
                    rotate_left
                    · intro wq hSw
                      (try dsimp only at hSw)
                      go_simp
                      all_goals (with_reducible rfl)
                    try simp only [Act.put, List.setIfInBounds_toArray, List.set_cons_zero, List.set_cons_succ]
                    refine wpAnyH_take (i := 4) (by simp only [List.getElem?_toArray, List.getElem?_cons_succ, List.getElem?_cons_zero]; rfl) (by kernel_rfl) (by kernel_rfl) (by kernel_rfl) (by exact fun _ _ _ h => h) (yields_ld (ad := ⟨g9, 45, none⟩) (by rfl) _ rfl rfl (fun w' h => S6.ld26 h)) (by assumption) ?_
                    try simp only [Act.put, List.setIfInBounds_toArray, List.set_cons_zero, List.set_cons_succ]
                    refine wpAnyH_take (i := 5) (v := ?_) (by simp only [List.getElem?_toArray, List.getElem?_cons_succ, List.getElem?_cons_zero]; rfl) (by kernel_rfl) (by kernel_rfl) (by kernel_rfl) (by exact fun _ _ _ h => h) (Or.inl ⟨by rfl, ?_⟩) (by assumption) ?_
                    rotate_left
                    · intro wq hSw
                      (try dsimp only at hSw)
                      go_simp
                      all_goals (with_reducible rfl)
                    try simp only [Act.put, List.setIfInBounds_toArray, List.set_cons_zero, List.set_cons_succ]
                    refine wpAnyH_take (i := 6) (v := ?_) (by simp only [List.getElem?_toArray, List.getElem?_cons_succ, List.getElem?_cons_zero]; rfl) (by kernel_rfl) (by kernel_rfl) (by kernel_rfl) (by exact fun _ _ _ h => h) (Or.inl ⟨by rfl, ?_⟩) (by assumption) ?_
                    rotate_left
                    · intro wq hSw
                      (try dsimp only at hSw)
                      go_simp
                      all_goals (with_reducible rfl)
                    try simp only [Act.put, List.setIfInBounds_toArray, List.set_cons_zero, List.set_cons_succ]
                    refine wpAnyH_ready (rs := [7]) (by kernel_rfl) (by simp) ?_
                    refine AllReadyH.cons (by simp only [List.getElem?_toArray, List.getElem?_cons_succ, List.getElem?_cons_zero]; rfl) (fun K hK => ?_) AllReadyH.nil
                    rw [if_pos (by rfl)]
                    refine wp_ldc 5 _ rfl ⟨gd, i2, none⟩ (.int .u8 x0) rfl (S6.ld5 (by exact HCB2.out.1)) ?_
                    refine hK.out _ _ (by exact hHeld) (fun hHeld => ?_)
                    clear hK K
                    try simp only [Act.put, List.setIfInBounds_toArray, List.set_cons_zero, List.set_cons_succ]
                    refine wpAnyH_take (i := 8) (v := ?_) (by simp only [List.getElem?_toArray, List.getElem?_cons_succ, List.getElem?_cons_zero]; rfl) (by kernel_rfl) (by kernel_rfl) (by kernel_rfl) (by exact fun _ _ _ h => h) (Or.inl ⟨by rfl, ?_⟩) (by assumption) ?_
                    rotate_left
                    · intro wq hSw
                      (try dsimp only at hSw)
                      go_simp
                      all_goals (with_reducible rfl)
                    try simp only [Act.put, List.setIfInBounds_toArray, List.set_cons_zero, List.set_cons_succ]
                    refine wpAnyH_take (i := 9) (v := ?_) (by simp only [List.getElem?_toArray, List.getElem?_cons_succ, List.getElem?_cons_zero]; rfl) (by kernel_rfl) (by kernel_rfl) (by kernel_rfl) (by exact fun _ _ _ h => h) (Or.inl ⟨by rfl, ?_⟩) (by assumption) ?_
                    rotate_left
                    · intro wq hSw
                      (try dsimp only at hSw)
                      go_simp
                      all_goals (with_reducible rfl)
                    try simp only [Act.put, List.setIfInBounds_toArray, List.set_cons_zero, List.set_cons_succ]
                    refine wpAnyH_ready (rs := [10]) (by kernel_rfl) (by simp) ?_
                    refine AllReadyH.cons (by simp only [List.getElem?_toArray, List.getElem?_cons_succ, List.getElem?_cons_zero]; rfl) (fun K hK => ?_) AllReadyH.nil
                    rw [if_pos (by rfl)]
                    refine wp_stc (w' := w5.drew.setCell ⟨gd, i2, none⟩ (.int .u8 v0)) 5 _ _ rfl ⟨gd, i2, none⟩ (.int .u8 v0) rfl (by rw [HV0.out]; rfl) (put5 _ _ _ _ (by exact HCB2.out.1) (by exact HCB2.out.2)) ?_
                    refine hK.out _ _ (by exact HCS.out) (fun hHeld => ?_)
                    clear hK K
                    try simp only [Act.put, List.setIfInBounds_toArray, List.set_cons_zero, List.set_cons_succ]
                    clear hHeld
                    refine wpAnyH_done (by kernel_rfl) ?_ _
                    go_wp2_with fail
                    go_roundw
                    case rel => exact ⟨i2 + 1, l2.set i2 v0, by go_num, by omega, by rw [List.length_set]; exact HL2.out, HB6.out, HO3.out, HA6.out⟩
                    case measure => simp [intOf]; omega
                  · obtain rfl : i2 = dn := by omega
                    have hlt5 : ¬ ((i2 : Int) < (i2 : Int)) := by omega
                    have haw := HA5.out
                    have hgS : ∀ k ∈ [gd], k = gd := by simp
                    have HAF : Hid (Away [] w w5) := (HA.out.trans HAW.out).next haw (fun k hk => .inr (by have := hgS k hk; omega))
                    replace HQ2 := Lib.hid (HQ2.out.away haw (fun k hk => .inr (by have := hgS k hk; omega)))
                    replace HIO := Lib.hid (HIO.out.away haw (fun k hk hc => by have h1 := hgS k hc; exact HAP.out k hk h1))
                    replace HBJ := Lib.hid (HBJ.out.away haw (fun hc => by have := hgS _ hc; omega))
                    replace HJM := Lib.hid (HJM.out.away haw (fun k hk hc => by have h1 := hgS k hc; have h2 := (HJM.out.lto k hk).2; omega))
                    obtain ⟨v, hv⟩ : ∃ v : Pk, v = { z with d := l2 } := ⟨_, rfl⟩
                    have HVW : Hid (Wf v) := by rw [hv]; exact wf_data HZW.out HBL.out (by rw [HL2.out]; omega)
                    have HVU : Hid (Unc v) := by rw [hv]; exact unc_data HZU.out HZV.out (by rw [HL2.out, HDN.out])
                    have HVV : Hid (v.v = 4) := by rw [hv]; exact HZV.out
                    have HVF : Hid (v.df = false) := by rw [hv]; exact HZF.out
                    have hvd : v.d.length = i2 := by rw [hv]; exact HL2.out
                    have HBV : Hid (BoxP w5 g9 v io (.slice (some ⟨gd, 0, none⟩) i2 kd)) := by rw [hv]; exact HB9d.out.away haw (fun hc => by have := hgS _ hc; omega)
                    have HPV : Hid (Pkt w5 v io (.slice (some ⟨gd, 0, none⟩) i2 kd)) := by
                      refine ⟨HVW.out, ?_, ?_⟩
                      · rw [hv]; exact HIO.out.sl HZW.out.o HZW.out.ol
                      · have h1 := Mk.Owns.head HOL.out (k := i2) (by omega)
                        rw [List.take_left' HL2.out] at h1
                        rw [hv]
                        exact h1.sl HBL.out (by rw [HL2.out]; omega)
                    obtain ⟨lv, hlv, hrv⟩ := recut_ref HVW.out HVU.out.r HVV.out HVF.out HM.out
                    have hlvl : lv.length ≤ 6001 := by have := R.ref_len hrv; omega
                    have HLV := Lib.hid hlv
                    have KC := Lib.hid (recut_c v io (.slice (some ⟨gd, 0, none⟩) i2 kd) m w5 HPV.out (HG.out.on HAF.out))
                    clear haw hgS hv hlv hrv
                    go_wp2_with (refine wpList_load28 rfl _ rfl g9 rfl v _ _ (by exact HBV.out) HVW.out.ad ?_)
                    refine KC.out.mono ?_
                    rintro E w40 ⟨vm, xm, rfl, hcm, hxm, haw⟩
                    rw [HLV.out] at hxm ⊢
                    dsimp only at hxm ⊢
                    have HCM := Lib.hid hcm
                    have HXM := Lib.hid hxm
                    have hlm : xm.length = lv.length := by rw [← hxm, List.length_map]
                    obtain ⟨ma, mc, hvm, -⟩ := hcm.pks (by omega)
                    rw [hlm] at hvm
                    subst hvm
                    replace HAF := Lib.hid (HAF.out.trans haw)
                    replace HBV := Lib.hid (HBV.out.on haw)
                    replace HPV := Lib.hid (HPV.out.on haw)
                    replace HQ2 := Lib.hid (HQ2.out.on haw)
                    replace HBJ := Lib.hid (HBJ.out.on haw)
                    replace HJM := Lib.hid (HJM.out.on haw)
                    clear hcm hxm haw KC
                    go_wp2_with (refine wpList_load28 rfl _ rfl g9 rfl v _ _ (by exact HBV.out) HVW.out.ad ?_)
                    refine (lown_c v io (.slice (some ⟨gd, 0, none⟩) i2 kd) _ HPV.out).mono ?_
                    rintro E w41 ⟨oo, od, rfl, hmine, haw⟩
                    have KC := Lib.hid (recut_c v oo od m w41 (hmine.pkt HVW.out) (HG.out.on (HAF.out.trans haw)))
                    replace HAF := Lib.hid (HAF.out.trans haw)
                    replace HCM := Lib.hid (HCM.out.on haw)
                    replace HQ2 := Lib.hid (HQ2.out.on haw)
                    replace HBJ := Lib.hid (HBJ.out.on haw)
                    replace HJM := Lib.hid (HJM.out.on haw)
                    clear hmine haw
                    go_wp2_with fail
                    refine KC.out.mono ?_
                    rintro E w42 ⟨vn, xn, rfl, hcn, hxn, haw⟩
                    rw [HLV.out] at hxn ⊢
                    dsimp only at hxn ⊢
                    have hln2 : xn.length = lv.length := by rw [← hxn, List.length_map]
                    obtain ⟨na, nc, hvn, -⟩ := hcn.pks (by omega)
                    rw [hln2] at hvn
                    subst hvn
                    replace HAF := Lib.hid (HAF.out.trans haw)
                    replace HCM := Lib.hid (HCM.out.on haw)
                    replace HQ2 := Lib.hid (HQ2.out.on haw)
                    replace HBJ := Lib.hid (HBJ.out.on haw)
                    replace HJM := Lib.hid (HJM.out.on haw)
                    have KS1 : Hid (∀ w', Away [] w42 w' → Calls Tryd.prog 16 #[.agg (csP z jo jd), .agg (csP z qo qd1)] w' fun E w'' => E = .returned (.bool true) ∧ Away [] w' w'') := fun w' h => Same_yes z jo jd qo qd1 w' ((HJM.out.pkt HZW.out).on h) (HQ2.out.pkt.on h)
                    have KS2 : Hid (∀ w', Away [] w42 w' → Calls Tryd.prog 24 #[.slice ma lv.length mc, .slice na lv.length nc] w' fun E w'' => E = .returned (.bool true) ∧ Away [] w' w'') := fun w' h => R.sameL_yes ma na xm xn lv.length mc nc w' hlm (R.Cuts.pks' (HCM.out.on h) (by omega)) (R.Cuts.pks' (hcn.on h) (by omega)) (by rw [HXM.out, hxn])
                    clear hcn hxn haw KC
                    go_wp2_with (first
                      | (refine wpList_load28 rfl _ rfl g27 rfl z _ _ (by exact HBJ.out) HZW.out.ad ?_)
                      | (refine wpList_load28 rfl _ rfl g7 rfl z _ _ (by exact HQ2.out.box) HZW.out.ad ?_)
                      | (go_at_call 16; refine (KS1.out _ (Away.refl [] _)).mono ?_; refine Hid.out ?_))
                    refine Lib.hid ?_
                    first | rintro E w43 rfl haw | rintro E w43 ⟨rfl, haw⟩
                    replace HAF := Lib.hid (HAF.out.trans haw)
                    have KS3 := Lib.hid (KS2.out _ haw)
                    clear haw
                    go_wp2_with (go_at_call 24; refine KS3.out.mono ?_; refine Hid.out ?_)
                    refine Lib.hid ?_
                    first | rintro E w44 rfl haw | rintro E w44 ⟨rfl, haw⟩
                    go_wp2_with fail
                    go_ret
                    exact ⟨rfl, (HAF.out.trans haw).to_below⟩
end recutKeeps
namespace recutKeeps
theorem contract (H : Type) (enc : TypeId × Value → H) (W : World) (base : Nat) (args : Array Value) (ds gs : List (DataW H)) (before : List MemPlace)
    (hval0 : ∀ (j : Nat) t v, Tryd.f7.params[j]? = some t → args[j]? = some v → Value.okWide Tryd.prog W .any base t v)
    (hW : DataW.Whole enc Tryd.prog Tryd.f7.params.toList Rows.recutKeepsSpec.vars false W args.toList ds gs before)
    (hsz0 : (DataW.weightsEach Tryd.prog (Tryd.f7.params.toList ++ Rows.recutKeepsSpec.plain.varTypes Tryd.prog) (ds ++ gs)).all (· ≤ reachBytes) = true)
    (hL : laidMetH Tryd.prog Rows.recutKeepsRow.laid W) :
    Calls Tryd.prog 7 args W fun e W' => ∃ v, e = .returned v ∧ Rows.recutKeepsSpec.post enc Tryd.prog Tryd.f7 false true false false W args v W' := by
  have hval := hval0
  have hsz := hsz0
  have hW' := hW
  obtain ⟨p, q, hA0, hV, rfl, hfz, hnd⟩ := hW
  have hA : DataW.TrodAll enc Tryd.prog W 0 (fun _ => true) true Tryd.f7.params.toList args.toList ds p := hA0
  rw [Tryd.params7] at hA hval hsz
  obtain ⟨v0, vs0, d0, ds0, p0, q0, hargs, rfl, rfl, h0, r0⟩ := trodAll_cons hA
  obtain ⟨v1, vs1, d1, ds1, p1, q1, rfl, rfl, rfl, h1, r1⟩ := trodAll_cons r0
  obtain ⟨v2, vs2, d2, ds2, p2, q2, rfl, rfl, rfl, h2, r2⟩ := trodAll_cons r1
  obtain ⟨rfl, rfl, rfl⟩ := trodAll_nil r2
  obtain rfl : args = #[v0, v1, v2] := by cases args; simp_all
  obtain ⟨rfl, rfl⟩ := trodVars_none hV
  have k0 := h0
  have lt0 : ∀ x ∈ p0, x.block < W.heap.size := by obtain ⟨m, hm⟩ := k0; exact DataW.trod_lt m _ _ _ hm
  have z0 : ∀ m ∈ d0.weights Tryd.prog 28, m ≤ reachBytes := fun m hm => by
    have := List.all_eq_true.1 hsz m (DataW.weights_mem_each (j := 0) (t := 28) rfl rfl m hm)
    simpa using this
  obtain ⟨x0, ov0, dv0, rfl, w0, ol0, dl0⟩ := open_pkt (hval 0 28 v0 rfl rfl) h0 z0
  have k1 := h1
  have lt1 : ∀ x ∈ p1, x.block < W.heap.size := by obtain ⟨m, hm⟩ := k1; exact DataW.trod_lt m _ _ _ hm
  have z1 : ∀ m ∈ d1.weights Tryd.prog 28, m ≤ reachBytes := fun m hm => by
    have := List.all_eq_true.1 hsz m (DataW.weights_mem_each (j := 1) (t := 28) rfl rfl m hm)
    simpa using this
  obtain ⟨x1, ov1, dv1, rfl, w1, ol1, dl1⟩ := open_pkt (hval 1 28 v1 rfl rfl) h1 z1
  obtain ⟨a2, rfl, rfl, rfl, w2⟩ := open_int Tryd.underlying3 (hval 2 3 v2 rfl rfl) h2
  clear hA0 hval0
  refine (walk x0 ov0 dv0 x1 ov1 dv1 a2 W (glob_of hL) w0 ol0 dl0 w1 ol1 dl1 w2).mono fun e W' ⟨he, bel⟩ => ?_
  subst he
  exact ⟨_, rfl, _, _, _, [], _, [], hW', trodAll_mk1 (shut_bool Tryd.underlying4 _), (trodAll_cons_mk (Below.trod laidOut (by kernel_rfl) (of_decide_eq_true (by kernel_rfl)) k0 bel lt0) (trodAll_cons_mk (Below.trod laidOut (by kernel_rfl) (of_decide_eq_true (by kernel_rfl)) k1 bel lt1) (trodAll_cons_mk (shut_int Tryd.underlying3 w2) trodAll_mk0))), rfl, bel.frame _, fun h => by cases h⟩
theorem laid_met (os : Os) : laidMet Tryd.prog Rows.recutKeepsRow.laid ((laidWorld Tryd.prog os).forCall (fun _ _ => 0) ⟨#[], #[.agg (csP zeroPk (.slice none 0 0) (.slice none 0 0)), .agg (csP zeroPk (.slice none 0 0) (.slice none 0 0)), .int .i64 0], []⟩).memory :=
  laidMet_of_run' 8 (by kernel_rfl) (by kernel_rfl)
theorem reads (os : Os) {H : Type} (enc : TypeId × Value → H) : ∃ places, DataW.whole enc Tryd.prog ((laidWorld Tryd.prog os).forCall (fun _ _ => 0) ⟨#[], #[.agg (csP zeroPk (.slice none 0 0) (.slice none 0 0)), .agg (csP zeroPk (.slice none 0 0) (.slice none 0 0)), .int .i64 0], []⟩).memory Tryd.f7.params.toList Rows.recutKeepsSpec.vars false #[.agg (csP zeroPk (.slice none 0 0) (.slice none 0 0)), .agg (csP zeroPk (.slice none 0 0) (.slice none 0 0)), .int .i64 0].toList 8 = some ([.agg [.lit (.int .i64 0), .lit (.int .i64 0), .lit (.int .i64 0), .agg [.lit (.int .i64 0), .agg [.lit (.int .u8 0), .lit (.int .u8 0), .lit (.int .u8 0), .lit (.int .u8 0), .lit (.int .u8 0), .lit (.int .u8 0), .lit (.int .u8 0), .lit (.int .u8 0), .lit (.int .u8 0), .lit (.int .u8 0), .lit (.int .u8 0), .lit (.int .u8 0), .lit (.int .u8 0), .lit (.int .u8 0), .lit (.int .u8 0), .lit (.int .u8 0)]], .agg [.lit (.int .i64 0), .agg [.lit (.int .u8 0), .lit (.int .u8 0), .lit (.int .u8 0), .lit (.int .u8 0), .lit (.int .u8 0), .lit (.int .u8 0), .lit (.int .u8 0), .lit (.int .u8 0), .lit (.int .u8 0), .lit (.int .u8 0), .lit (.int .u8 0), .lit (.int .u8 0), .lit (.int .u8 0), .lit (.int .u8 0), .lit (.int .u8 0), .lit (.int .u8 0)]], .lit (.int .i64 0), .lit (.int .i64 0), .lit (.int .u32 0), .lit (.bool false), .lit (.bool false), .lit (.bool false), .lit (.int .i64 0), .nil, .nil], .agg [.lit (.int .i64 0), .lit (.int .i64 0), .lit (.int .i64 0), .agg [.lit (.int .i64 0), .agg [.lit (.int .u8 0), .lit (.int .u8 0), .lit (.int .u8 0), .lit (.int .u8 0), .lit (.int .u8 0), .lit (.int .u8 0), .lit (.int .u8 0), .lit (.int .u8 0), .lit (.int .u8 0), .lit (.int .u8 0), .lit (.int .u8 0), .lit (.int .u8 0), .lit (.int .u8 0), .lit (.int .u8 0), .lit (.int .u8 0), .lit (.int .u8 0)]], .agg [.lit (.int .i64 0), .agg [.lit (.int .u8 0), .lit (.int .u8 0), .lit (.int .u8 0), .lit (.int .u8 0), .lit (.int .u8 0), .lit (.int .u8 0), .lit (.int .u8 0), .lit (.int .u8 0), .lit (.int .u8 0), .lit (.int .u8 0), .lit (.int .u8 0), .lit (.int .u8 0), .lit (.int .u8 0), .lit (.int .u8 0), .lit (.int .u8 0), .lit (.int .u8 0)]], .lit (.int .i64 0), .lit (.int .i64 0), .lit (.int .u32 0), .lit (.bool false), .lit (.bool false), .lit (.bool false), .lit (.int .i64 0), .nil, .nil], .lit (.int .i64 0)], [], places) :=
  ⟨[], by kernel_rfl⟩
theorem lifted (os : Os) (started : os.Started) (H : Type) (enc : TypeId × Value → H) (F : Stop.Interp) :
    ReturnsInHanded {} Tryd.checked os 7 .any ((OpenSpec.ofChange Rows.recutKeepsSpec).preRow enc Tryd.prog Tryd.f7 Rows.recutKeepsRow.domain false Rows.recutKeepsRow.laid) (((OpenSpec.ofChange Rows.recutKeepsSpec).at F).post enc Tryd.prog Tryd.f7 false true false false) := by
  obtain ⟨places, hx⟩ := reads os enc
  refine returnsInHanded_of_row (C := Tryd.checked) (s := OpenSpec.ofChange Rows.recutKeepsSpec) ownKn started (by kernel_rfl) Tryd.func7
    (witness_row_at (enc := enc) (C := Tryd.checked) false (laidWorld Tryd.prog os) #[.agg (csP zeroPk (.slice none 0 0) (.slice none 0 0)), .agg (csP zeroPk (.slice none 0 0) (.slice none 0 0)), .int .i64 0] rfl (by kernel_rfl) (by kernel_rfl) (by kernel_rfl)
      (OpenSpec.preRow_of_cond 8 hx (by kernel_rfl) (fun k hk => by cases hk) (by kernel_rfl) (laid_met os))) ?_
  intro W base args ds gs before hval hW _ hcond hsz hL hS _
  exact contract H enc W base args ds gs before hval hW hsz hL
theorem said : Rows.RecutKeepsSaid :=
  OpenClaim.holds_of_cond 7 Tryd.f7 rfl rfl rfl rfl rfl rfl rfl ⟨rfl, rfl, rfl, rfl, rfl⟩ rfl rfl rfl rfl rfl (by kernel_rfl) Tryd.func7 (by kernel_rfl)
    (of_decide_eq_true (by kernel_rfl)) (by unfold Func.isWrapper; first | (rw [if_pos (by decide +kernel)]; kernel_rfl) | (rw [if_neg (by decide +kernel)]; exact ⟨rfl, rfl⟩))
    (fun os started H enc _ F => by rw [OpenClaim.pre_eq_preRow]; exact lifted os started H enc F)
theorem plain (f : FuncId) (fn : Func) (hf : Tryd.pinned.checked.prog.funcNamed "mosaic/mosaiclaw11.RecutKeeps" = some f) (hfn : Tryd.pinned.checked.prog.funcs[f]? = some fn) :
    false = Tryd.pinned.checked.prog.looks [] ∧ ∀ (j : Nat) t, fn.params[j]? = some t → Tryd.pinned.checked.prog.wantsStandIn t = false := by
  obtain rfl : f = 7 := Option.some.inj ((show Tryd.prog.funcNamed "mosaic/mosaiclaw11.RecutKeeps" = some 7 by kernel_rfl).symm.trans hf) |>.symm
  obtain rfl : fn = Tryd.f7 := (Option.some.inj (Tryd.func7.symm.trans hfn)).symm
  refine ⟨by kernel_rfl, fun j t ht => ?_⟩
  rw [Tryd.params7] at ht
  have hm := Array.mem_of_getElem? ht
  simp only [List.mem_toArray, List.mem_cons, List.not_mem_nil, or_false] at hm
  have h28 : Tryd.prog.wantsStandIn 28 = false := by kernel_rfl
  have h26 : Tryd.prog.wantsStandIn 26 = false := by kernel_rfl
  have h3 : Tryd.prog.wantsStandIn 3 = false := by kernel_rfl
  have h25 : Tryd.prog.wantsStandIn 25 = false := by kernel_rfl
  have h4 : Tryd.prog.wantsStandIn 4 = false := by kernel_rfl
  have h29 : Tryd.prog.wantsStandIn 29 = false := by kernel_rfl
  rcases hm with rfl | rfl | rfl
  all_goals first | exact h28 | exact h26 | exact h3 | exact h25 | exact h4 | exact h29
theorem card : Rows.RecutKeepsCardSaid :=
  Claim7.holds_tied_plain_at .later [] _ _ _ _ said (fun _ h => by cases h) (by kernel_rfl) (fun _ h => by cases h) recutKeeps_row_tie rfl ⟨rfl, rfl⟩ (by kernel_rfl) rfl plain (by kernel_rfl)
end recutKeeps
theorem recutKeeps_holds : Rows.RecutKeepsCardSaid := recutKeeps.card
#print axioms recutKeeps_holds
end Go.Proofs.YtaicckenpplceaaDoor
