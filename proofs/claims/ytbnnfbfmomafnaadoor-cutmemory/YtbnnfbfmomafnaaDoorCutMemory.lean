/-
  CutMemory.
-/
import Derived.Test.YtbnnfbfmomafnaaDoorKit
import Derived.Test.YtbnnfbfmomafnaaDoorMwZ
import Derived.Test.YtbnnfbfmomafnaaDoorSm
import Derived.Test.YtbnnfbfmomafnaaDoorAlv
namespace Go.Proofs.YtbnnfbfmomafnaaDoor
open Go.ChangeShapes Go.WideShapes Go.ChangeAt Go.RowKit Go.Deep Num
open S6 (wp_region_cls quiet_val quiet_call quiet_ld)
set_option linter.unusedVariables false
set_option linter.unusedSimpArgs false
set_option maxHeartbeats 40000000
set_option maxRecDepth 100000

namespace cutMemory
theorem walk (p : Pk) (ov dv : Value) (r : Pk) (rov rdv : Value) (n : Int) (w : World) (hg : Glob w) (hp : Pkt w p ov dv) (hol : p.o.length ≤ 140737488351232) (hdl : p.d.length ≤ 140737488351232) (hr : Pkt w r rov rdv) (hrl : r.o.length ≤ 140737488351232) (hrd : r.d.length ≤ 140737488351232) (hwn : (Lit.int .i64 n).wf = true) :
    Calls Tryd.prog 6 #[.agg (csP p ov dv), .agg (csP r rov rdv), .int .i64 n] w fun E w' => E = .returned (.bool true) ∧ Below w.heap.size w w' := by
  have HPA := Lib.hid hp.wf.ad
  have HRA := Lib.hid hr.wf.ad
  have HP := Lib.hid hp; have HR := Lib.hid hr; have HG := Lib.hid hg
  clear hp hr hg hol hdl hrl hrd hwn
  go_enter Tryd.func6, Tryd.ntmps6
  go_wp2_with (refine wpList_box28 rfl _ rfl p ov dv rfl ?_; refine Hid.out ?_)
  refine Lib.hid ?_
  intro g3 w1 hg_g3 hb haw
  have HA := Lib.hid haw
  have HB3 := Lib.hid hb
  clear hb haw hg_g3
  go_wp2_with (refine wpList_box28 rfl _ rfl r rov rdv rfl ?_; refine Hid.out ?_)
  refine Lib.hid ?_
  intro g4 w2 hg_g4 hb haw
  replace HA := Lib.hid (HA.out.trans haw)
  replace HB3 := Lib.hid (HB3.out.on haw)
  have HB4 := Lib.hid hb
  clear hb haw hg_g4
  go_wp2_with fail
  refine (alive_c _ (HG.out.on HA.out)).mono ?_
  rintro E w3 ⟨rfl, haw⟩
  replace HA := Lib.hid (HA.out.trans haw)
  replace HB3 := Lib.hid (HB3.out.on haw)
  replace HB4 := Lib.hid (HB4.out.on haw)
  clear haw
  have hS_w3 := HA.out.size
  go_wp2_with (refine wpList_load28 rfl _ rfl g3 rfl p _ _ (by exact HB3.out) HPA.out ?_)
  refine (mended_c p ov dv _ (HP.out.on HA.out) (HG.out.on HA.out)).mono ?_
  rintro E w4 ⟨q, qo, qd, rfl, hu, hwf, hv_q, hmine, haw⟩
  have hS_w4 := haw.size
  replace HA := Lib.hid (HA.out.trans haw)
  replace HB3 := Lib.hid (HB3.out.on haw)
  replace HB4 := Lib.hid (HB4.out.on haw)
  have HUq := Lib.hid hu
  have HWq := Lib.hid hwf
  have HVq := Lib.hid hv_q
  have hO1 := hmine.o.one
  have hD1 := hmine.d.one
  have HMI := Lib.hid hmine
  clear hu hwf hmine haw hv_q
  go_wp2_with (refine wpList_new28 rfl rfl rfl _ _ rfl q qo qd (fun g => rfl) (fun g => rfl) HWq.out.ad hO1 hD1 ?_; refine Hid.out ?_)
  refine Lib.hid ?_
  intro g7 w5 hg_g7 hb haw
  have HQ : Hid (QV w3.heap.size w5.heap.size w5 g7 q qo qd) := ⟨hb, (HMI.out.on haw).pkt HWq.out, by omega, hb.lt, fun k hk => by have h1 := HMI.out.lto k hk; have h2 := haw.size; exact ⟨h1.2, by omega, by omega⟩⟩
  replace HA := Lib.hid (HA.out.trans haw)
  replace HB3 := Lib.hid (HB3.out.on haw)
  replace HB4 := Lib.hid (HB4.out.on haw)
  have hS_w5 := haw.size
  clear hb haw hO1 hD1 HMI hg_g7
  clear HB3
  have hS_w5 := HA.out.size
  go_wp2_with (refine wpList_load28 rfl _ rfl g4 rfl r _ _ (by exact HB4.out) HRA.out ?_)
  refine (mended_c r rov rdv _ (HR.out.on HA.out) (HG.out.on HA.out)).mono ?_
  rintro E w6 ⟨s, so, sd, rfl, hu, hwf, hv_s, hmine, haw⟩
  have hS_w6 := haw.size
  replace HA := Lib.hid (HA.out.trans haw)
  replace HB4 := Lib.hid (HB4.out.on haw)
  replace HQ := Lib.hid (HQ.out.on haw)
  have HUs := Lib.hid hu
  have HWs := Lib.hid hwf
  have HVs := Lib.hid hv_s
  have hO1 := hmine.o.one
  have hD1 := hmine.d.one
  have HMI := Lib.hid hmine
  clear hu hwf hmine haw hv_s
  go_wp2_with (refine wpList_new28 rfl rfl rfl _ _ rfl s so sd (fun g => rfl) (fun g => rfl) HWs.out.ad hO1 hD1 ?_; refine Hid.out ?_)
  refine Lib.hid ?_
  intro g8 w7 hg_g8 hb haw
  have HS : Hid (QV w5.heap.size w7.heap.size w7 g8 s so sd) := ⟨hb, (HMI.out.on haw).pkt HWs.out, by omega, hb.lt, fun k hk => by have h1 := HMI.out.lto k hk; have h2 := haw.size; exact ⟨h1.2, by omega, by omega⟩⟩
  replace HA := Lib.hid (HA.out.trans haw)
  replace HB4 := Lib.hid (HB4.out.on haw)
  replace HQ := Lib.hid (HQ.out.on haw)
  have hS_w7 := haw.size
  clear hb haw hO1 hD1 HMI hg_g8
  clear HB4
  obtain ⟨qa, qc, hqd, -⟩ := HQ.out.pkt.d
  subst hqd
  have c45 := (HQ.out.box.cells HWq.out.ad).d
  have hx_q := HQ.out.pkt.d.of.2
  have hdn := HWq.out.dn
  go_upto_if 36 with fail
  go_cut [] (fun wc => ∃ du, QV w3.heap.size w5.heap.size wc g7 { q with d := q.d.take 3000 } qo du ∧ Away [g7] w7 wc)
  case first =>
    by_cases h3 : 3000 < q.d.length
    · have n1 : (3000 : Int) < (q.d.length : Int) := by omega
      have hsl := slice_h qa q.d.length qc 3000 3000 rfl (by omega)
      go_wp2_with (refine wpList_putF rfl 26 _ _ rfl g7 45 rfl (.slice qa 3000 qc) rfl (fun u h1 h2 => put26 _ _ _ _ _ u h1 h2) q ({ q with d := q.d.take 3000 }) _ _ _ _ (by exact HQ.out.box) (by exact HWq.out.ad) (by omega) (by exact (csP_set (p := q) HWq.out.ad _ _).2.2.2.2.2.2.2.2.2.2.2.2.2 _ _) ?_; refine Hid.out ?_)
      refine Lib.hid ?_
      intro wz hb haw
      have HBZ := Lib.hid hb
      have HAZ := Lib.hid haw
      clear hb haw
      go_wp2_with fail
      go_meet
      exact ⟨_, HQ.out.putd HBZ.out HAZ.out (cutd_wf HWq.out 3000) rfl rfl (by omega), HAZ.out⟩
    · have n1 : ¬ ((3000 : Int) < (q.d.length : Int)) := by omega
      have ht : q.d.take 3000 = q.d := List.take_of_length_le (by omega)
      go_wp2_with fail
      go_meet
      exact ⟨_, by rw [ht]; exact HQ.out, Away.refl _ _⟩
  case rest =>
    obtain ⟨qd1, hqv, haw⟩ := hcut
    generalize wc = w8 at *
    have hS_w8 := haw.size
    clear c45 hx_q hdn
    replace HQ := Lib.hid hqv
    have hg7 := hqv.lo
    have hh7 := hqv.hi
    replace HS := Lib.hid (HS.out.away haw (fun k hk => .inl (by simp at hk; omega)))
    replace HA := Lib.hid (HA.out.next haw (fun k hk => .inr (by simp at hk; omega)))
    clear haw hqv
    obtain ⟨sa, sc, hsd, -⟩ := HS.out.pkt.d
    subst hsd
    have c45 := (HS.out.box.cells HWs.out.ad).d
    have hx_s := HS.out.pkt.d.of.2
    have hdn := HWs.out.dn
    go_upto_if 44 with fail
    go_cut [] (fun wc => ∃ du, QV w5.heap.size w7.heap.size wc g8 { s with d := s.d.take 3000 } so du ∧ Away [g8] w8 wc)
    case first =>
      by_cases h3 : 3000 < s.d.length
      · have n1 : (3000 : Int) < (s.d.length : Int) := by omega
        have hsl := slice_h sa s.d.length sc 3000 3000 rfl (by omega)
        go_wp2_with (refine wpList_putF rfl 26 _ _ rfl g8 45 rfl (.slice sa 3000 sc) rfl (fun u h1 h2 => put26 _ _ _ _ _ u h1 h2) s ({ s with d := s.d.take 3000 }) _ _ _ _ (by exact HS.out.box) (by exact HWs.out.ad) (by omega) (by exact (csP_set (p := s) HWs.out.ad _ _).2.2.2.2.2.2.2.2.2.2.2.2.2 _ _) ?_; refine Hid.out ?_)
        refine Lib.hid ?_
        intro wz hb haw
        have HBZ := Lib.hid hb
        have HAZ := Lib.hid haw
        clear hb haw
        go_wp2_with fail
        go_meet
        exact ⟨_, HS.out.putd HBZ.out HAZ.out (cutd_wf HWs.out 3000) rfl rfl (by omega), HAZ.out⟩
      · have n1 : ¬ ((3000 : Int) < (s.d.length : Int)) := by omega
        have ht : s.d.take 3000 = s.d := List.take_of_length_le (by omega)
        go_wp2_with fail
        go_meet
        exact ⟨_, by rw [ht]; exact HS.out, Away.refl _ _⟩
    case rest =>
      obtain ⟨sd1, hqv, haw⟩ := hcut
      generalize wc = w9 at *
      clear c45 hx_s hdn
      replace HS := Lib.hid hqv
      have hg8 := hqv.lo
      have hh8 := hqv.hi
      replace HQ := Lib.hid (HQ.out.away haw (fun k hk => .inr (by simp at hk; omega)))
      have hS_w9 := haw.size
      replace HA := Lib.hid (HA.out.next haw (fun k hk => .inr (by simp at hk; omega)))
      clear haw hqv
      go_wp2_with (refine wpList_putF rfl 4 _ _ rfl g7 40 rfl (.bool false) rfl (fun u h1 h2 => put4 _ _ _ u h1 h2) { q with d := q.d.take 3000 } (shortP q 3000) _ _ _ _ (by exact HQ.out.box) (by exact HWq.out.ad) (by omega) (by exact (csP_set (p := { q with d := q.d.take 3000 }) HWq.out.ad _ _).2.2.2.2.2.2.2.2.1 _) ?_; refine Hid.out ?_)
      refine Lib.hid ?_
      intro w10 hb haw
      have hS_w10 := haw.size
      replace HQ : Hid (QV w3.heap.size w5.heap.size w10 g7 (shortP q 3000) qo qd1) := HQ.out.put hb haw (short_wf HWq.out 3000) rfl rfl
      replace HS := Lib.hid (HS.out.away haw (fun k hk => .inl (by simp at hk; omega)))
      replace HA := Lib.hid (HA.out.next haw (fun k hk => .inr (by simp at hk; omega)))
      clear hb haw
      obtain ⟨z, hz⟩ : ∃ z, z = shortP q 3000 := ⟨_, rfl⟩
      have HZU : Hid (Unc z) := by rw [hz]; exact short_unc HUq.out 3000
      have HZW : Hid (Wf z) := by rw [hz]; exact short_wf HWq.out 3000
      have HZA : Hid (Ad z) := HZW.out.ad
      have HZV : Hid (z.v = 4 ∨ z.v = 6) := by rw [hz]; exact HVq.out
      have HZD : Hid (z.df = false) := by rw [hz]; exact Lib.hid rfl
      have HZL : Hid (z.d.length ≤ 3000) := by rw [hz]; show (q.d.take 3000).length ≤ 3000; rw [List.length_take]; omega
      rw [← hz] at HQ
      clear hz HUq HWq HVq
      obtain ⟨y, hy⟩ : ∃ y : Pk, y = { s with d := s.d.take 3000 } := ⟨_, rfl⟩
      have HYU : Hid (y.v = 4 ∨ y.v = 6) := by rw [hy]; exact HVs.out
      have HYW : Hid (Wf y) := by rw [hy]; exact cutd_wf HWs.out 3000
      have HYL : Hid (y.d.length ≤ 3000) := by rw [hy]; show (s.d.take 3000).length ≤ 3000; rw [List.length_take]; omega
      have HYC : Hid (Unc y) := by rw [hy]; exact cutd_unc HUs.out 3000
      rw [← hy] at HS
      clear hy HUs HWs HVs
      have c0 := (HQ.out.box.cells HZA.out).v
      go_wp2_with fail
      refine (link_c z.v n HZV.out _).mono ?_
      rintro E w10b ⟨m, rfl, hm, rfl⟩
      have HM := Lib.hid hm
      clear hm c0
      go_wp2_with (refine wpList_load28 rfl _ rfl g7 rfl z _ _ (by exact HQ.out.box) HZA.out ?_)
      have hS_10 := HA.out.size
      refine (ownP_c z qo qd1 _ HQ.out.pkt).mono ?_
      rintro E w11 ⟨io, id, rfl, hmine, haw⟩
      replace HA := Lib.hid (HA.out.trans haw)
      replace HQ := Lib.hid (HQ.out.on haw)
      replace HS := Lib.hid (HS.out.on haw)
      have HI := Lib.hid hmine
      have HIL : Hid (∀ k, io.ownBlock = some k ∨ id.ownBlock = some k → w10b.heap.size ≤ k ∧ k < w11.heap.size) := fun k hk => ⟨(hmine.lto k hk).2, (hmine.lto k hk).1⟩
      have hO1 := hmine.o.one
      have hD1 := hmine.d.one
      have hS_11 := haw.size
      clear hmine haw
      go_wp2_with (refine wpList_new28 rfl rfl rfl _ _ rfl z io id (fun g => rfl) (fun g => rfl) HZA.out hO1 hD1 ?_; refine Hid.out ?_)
      refine Lib.hid ?_
      intro g10 w12 hg_g10 hb haw
      replace HA := Lib.hid (HA.out.trans haw)
      replace HQ := Lib.hid (HQ.out.on haw)
      replace HS := Lib.hid (HS.out.on haw)
      replace HI := Lib.hid (HI.out.on haw)
      have HBI := Lib.hid hb
      have hS_12 := haw.size
      clear hb haw hO1 hD1 hg_g10
      have HCE := Lib.hid (cut_some HZU.out HZW.out HM.out HZD.out (id := 5) (by omega) (by omega))
      have HCF := Lib.hid (cut_few z m 5)
      have hc0 := cut_yes HZU.out HM.out HZD.out 5
      go_wp2_with (refine wpList_load28 rfl _ rfl g10 rfl z _ _ (by exact HBI.out) HZA.out ?_)
      refine (cut_c z io id m 5 _ (HI.out.pkt HZW.out) (HG.out.on HA.out) (by omega) (by omega)).mono ?_
      rintro E w13 ⟨va, xs, rfl, hcu, hxm, haw⟩
      rw [hc0]
      replace HA := Lib.hid (HA.out.trans haw)
      replace HQ := Lib.hid (HQ.out.on haw)
      replace HS := Lib.hid (HS.out.on haw)
      replace HI := Lib.hid (HI.out.on haw)
      replace HBI := Lib.hid (HBI.out.on haw)
      have HCa := Lib.hid hcu
      have HXa := Lib.hid hxm
      have hS_w13 := haw.size
      have hlxs : xs.length ≤ 3001 := by have h1 := congrArg List.length hxm; rw [List.length_map] at h1; have h2 := HCF.out; have h3 := HZL.out; omega
      obtain ⟨ga, gac, hva, galo, gahi, gale⟩ := hcu.shape (fun h => HCE.out.2.1 (by rw [← hxm, h]; rfl))
      subst hva
      clear hcu hxm haw
      have HPX : Hid (∀ rr ∈ lotX xs, ∀ k, rr.1.ownBlock = some k → k < w13.heap.size) := fun rr h1 k he => (HCa.out.blocks rr h1 k he).2.1
      go_wp2_with (refine wpList_load28 rfl _ rfl g10 rfl z _ _ (by exact HBI.out) HZA.out ?_)
      refine (cut_c z io id m 5 _ (HI.out.pkt HZW.out) (HG.out.on HA.out) (by omega) (by omega)).mono ?_
      rintro E w14 ⟨vb, ys, rfl, hcu, hxm, haw⟩
      rw [hc0]
      replace HA := Lib.hid (HA.out.trans haw)
      replace HQ := Lib.hid (HQ.out.on haw)
      replace HS := Lib.hid (HS.out.on haw)
      replace HI := Lib.hid (HI.out.on haw)
      replace HBI := Lib.hid (HBI.out.on haw)
      replace HCa := Lib.hid (HCa.out.on haw)
      have HCb := Lib.hid hcu
      have HXb := Lib.hid hxm
      have hS_w14 := haw.size
      have hlys : ys.length ≤ 3001 := by have h1 := congrArg List.length hxm; rw [List.length_map] at h1; have h2 := HCF.out; have h3 := HZL.out; omega
      obtain ⟨gb, gbc, hvb, gblo, gbhi, gble⟩ := hcu.shape (fun h => HCE.out.2.1 (by rw [← hxm, h]; rfl))
      subst hvb
      clear hcu hxm haw
      have hly : ys.length = xs.length := by have h1 := congrArg List.length HXa.out; have h2 := congrArg List.length HXb.out; rw [List.length_map] at h1 h2; omega
      rw [hly] at HCb ⊢
      obtain ⟨N, hN⟩ : ∃ N, N = xs.length := ⟨_, rfl⟩
      rw [← hN] at HCa HCb hly hlxs gale ⊢
      have HNX : Hid (xs.length = N) := hN.symm
      have HNY : Hid (ys.length = N) := hly
      rw [hly] at gble hlys
      clear hN hly
      have hN0 : 0 < N := by rw [← HNX.out]; exact List.length_pos_iff.2 (fun h => HCE.out.2.1 (by rw [← HXa.out, h]; rfl))
      have HC0 := Lib.hid hc0
      have HLX : Hid (xs.length ≤ 925904528640) := by refine Lib.hid ?_; rw [HNX.out]; omega
      have HLY : Hid (ys.length ≤ 925904528640) := by refine Lib.hid ?_; rw [HNY.out]; omega
      clear hc0
      have HPY : Hid (∀ rr ∈ lotX ys, ∀ k, rr.1.ownBlock = some k → k < w14.heap.size) := fun rr h1 k he => (HCb.out.blocks rr h1 k he).2.1
      go_upto_region 14 with fail
      go_cut [15, 16] (fun vc ve wc => ∃ zs mc, (∃ t, ve = .int .i64 t) ∧ Cuts wc w14.heap.size vc zs ∧ zs.map X.p = (cutP y mc 6).1 ∧ Away [] w14 wc)
      case first =>
        as_aux_lemma =>
        refine wp_region_held_drew (S := (fun w' => Away [] w14 w')) (by kernel_rfl) (by exact (Away.refl [] w14).drew) (fun hHeld => ?_)
        refine wpAnyH_take (i := 0) (by simp only [List.getElem?_toArray, List.getElem?_cons_zero]; rfl) (by kernel_rfl) (by kernel_rfl) (by kernel_rfl) (by exact fun _ _ _ h => h) (yields_ld (ad := ⟨g8, 0, none⟩) (by rfl) _ rfl rfl (fun w' h => S6.load28_run (HS.out.box.on h) HYW.out.ad)) (by assumption) ?_
        try simp only [Act.put, List.setIfInBounds_toArray, List.set_cons_zero, List.set_cons_succ]
        refine wpAnyH_take (i := 2) (v := ?_) (by simp only [List.getElem?_toArray, List.getElem?_cons_succ, List.getElem?_cons_zero]; rfl) (by kernel_rfl) (by kernel_rfl) (by kernel_rfl) (by exact fun _ _ _ h => h) (Or.inl ⟨by rfl, ?_⟩) (by assumption) ?_
        rotate_left
        · intro wq hSw
          (try dsimp only at hSw)
          go_simp
          all_goals (with_reducible rfl)
        try simp only [Act.put, List.setIfInBounds_toArray, List.set_cons_zero, List.set_cons_succ]
        refine wpAnyH_take (i := 3) (by simp only [List.getElem?_toArray, List.getElem?_cons_succ, List.getElem?_cons_zero]; rfl) (by kernel_rfl) (by kernel_rfl) (by kernel_rfl) (by exact fun _ _ _ h => h) (yields_ld (ad := ⟨g8, 0, none⟩) (by rfl) _ rfl rfl (fun w' h => S6.ld3 (BoxP.cells (HS.out.box.on h) HYW.out.ad).v)) (by assumption) ?_
        try simp only [Act.put, List.setIfInBounds_toArray, List.set_cons_zero, List.set_cons_succ]
        refine wpAnyH_take (i := 4) (v := ?_) (by simp only [List.getElem?_toArray, List.getElem?_cons_succ, List.getElem?_cons_zero]; rfl) (by kernel_rfl) (by kernel_rfl) (by kernel_rfl) (by exact fun _ _ _ h => h) (Or.inl ⟨by rfl, ?_⟩) (by assumption) ?_
        rotate_left
        · intro wq hSw
          (try dsimp only at hSw)
          go_simp
          all_goals (with_reducible rfl)
        try simp only [Act.put, List.setIfInBounds_toArray, List.set_cons_zero, List.set_cons_succ]
        refine wpAnyH_ready (rs := [1]) (by kernel_rfl) (by simp) ?_
        refine AllReadyH.cons (by simp only [List.getElem?_toArray, List.getElem?_cons_succ, List.getElem?_cons_zero]; rfl) (fun K hK => ?_) AllReadyH.nil
        go_simp
        refine (ownP_c y so sd1 _ (by exact HS.out.pkt.on hHeld)).mono ?_
        rintro E v1 ⟨co, cd, rfl, hmine, haw⟩
        have HCM := Lib.hid hmine
        have hv1 := hHeld.size
        have hb1 := hHeld.trans haw
        refine hK.out _ _ hb1 (fun hHeld => ?_)
        clear hK K haw hmine hb1
        try simp only [Act.put, List.setIfInBounds_toArray, List.set_cons_zero, List.set_cons_succ]
        refine wpAnyH_ready (rs := [5]) (by kernel_rfl) (by simp) ?_
        refine AllReadyH.cons (by simp only [List.getElem?_toArray, List.getElem?_cons_succ, List.getElem?_cons_zero]; rfl) (fun K hK => ?_) AllReadyH.nil
        go_simp
        refine (link_c y.v n HYU.out _).mono ?_
        rintro E v2 ⟨mc, rfl, hmc, rfl⟩
        refine hK.out _ _ hHeld (fun hHeld => ?_)
        clear hK K
        try simp only [Act.put, List.setIfInBounds_toArray, List.set_cons_zero, List.set_cons_succ]
        refine wpAnyH_ready (rs := [6]) (by kernel_rfl) (by simp) ?_
        refine AllReadyH.cons (by simp only [List.getElem?_toArray, List.getElem?_cons_succ, List.getElem?_cons_zero]; rfl) (fun K hK => ?_) AllReadyH.nil
        go_simp
        refine (cut_c y co cd mc 6 _ (by exact HCM.out.pkt HYW.out) (by exact HG.out.on (HA.out.trans hHeld)) (by omega) (by omega)).mono ?_
        rintro E v3 ⟨vc, zs, rfl, hcu, hxm, haw⟩
        have HCc := Lib.hid (hcu.mono (C := w14.heap.size) hHeld.size)
        have HXc := Lib.hid hxm
        have hb1 := hHeld.trans haw
        refine hK.out _ _ hb1 (fun hHeld => ?_)
        clear hK K haw hcu hxm hb1
        try simp only [Act.put, List.setIfInBounds_toArray, List.set_cons_zero, List.set_cons_succ]
        refine wpAnyH_take (i := 7) (v := ?_) (by simp only [List.getElem?_toArray, List.getElem?_cons_succ, List.getElem?_cons_zero]; rfl) (by kernel_rfl) (by kernel_rfl) (by kernel_rfl) (by exact fun _ _ _ h => h) (Or.inl ⟨by rfl, ?_⟩) (by assumption) ?_
        rotate_left
        · intro wq hSw
          (try dsimp only at hSw)
          go_simp
          all_goals (with_reducible rfl)
        try simp only [Act.put, List.setIfInBounds_toArray, List.set_cons_zero, List.set_cons_succ]
        refine wpAnyH_take (i := 8) (v := ?_) (by simp only [List.getElem?_toArray, List.getElem?_cons_succ, List.getElem?_cons_zero]; rfl) (by kernel_rfl) (by kernel_rfl) (by kernel_rfl) (by exact fun _ _ _ h => h) (Or.inl ⟨by rfl, ?_⟩) (by assumption) ?_
        rotate_left
        · intro wq hSw
          (try dsimp only at hSw)
          go_simp
          all_goals (with_reducible rfl)
        try simp only [Act.put, List.setIfInBounds_toArray, List.set_cons_zero, List.set_cons_succ]
        refine wpAnyH_take (i := 9) (v := ?_) (by simp only [List.getElem?_toArray, List.getElem?_cons_succ, List.getElem?_cons_zero]; rfl) (by kernel_rfl) (by kernel_rfl) (by kernel_rfl) (by exact fun _ _ _ h => h) (Or.inl ⟨by rfl, ?_⟩) (by assumption) ?_
        rotate_left
        · intro wq hSw
          (try dsimp only at hSw)
          go_simp
          all_goals (with_reducible rfl)
        try simp only [Act.put, List.setIfInBounds_toArray, List.set_cons_zero, List.set_cons_succ]
        refine wpAnyH_take (i := 10) (v := ?_) (by simp only [List.getElem?_toArray, List.getElem?_cons_succ, List.getElem?_cons_zero]; rfl) (by kernel_rfl) (by kernel_rfl) (by kernel_rfl) (by exact fun _ _ _ h => h) (Or.inl ⟨by rfl, ?_⟩) (by assumption) ?_
        rotate_left
        · intro wq hSw
          (try dsimp only at hSw)
          go_simp
          all_goals (with_reducible rfl)
        try simp only [Act.put, List.setIfInBounds_toArray, List.set_cons_zero, List.set_cons_succ]
        refine wpAnyH_take (i := 11) (v := ?_) (by simp only [List.getElem?_toArray, List.getElem?_cons_succ, List.getElem?_cons_zero]; rfl) (by kernel_rfl) (by kernel_rfl) (by kernel_rfl) (by exact fun _ _ _ h => h) (Or.inl ⟨by rfl, ?_⟩) (by assumption) ?_
        rotate_left
        · intro wq hSw
          (try dsimp only at hSw)
          go_simp
          all_goals (with_reducible rfl)
        try simp only [Act.put, List.setIfInBounds_toArray, List.set_cons_zero, List.set_cons_succ]
        have HAR := Lib.hid hHeld
        clear hHeld
        refine wpAnyH_done (by kernel_rfl) ?_ _
        go_wp2_with fail
        go_meet
        exact ⟨zs, mc, ⟨_, rfl⟩, HCc.out, HXc.out, HAR.out⟩
      case rest =>
        obtain ⟨zs, mc, ⟨te, rfl⟩, hcu, hxm, haw⟩ := hcut
        generalize wc = w15 at *
        replace HA := Lib.hid (HA.out.trans haw)
        replace HQ := Lib.hid (HQ.out.on haw)
        replace HS := Lib.hid (HS.out.on haw)
        replace HI := Lib.hid (HI.out.on haw)
        replace HBI := Lib.hid (HBI.out.on haw)
        replace HCa := Lib.hid (HCa.out.on haw)
        replace HCb := Lib.hid (HCb.out.on haw)
        have HCc := Lib.hid hcu
        have HXc := Lib.hid hxm
        have hS_15 := haw.size
        have hlz : zs.length ≤ 3001 := by have h1 := congrArg List.length hxm; rw [List.length_map] at h1; have h2 := cut_few y mc 6; have h3 := HYL.out; omega
        clear hcu hxm haw
        clear HS
        obtain ⟨vca, vcc, hvc, -⟩ := HCc.out.pks (by omega)
        subst hvc
        have KS := Lib.hid (sameL_yes (some ⟨ga, 0, none⟩) (some ⟨gb, 0, none⟩) xs ys N gac gbc w15 HNX.out (HCa.out.pks' HLX.out) (HCb.out.pks' HLY.out) (by rw [HXa.out, HXb.out]))
        go_wp2_with (go_at_call 20; refine KS.out.mono ?_; refine Hid.out ?_)
        refine Lib.hid ?_
        rintro E w16 ⟨rfl, haw⟩
        have hS_16 := haw.size
        replace HA := Lib.hid (HA.out.trans haw)
        replace HQ := Lib.hid (HQ.out.on haw)
        replace HI := Lib.hid (HI.out.on haw)
        replace HBI := Lib.hid (HBI.out.on haw)
        replace HCa := Lib.hid (HCa.out.on haw)
        replace HCb := Lib.hid (HCb.out.on haw)
        replace HCc := Lib.hid (HCc.out.on haw)
        clear haw KS
        go_wp2_with (refine wpList_load28 rfl _ rfl g10 rfl z _ _ (by exact HBI.out) HZA.out ?_)
        refine (wipe_c z io id _ _ HI.out HZW.out).mono ?_
        rintro E w17 ⟨rfl, haw⟩
        have hS_17 := haw.size
        have his : ∀ k ∈ io.ownBlock.toList ++ id.ownBlock.toList, w10b.heap.size ≤ k ∧ k < w11.heap.size := fun k hk => by
          rw [List.mem_append] at hk
          exact HIL.out k (by simpa using hk)
        replace HA := Lib.hid (HA.out.next haw (fun k hk => .inr (by have := his k hk; omega)))
        replace HQ := Lib.hid (HQ.out.away haw (fun k hk => .inr (by have := his k hk; omega)))
        replace HCa := Lib.hid (HCa.out.away haw (fun k hk => by have := his k hk; omega))
        replace HCb := Lib.hid (HCb.out.away haw (fun k hk => by have := his k hk; omega))
        replace HCc := Lib.hid (HCc.out.away haw (fun k hk => by have := his k hk; omega))
        clear haw his HI HBI HIL
        obtain ⟨P, hP⟩ : ∃ P, P = lotX xs ++ lotX ys ++ lotX zs := ⟨_, rfl⟩
        have HPB : Hid (∀ k ∈ bl P, w12.heap.size ≤ k ∧ k < w17.heap.size ∧ k ≠ ga ∧ k ≠ gb) := fun k hk => by
          obtain ⟨rr, hrr, he⟩ := mem_bl hk
          rw [hP, List.mem_append, List.mem_append] at hrr
          have hga := HCa.out.lst.lt ga rfl
          have hgb := HCb.out.lst.lt gb rfl
          rcases hrr with (h1 | h1) | h1
          · have h2 := HCa.out.blocks rr h1 k he
            have h3 := HPX.out rr h1 k he
            exact ⟨h2.1, h2.2.1, fun e => h2.2.2 (by rw [e]; rfl), by omega⟩
          · have h2 := HCb.out.blocks rr h1 k he
            exact ⟨by omega, h2.2.1, by omega, fun e => h2.2.2 (by rw [e]; rfl)⟩
          · have h2 := HCc.out.blocks rr h1 k he
            exact ⟨by omega, h2.2.1, by omega, by omega⟩
        have HPL : Hid (Lots w17 P) := by
          rw [hP]
          refine Lots.join w14.heap.size (Lots.join w13.heap.size HCa.out.lots HCb.out.lots HPX.out (fun rr h1 k he => (HCb.out.blocks rr h1 k he).1)) HCc.out.lots (fun rr h1 k he => ?_) (fun rr h1 k he => (HCc.out.blocks rr h1 k he).1)
          rw [List.mem_append] at h1
          rcases h1 with h1 | h1
          · have := HPX.out rr h1 k he; omega
          · exact HPY.out rr h1 k he
        have HPE : Hid (∀ rr ∈ P, Bytes rr.2 ∧ rr.2.length ≤ 65535) := fun rr h1 => by
          rw [hP, List.mem_append, List.mem_append] at h1
          rcases h1 with (h1 | h1) | h1
          · exact HCa.out.lists_bytes HZU.out HZW.out HXa.out rr h1
          · exact HCb.out.lists_bytes HZU.out HZW.out HXb.out rr h1
          · exact HCc.out.lists_bytes HYC.out HYW.out HXc.out rr h1
        have HPM : Hid (P.map (·.1) = allL xs ++ allL ys ++ allL zs) := by rw [hP, List.map_append, List.map_append, lotX_map, lotX_map, lotX_map]; exact Lib.hid rfl
        have HPN : Hid (P.length ≤ 60000) := by rw [hP, List.length_append, List.length_append, lotX_len, lotX_len, lotX_len]; have h1 := HNX.out; have h2 := HNY.out; exact (by omega : 2 * xs.length + 2 * ys.length + 2 * zs.length ≤ 60000)
        clear hP
        go_wp2_with fail
        go_loopw [17, 18] (fun v iv wr => ∃ (k : Nat) (ks : List X), iv = .int .i64 (k : Int) ∧ k ≤ N ∧ ks.length = k ∧ Cuts wr w17.heap.size v ks ∧ ks.map X.p = (xs.take k).map X.p ∧ Away [] w17 wr) (fun _ iv _ => N - (intOf iv).toNat)
        case atStart => exact ⟨0, [], rfl, by omega, rfl, Cuts.nil _ _, rfl, Away.refl _ _⟩
        case round =>
          obtain ⟨k, ks, rfl, hk, hkl, hcu, hkm, haw⟩ := hrel
          have HCU := Lib.hid hcu
          have HKM := Lib.hid hkm
          have HAW := Lib.hid haw
          clear hcu hkm haw
          by_cases hkN : k < N
          · obtain ⟨x, hxk, hxm⟩ := get_of (show k < xs.length by rw [HNX.out]; exact hkN)
            obtain ⟨xb, xo, hab, hrx, hokx⟩ := ((HCa.out.pks' HLX.out).on HAW.out).at hxk
            simp only [Option.some.injEq, Addr.mk.injEq] at hab
            obtain ⟨rfl, rfl, -⟩ := hab
            have HAX : Hid (Ad x.p) := hokx.wf.ad
            have HRX : Hid (wr.rangeAt ga (0 + k * 46) (listP x.p x.o x.d)) := hrx
            have HOK := Lib.hid hokx
            have HXK := Lib.hid hxk
            clear hxk hxm hrx hokx
            have i2 : 0 ≤ (k : Int) := by omega
            have i3 : (k : Int) < (N : Int) := by omega
            have i4 : ((k : Int)).toNat = k := by omega
            go_wp2_with (refine wpList_load28m rfl _ rfl ga (0 + k * 46) (by simp [Act.eval]) x.p x.o x.d (by exact HRX.out) HAX.out ?_)
            refine (ownP_c x.p x.o x.d _ HOK.out).mono ?_
            rintro E v1 ⟨oq, dq, rfl, hmine, haw⟩
            have hs1 := haw.size
            have hsv := HAW.out.size
            have HCU1 := Lib.hid (HCU.out.on haw)
            have HLT : Hid (∀ y ∈ ks, ∀ k, y.o.ownBlock = some k ∨ y.d.ownBlock = some k → k < wr.heap.size) := fun y hy k hk => ((HCU.out.each y hy).2.lto k hk).1
            have HVL : Hid (∀ k, u17.ownBlock = some k → k < wr.heap.size) := HCU.out.lst.lt
            replace HAW := Lib.hid (HAW.out.on haw)
            have hsw := HAW.out.size
            have HMN := Lib.hid hmine
            have HO1 := Lib.hid hmine.o.one; have HD1 := Lib.hid hmine.d.one
            have HWX := Lib.hid HOK.out.wf
            clear haw hmine HRX HCU HOK
            go_wp2_with (refine wpList_build28 rfl _ rfl x.p oq dq rfl HAX.out ?_; refine Hid.out ?_)
            refine Lib.hid ?_
            intro gq v2 hgq hbq haw
            replace HCU1 := Lib.hid (HCU1.out.on haw)
            replace HMN := Lib.hid (HMN.out.on haw)
            replace HAW := Lib.hid (HAW.out.on haw)
            have hs2 := haw.size
            have HBQ := Lib.hid hbq
            clear haw hbq
            go_wp2_with (refine wpList_appP rfl _ _ rfl _ ks rfl (by exact HCU1.out.lst) gq 1 rfl x.p oq dq (by exact HBQ.out) HAX.out HO1.out HD1.out (by omega) ?_; refine Hid.out ?_)
            refine Lib.hid ?_
            intro v' v3 hl3 hgr hmv
            have HCU3 : Hid (Cuts v3 w17.heap.size v' (ks ++ [⟨x.p, oq, dq⟩])) := HCU1.out.snoc ⟨HWX.out, HMN.out.mono (by omega)⟩ (fun y hy k hk => by
              have h1 := HLT.out y hy k hk
              exact ⟨fun e => by have := (HMN.out.lto k (.inl e)).2; omega, fun e => by have := (HMN.out.lto k (.inr e)).2; omega⟩) (fun k hk e => by have h1 := (HMN.out.lto k hk).2; have h2 := HVL.out k e; omega) hl3 hgr hmv (by omega)
            have HA3 : Hid (Away [] w17 v3) := HAW.out.grown hgr (fun k hk => .inr (HCU1.out.new k hk))
            have HY3 : Hid ((ks ++ [(⟨x.p, oq, dq⟩ : X)]).map X.p = (xs.take (k + 1)).map X.p) := by
              show _ = _
              have h1 := lt_of_get HXK.out
              have h2 : xs[k] = x := by have := HXK.out; rw [List.getElem?_eq_getElem h1] at this; simpa using this
              rw [List.take_succ_eq_append_getElem h1, h2, List.map_append, List.map_append, HKM.out]; rfl
            clear hl3 hgr hmv
            go_wp2_with fail
            go_roundw
            case rel => exact ⟨k + 1, _, by go_num, by omega, by simp; omega, HCU3.out, HY3.out, HA3.out⟩
            case measure => simp [intOf]; omega
          · obtain rfl : k = N := by omega
            have hlt' : ¬ ((k : Int) < (k : Int)) := by omega
            have HKE : Hid (ks.map X.p = xs.map X.p) := by show _ = _; rw [HKM.out, List.take_of_length_le (by rw [HNX.out]; omega)]
            have haw := HAW.out
            generalize wr = wL at *
            replace HA := Lib.hid (HA.out.trans haw)
            replace HQ := Lib.hid (HQ.out.on haw)
            replace HCa := Lib.hid (HCa.out.on haw)
            replace HCb := Lib.hid (HCb.out.on haw)
            replace HCc := Lib.hid (HCc.out.on haw)
            replace HPL := Lib.hid (HPL.out.on haw)
            have HK := HCU
            have hS_L := haw.size
            obtain ⟨vka, vkc, hvk, -⟩ := HK.out.pks (by omega)
            rw [hkl] at hvk
            subst hvk
            clear haw HAW HCU HKM hkN
            have hnk : k ≤ 3001 := hlxs
            go_wp2_with fail
            refine (lists_c (some ⟨ga, 0, none⟩) xs k gac _ HNX.out (by omega) (by exact HCa.out.pks' HLX.out)).mono ?_
            rintro E w20 ⟨v1, rfl, hl1, hn1, haw⟩
            have HL1 := Lib.hid hl1; have HN1 := Lib.hid hn1; have HAL := Lib.hid haw
            clear hl1 hn1 haw
            go_wp2_with fail
            refine (lists_c (some ⟨gb, 0, none⟩) ys k gbc _ HNY.out (by omega) (by exact (HCb.out.on HAL.out).pks' HLY.out)).mono ?_
            rintro E w21 ⟨v2, rfl, hl2, hn2, haw⟩
            have HL2 := Lib.hid hl2
            replace HL1 := Lib.hid (HL1.out.away haw (by simp))
            replace HAL := Lib.hid (HAL.out.trans haw)
            clear hl2 hn2 haw
            go_wp2_with (refine wpList_appLW rfl _ _ rfl v1 v2 (allL xs) (allL ys) rfl rfl (by exact HL1.out) (by exact HL2.out) HCb.out.lists_one (by rw [allL_len, allL_len, HNX.out, HNY.out]; omega) ?_; refine Hid.out ?_)
            refine Lib.hid ?_
            intro v3 w22 hl3 hwent
            have HL3 := Lib.hid hl3
            have HN3 : Hid (New wL.heap.size v3) := HN1.out.moved hwent.moved HAL.out.size
            replace HAL := Lib.hid (HAL.out.grown hwent.grown (fun k hk => .inr (HN1.out k hk)))
            clear hl3 hwent HL1 HL2 HN1
            go_wp2_with fail
            refine (lists_c vca zs zs.length vcc _ rfl (by omega) (by exact (HCc.out.on HAL.out).pks' (by omega))).mono ?_
            rintro E w23 ⟨v4, rfl, hl4, hn4, haw⟩
            have HL4 := Lib.hid hl4
            replace HL3 := Lib.hid (HL3.out.away haw (by simp))
            replace HAL := Lib.hid (HAL.out.trans haw)
            clear hl4 hn4 haw
            go_wp2_with (refine wpList_appLW rfl _ _ rfl v3 v4 (allL xs ++ allL ys) (allL zs) rfl rfl (by exact HL3.out) (by exact HL4.out) HCc.out.lists_one (by rw [List.length_append, allL_len, allL_len, allL_len, HNX.out, HNY.out]; omega) ?_; refine Hid.out ?_)
            refine Lib.hid ?_
            intro v5 w24 hl5 hwent
            have HL5 : Hid (OwnsG 26 w24 v5 (P.map (·.1))) := by refine Lib.hid ?_; rw [HPM.out]; first | exact hl5 | (rw [List.append_assoc]; exact hl5)
            have HN5 : Hid (New wL.heap.size v5) := HN3.out.moved hwent.moved HAL.out.size
            replace HAL := Lib.hid (HAL.out.grown hwent.grown (fun k hk => .inr (HN3.out k hk)))
            clear hl5 hwent HL3 HL4 HN3 HPM
            have haw := HAL.out
            replace HA := Lib.hid (HA.out.trans haw)
            replace HQ := Lib.hid (HQ.out.on haw)
            replace HCa := Lib.hid (HCa.out.on haw)
            replace HCb := Lib.hid (HCb.out.on haw)
            replace HCc := Lib.hid (HCc.out.on haw)
            replace HPL := Lib.hid (HPL.out.on haw)
            replace HK := Lib.hid (HK.out.on haw)
            have hS_24 := haw.size
            clear haw HAL
            have HLot : Hid (LotAt w24 v5 P) := HPL.out.at HL5.out HPE.out (fun k hk rr hr he => by have h1 := HN5.out k hk; have h2 := HPB.out k (List.mem_filterMap.2 ⟨rr, hr, he⟩); omega) HPN.out
            clear HL5 HN5 HPE HPN
            go_wp2_with fail
            refine (marked_any _ _ P HLot.out).mono ?_
            rintro E w25 ⟨vl, tl, rfl, hst, hnl, haw, htl⟩
            have HST := Lib.hid hst; have HNL := Lib.hid hnl; have HTL := Lib.hid htl
            have hS_25 := haw.size
            replace HA := Lib.hid (HA.out.next haw (fun k hk => .inr (by have := HPB.out k hk; omega)))
            replace HQ := Lib.hid (HQ.out.away haw (fun k hk => .inr (by have := HPB.out k hk; omega)))
            replace HK := Lib.hid (HK.out.away haw (fun k hk => (HPB.out k hk).2.1))
            have HLA : Hid (LstP w25 (.slice (some ⟨ga, 0, none⟩) k gac) xs) := HCa.out.lst.away haw (fun j hj hc => by simp [Value.ownBlock] at hj; subst hj; exact (HPB.out _ hc).2.2.1 rfl)
            have HLB : Hid (LstP w25 (.slice (some ⟨gb, 0, none⟩) k gbc) ys) := HCb.out.lst.away haw (fun j hj hc => by simp [Value.ownBlock] at hj; subst hj; exact (HPB.out _ hc).2.2.2 rfl)
            have HXA : Hid (∀ x ∈ xs, Ad x.p) := fun x hx => (HCa.out.each x hx).1.ad
            have HYA : Hid (∀ x ∈ ys, Ad x.p) := fun x hx => (HCb.out.each x hx).1.ad
            clear hst hnl htl haw HLot HPL HCa HCb HCc
            go_wp2_with fail
            go_loopw [21] (fun iv wr => ∃ j : Nat, iv = .int .i64 (j : Int) ∧ j ≤ k ∧ LstP wr (.slice (some ⟨ga, 0, none⟩) k gac) (mk77 xs j) ∧ Away [ga] w25 wr) (fun iv _ => k - (intOf iv).toNat)
            case atStart => exact ⟨0, rfl, by omega, by simpa [mk77] using HLA.out, Away.refl _ _⟩
            case round =>
              obtain ⟨j, rfl, hj, hla, haw⟩ := hrel
              have HLJ := Lib.hid hla
              have HAJ := Lib.hid haw
              clear hla haw
              by_cases hjN : j < k
              · obtain ⟨x, hxk, hxm⟩ := get_of (show j < xs.length by rw [HNX.out]; exact hjN)
                have hv := HLJ.out.ver (mk77_ad HXA.out j) (mk77_get hxk)
                have c1 := hv.1
                have c2 := hv.2
                have HJ1 : Hid (LstP (wr.setCell ⟨ga, j * 46, none⟩ (.int .i64 77)) (.slice (some ⟨ga, 0, none⟩) k gac) (mk77 xs (j + 1))) := by
                  refine Lib.hid ?_
                  rw [← mk77_set hxk]
                  exact HLJ.out.set77 (by rw [mk77_len]; exact HNX.out) (mk77_ad HXA.out j) (mk77_get hxk)
                have HJ2 : Hid (Away [ga] w25 (wr.setCell ⟨ga, j * 46, none⟩ (.int .i64 77))) := HAJ.out.setCell (.inl (by simp)) _
                clear hv hxk hxm
                have i2 : 0 ≤ (j : Int) := by omega
                have i3 : (j : Int) < (k : Int) := by omega
                have i4 : ((j : Int)).toNat = j := by omega
                go_wp2_with fail
                go_roundw
                case rel => exact ⟨j + 1, by go_num, by omega, HJ1.out, HJ2.out⟩
                case measure => simp [intOf]; omega
              · obtain rfl : j = k := by omega
                have hlt2 : ¬ ((j : Int) < (j : Int)) := by omega
                generalize wr = w30 at *
                clear hjN HLA
                have hS_30 := HAJ.out.size
                have HM0 : Hid (∀ i, i < j → w30.cell? ⟨ga, i * 46, none⟩ = some (.int .i64 77)) := fun i hi => by
                  obtain ⟨x, hx, h1⟩ := mk77_all (xs := xs) (N := j) HNX.out hi
                  rw [(HLJ.out.ver (mk77_ad HXA.out j) hx).1, h1]
                go_wp2_with fail
                go_loopw [22, 23] (fun vm iv wr => ∃ t : Nat, iv = .int .i64 (t : Int) ∧ t ≤ 80 ∧ LstP wr vm (mk77 xs j ++ List.replicate t x78) ∧ (∀ i, i < j → wr.cell? ⟨ga, i * 46, none⟩ = some (.int .i64 77)) ∧ (∀ b, vm.ownBlock = some b → b = ga ∨ w30.heap.size ≤ b) ∧ Away [ga] w30 wr) (fun _ iv _ => 80 - (intOf iv).toNat)
                case atStart => exact ⟨0, rfl, by omega, by simpa using HLJ.out, HM0.out, fun b hb => by simp [Value.ownBlock] at hb; exact .inl hb.symm, Away.refl _ _⟩
                case round =>
                  obtain ⟨t, rfl, ht, hla, hc77, hbk, haw⟩ := hrel
                  have HLT := Lib.hid hla
                  have HC77 := Lib.hid hc77
                  have HBK := Lib.hid hbk
                  have HAT := Lib.hid haw
                  clear hla hc77 hbk haw HM0
                  have HAD : Hid (∀ t, ∀ x ∈ mk77 xs j ++ List.replicate t x78, Ad x.p) := fun t x hx => by
                    rcases List.mem_append.1 hx with h1 | h1
                    · exact mk77_ad HXA.out j x h1
                    · rw [(List.mem_replicate.1 h1).2]; exact p78_wf.ad
                  by_cases htN : t < 80
                  · have i2 : (t : Int) < 80 := by omega
                    have hrp := fun w => run_p78 w
                    go_wp2_with (refine wpList_build28 rfl _ rfl p78 (.slice none 0 0) (.slice none 0 0) rfl p78_wf.ad ?_; refine Hid.out ?_)
                    refine Lib.hid ?_
                    intro gq y2 hgq hbq haw
                    have HBQ := Lib.hid hbq
                    have HL2 := Lib.hid (HLT.out.on haw)
                    have HC2 : Hid (∀ i, i < j → y2.cell? ⟨ga, i * 46, none⟩ = some (.int .i64 77)) := fun i hi => haw.cell (by simp) (HC77.out i hi)
                    have HA2 : Hid (Away [ga] w30 y2) := HAT.out.next haw (by simp)
                    have HV2 : Hid (∀ b, u22.ownBlock = some b → b < y2.heap.size) := HL2.out.lt
                    have hgl := HA2.out.size
                    clear haw hbq hgq hrp
                    go_wp2_with (refine wpList_appPW rfl _ _ rfl u22 (mk77 xs j ++ List.replicate t x78) rfl (by exact HL2.out) gq 1 rfl p78 (.slice none 0 0) (.slice none 0 0) (by exact HBQ.out) p78_wf.ad rfl rfl (by rw [List.length_append, mk77_len, List.length_replicate, HNX.out]; omega) ?_; refine Hid.out ?_)
                    refine Lib.hid ?_
                    intro v' y3 hl3 hwent
                    have HL3 : Hid (LstP y3 v' (mk77 xs j ++ List.replicate (t + 1) x78)) := by refine Lib.hid ?_; rw [List.replicate_succ']; first | exact hl3 | (rw [← List.append_assoc]; exact hl3)
                    have HC3 : Hid (∀ i, i < j → y3.cell? ⟨ga, i * 46, none⟩ = some (.int .i64 77)) := more77 HC2.out (by omega) HL3.out (fun i hi => by
                      obtain ⟨x, hx, h1⟩ := mk77_all (xs := xs) (N := j) HNX.out hi
                      exact ⟨x, by rw [List.getElem?_append_left (by rw [mk77_len, HNX.out]; exact hi)]; exact hx, h1⟩) (HAD.out _) hwent
                    have HB3 : Hid (∀ b, v'.ownBlock = some b → b = ga ∨ w30.heap.size ≤ b) := fun b hb => by
                      rcases hwent.moved b hb with h1 | h1
                      · exact HBK.out b h1
                      · exact .inr (by omega)
                    have HA3 : Hid (Away [ga] w30 y3) := HA2.out.grown hwent.grown (fun b hb => by
                      rcases HBK.out b hb with rfl | h1
                      · exact .inl (by simp)
                      · exact .inr h1)
                    clear hl3 hwent
                    go_wp2_with fail
                    go_roundw
                    case rel => exact ⟨t + 1, by go_num, by omega, HL3.out, HC3.out, HB3.out, HA3.out⟩
                    case measure => simp [intOf]; omega
                  · obtain rfl : t = 80 := by omega
                    generalize wr = w31 at *
                    clear htN
                    have haw := HAJ.out.trans HAT.out
                    have hgaS : ∀ k ∈ [ga], k = ga := by simp
                    replace HA := Lib.hid (HA.out.next haw (fun k hk => .inr (by have := hgaS k hk; omega)))
                    replace HQ := Lib.hid (HQ.out.away haw (fun k hk => .inr (by have := hgaS k hk; omega)))
                    replace HK := Lib.hid (HK.out.away haw (fun k hk => by have := hgaS k hk; omega))
                    replace HLB := Lib.hid (HLB.out.away haw (fun b hb hc => by have := hgaS b hc; simp [Value.ownBlock] at hb; omega))
                    replace HST : Hid (Still w31 vl tl) := HST.out.away haw (fun b hb hc => by have := hgaS b hc; have := HNL.out b hb; omega) (fun tt htt => ⟨fun b hb hc => by have h1 := hgaS b hc; have h2 := HPB.out b ((HTL.out tt htt).1 b hb); omega, fun b hb hc => by
                      have h1 := hgaS b hc
                      rcases (HTL.out tt htt).2 b hb with h2 | h2
                      · have := HPB.out b h2; omega
                      · omega⟩)
                    obtain ⟨gm, gmc, hvm⟩ : ∃ gm c, u22 = .slice (some ⟨gm, 0, none⟩) (j + 80) c := by
                      rcases HLT.out.2 with ⟨h1, h2⟩ | ⟨g, cap, cur, h1, -⟩
                      · rw [List.length_append, mk77_len, List.length_replicate] at h2; omega
                      · refine ⟨g, cap, ?_⟩
                        rw [h1, List.length_append, mk77_len, List.length_replicate, HNX.out]
                    subst hvm
                    have HMO : Hid (Cl w31 gm (j * 46) 78) := (HLT.out.ver (HAD.out 80) (i := j) (x := x78) (by rw [List.getElem?_append_right (by rw [mk77_len, HNX.out]; exact Nat.le_refl _), mk77_len, HNX.out, Nat.sub_self]; rfl)).1
                    have HC7 : Hid (Cl7 w31 ga j) := HC77.out
                    clear haw hgaS HLT HC77 HBK HAT HAJ HLJ HTL HNL HAD
                    go_wp2_with (refine wpList_load28 rfl _ rfl g7 rfl z _ _ (by exact HQ.out.box) HZA.out ?_)
                    refine (ownP_c z qo qd1 _ HQ.out.pkt).mono ?_
                    rintro E w32 ⟨io2, id2, rfl, hmine, haw⟩
                    replace HA := Lib.hid (HA.out.trans haw)
                    replace HQ := Lib.hid (HQ.out.on haw)
                    replace HK := Lib.hid (HK.out.on haw)
                    replace HLB := Lib.hid (HLB.out.on haw)
                    replace HST := Lib.hid (HST.out.on haw)
                    replace HMO := Lib.hid (HMO.out.on haw)
                    replace HC7 := Lib.hid (HC7.out.on haw)
                    have HI := Lib.hid hmine
                    clear hmine haw
                    go_wp2_with fail
                    refine (cut_c z io2 id2 m 5 _ (HI.out.pkt HZW.out) (HG.out.on HA.out) (by omega) (by omega)).mono ?_
                    rintro E w33 ⟨v6, aa, rfl, hcu, hxm, haw⟩
                    rw [HC0.out]
                    replace HA := Lib.hid (HA.out.trans haw)
                    replace HQ := Lib.hid (HQ.out.on haw)
                    replace HK := Lib.hid (HK.out.on haw)
                    replace HLB := Lib.hid (HLB.out.on haw)
                    replace HST := Lib.hid (HST.out.on haw)
                    replace HMO := Lib.hid (HMO.out.on haw)
                    replace HC7 := Lib.hid (HC7.out.on haw)
                    have HCd := Lib.hid hcu
                    have HXd := Lib.hid hxm
                    have hla : aa.length = j := by have h1 := congrArg List.length hxm; have h2 := congrArg List.length HXa.out; rw [List.length_map] at h1 h2; have h3 := HNX.out; omega
                    obtain ⟨gd, gdc, hv6, -, -, -⟩ := hcu.shape (fun h => HCE.out.2.1 (by rw [← hxm, h]; rfl))
                    rw [hla] at hv6
                    subst hv6
                    clear hcu hxm haw HI
                    go_wp2_with fail
                    go_loopw [26] (fun iv wr => ∃ i : Nat, iv = .int .i64 (i : Int) ∧ i ≤ j ∧ Away [] w33 wr) (fun iv _ => j - (intOf iv).toNat)
                    case atStart => exact ⟨0, rfl, by omega, Away.refl _ _⟩
                    case round =>
                      obtain ⟨i, rfl, hi, haw⟩ := hrel
                      by_cases hiN : i < j
                      · obtain ⟨x, hxk, hxm⟩ := get_of (show i < ys.length by rw [HNY.out]; exact hiN)
                        have c1 : wr.cell? ⟨gb, i * 46, none⟩ = some (.int .i64 z.v) := by
                          rw [((HLB.out.on haw).ver HYA.out hxk).1, HCE.out.2.2 x.p (by rw [← HXb.out]; exact List.mem_map_of_mem hxm)]
                        have c2 : wr.cell? ⟨ga, i * 46, none⟩ = some (.int .i64 77) := haw.cell (by simp) (HC7.out i hiN)
                        have c3 := ((HQ.out.on haw).box.cells HZA.out).v
                        have HAW := Lib.hid haw
                        clear hxk hxm haw
                        have i2 : 0 ≤ (i : Int) := by omega
                        have i3 : (i : Int) < (j : Int) := by omega
                        have i4 : ((i : Int)).toNat = i := by omega
                        have i5 : (z.v == z.v) = true := by simp
                        have i6 : (z.v != z.v) = false := by simp
                        go_upto_region 39 with fail
                        go_quiet (fail)
                        go_wp2_with fail
                        go_roundw
                        case rel => exact ⟨i + 1, by go_num, by omega, by first | exact HAW.out | exact HAW.out.drew | exact HAW.out.drewN _⟩
                        case measure => simp [intOf]; omega
                      · obtain rfl : i = j := by omega
                        have hlt4 : ¬ ((i : Int) < (i : Int)) := by omega
                        generalize wr = w34 at *
                        replace HA := Lib.hid (HA.out.trans haw)
                        replace HQ := Lib.hid (HQ.out.on haw)
                        replace HK := Lib.hid (HK.out.on haw)
                        replace HLB := Lib.hid (HLB.out.on haw)
                        replace HST := Lib.hid (HST.out.on haw)
                        replace HMO := Lib.hid (HMO.out.on haw)
                        replace HC7 := Lib.hid (HC7.out.on haw)
                        replace HCd := Lib.hid (HCd.out.on haw)
                        clear haw hiN
                        have KST : Hid (Calls Tryd.prog 24 #[vl] w34 fun E w'' => E = .returned (.bool true) ∧ Away [] w34 w'') := (still_any w34 vl tl HST.out).mono fun E w'' h => ⟨h.1, by obtain ⟨-, nd, rfl⟩ := h; exact (Away.refl [] w34).drewN nd⟩
                        have KSL : Hid (∀ w', Away [] w34 w' → Calls Tryd.prog 20 #[.slice (some ⟨gd, 0, none⟩) i gdc, .slice vka i vkc] w' fun E w'' => E = .returned (.bool true) ∧ Away [] w' w'') := fun w' h => sameL_yes (some ⟨gd, 0, none⟩) vka aa ks i gdc vkc w' hla ((HCd.out.on h).pks' (by omega)) ((HK.out.on h).pks' (by omega)) (by rw [HXd.out, HKE.out, HXa.out])
                        have KIS : Hid (∀ w', Away [] w34 w' → Calls Tryd.prog 14 #[.agg (csP z qo qd1), .int .i64 m, .slice (some ⟨gd, 0, none⟩) i gdc] w' fun E w'' => E = .returned (.bool true) ∧ Away [] w' w'') := fun w' h => by
                          have := is_c z qo qd1 m (some ⟨gd, 0, none⟩) aa i gdc w' hla (HQ.out.pkt.on h) ((HCd.out.on h).pks' (by omega)) (HG.out.on (HA.out.on h))
                          rw [HXd.out, HCE.out.1] at this
                          exact this
                        go_wp2_with (go_at_call 24; refine KST.out.mono ?_; refine Hid.out ?_)
                        refine Lib.hid ?_
                        first | rintro E w35 rfl haw | rintro E w35 ⟨rfl, haw⟩
                        have HAX : Hid (Away [] w34 w35) := haw
                        clear haw
                        go_wp2_with (go_at_call 20; refine (KSL.out _ HAX.out).mono ?_; refine Hid.out ?_)
                        refine Lib.hid ?_
                        first | rintro E w36 rfl haw | rintro E w36 ⟨rfl, haw⟩
                        replace HAX := Lib.hid (HAX.out.trans haw)
                        have c78 : w36.cell? ⟨gm, i * 46, none⟩ = some (.int .i64 78) := HAX.out.cell (by simp) HMO.out
                        have HBX := Lib.hid (HQ.out.box.on HAX.out)
                        have i2 : 0 ≤ (i : Int) := by omega
                        have i3 : (i : Int) < ((i + 80 : Nat) : Int) := by omega
                        have i4 : ((i : Int)).toNat = i := by omega
                        have i5 : i < i + 80 := by omega
                        clear haw KST KSL
                        go_wp2_with (first | (refine wpList_load28 rfl _ rfl g7 rfl z _ _ (by exact HBX.out) HZA.out ?_) | (go_at_call 14; refine (KIS.out _ HAX.out).mono ?_; refine Hid.out ?_))
                        refine Lib.hid ?_
                        first | rintro E w37 rfl haw | rintro E w37 ⟨rfl, haw⟩
                        go_wp2_with fail
                        go_ret
                        exact ⟨rfl, (HA.out.trans (HAX.out.trans haw)).to_below⟩
end cutMemory
namespace cutMemory
theorem contract (H : Type) (enc : TypeId × Value → H) (W : World) (base : Nat) (args : Array Value) (ds gs : List (DataW H)) (before : List MemPlace)
    (hval0 : ∀ (j : Nat) t v, Tryd.f6.params[j]? = some t → args[j]? = some v → Value.okWide Tryd.prog W .any base t v)
    (hW : DataW.Whole enc Tryd.prog Tryd.f6.params.toList Rows.cutMemorySpec.vars false W args.toList ds gs before)
    (hsz0 : (DataW.weightsEach Tryd.prog (Tryd.f6.params.toList ++ Rows.cutMemorySpec.plain.varTypes Tryd.prog) (ds ++ gs)).all (· ≤ reachBytes) = true)
    (hL : laidMetH Tryd.prog Rows.cutMemoryRow.laid W) :
    Calls Tryd.prog 6 args W fun e W' => ∃ v, e = .returned v ∧ Rows.cutMemorySpec.post enc Tryd.prog Tryd.f6 false true false false W args v W' := by
  have hval := hval0
  have hsz := hsz0
  have hW' := hW
  obtain ⟨p, q, hA0, hV, rfl, hfz, hnd⟩ := hW
  have hA : DataW.TrodAll enc Tryd.prog W 0 (fun _ => true) true Tryd.f6.params.toList args.toList ds p := hA0
  rw [Tryd.params6] at hA hval hsz
  obtain ⟨v0, vs0, d0, ds0, p0, q0, hargs, rfl, rfl, h0, r0⟩ := trodAll_cons hA
  obtain ⟨v1, vs1, d1, ds1, p1, q1, rfl, rfl, rfl, h1, r1⟩ := trodAll_cons r0
  obtain ⟨v2, vs2, d2, ds2, p2, q2, rfl, rfl, rfl, h2, r2⟩ := trodAll_cons r1
  obtain ⟨rfl, rfl, rfl⟩ := trodAll_nil r2
  obtain rfl : args = #[v0, v1, v2] := by cases args; simp_all
  obtain ⟨rfl, rfl⟩ := trodVars_none hV
  have k0 := h0
  have lt0 : ∀ x ∈ p0, x.block < W.heap.size := by obtain ⟨m, hm⟩ := k0; exact DataW.trod_lt m _ _ _ hm
  have z0 : ∀ m ∈ d0.weights Tryd.prog 28, m ≤ reachBytes := fun m hm => by
    have := List.all_eq_true.1 hsz m (DataW.weights_mem_each (j := 0) (t := 28) rfl rfl m hm)
    simpa using this
  obtain ⟨x0, ov0, dv0, rfl, w0, ol0, dl0⟩ := open_pkt (hval 0 28 v0 rfl rfl) h0 z0
  have k1 := h1
  have lt1 : ∀ x ∈ p1, x.block < W.heap.size := by obtain ⟨m, hm⟩ := k1; exact DataW.trod_lt m _ _ _ hm
  have z1 : ∀ m ∈ d1.weights Tryd.prog 28, m ≤ reachBytes := fun m hm => by
    have := List.all_eq_true.1 hsz m (DataW.weights_mem_each (j := 1) (t := 28) rfl rfl m hm)
    simpa using this
  obtain ⟨x1, ov1, dv1, rfl, w1, ol1, dl1⟩ := open_pkt (hval 1 28 v1 rfl rfl) h1 z1
  obtain ⟨a2, rfl, rfl, rfl, w2⟩ := open_int Tryd.underlying3 (hval 2 3 v2 rfl rfl) h2
  clear hA0 hval0
  refine (walk x0 ov0 dv0 x1 ov1 dv1 a2 W (glob_of hL) w0 ol0 dl0 w1 ol1 dl1 w2).mono fun e W' ⟨he, bel⟩ => ?_
  subst he
  exact ⟨_, rfl, _, _, _, [], _, [], hW', trodAll_mk1 (shut_bool Tryd.underlying4 _), (trodAll_cons_mk (Below.trod laidOut (by kernel_rfl) (of_decide_eq_true (by kernel_rfl)) k0 bel lt0) (trodAll_cons_mk (Below.trod laidOut (by kernel_rfl) (of_decide_eq_true (by kernel_rfl)) k1 bel lt1) (trodAll_cons_mk (shut_int Tryd.underlying3 w2) trodAll_mk0))), rfl, bel.frame _, fun h => by cases h⟩
theorem laid_met (os : Os) : laidMet Tryd.prog Rows.cutMemoryRow.laid ((laidWorld Tryd.prog os).forCall (fun _ _ => 0) ⟨#[], #[.agg (csP zeroPk (.slice none 0 0) (.slice none 0 0)), .agg (csP zeroPk (.slice none 0 0) (.slice none 0 0)), .int .i64 0], []⟩).memory :=
  laidMet_of_run' 8 (by kernel_rfl) (by kernel_rfl)
theorem reads (os : Os) {H : Type} (enc : TypeId × Value → H) : ∃ places, DataW.whole enc Tryd.prog ((laidWorld Tryd.prog os).forCall (fun _ _ => 0) ⟨#[], #[.agg (csP zeroPk (.slice none 0 0) (.slice none 0 0)), .agg (csP zeroPk (.slice none 0 0) (.slice none 0 0)), .int .i64 0], []⟩).memory Tryd.f6.params.toList Rows.cutMemorySpec.vars false #[.agg (csP zeroPk (.slice none 0 0) (.slice none 0 0)), .agg (csP zeroPk (.slice none 0 0) (.slice none 0 0)), .int .i64 0].toList 8 = some ([.agg [.lit (.int .i64 0), .lit (.int .i64 0), .lit (.int .i64 0), .agg [.lit (.int .i64 0), .agg [.lit (.int .u8 0), .lit (.int .u8 0), .lit (.int .u8 0), .lit (.int .u8 0), .lit (.int .u8 0), .lit (.int .u8 0), .lit (.int .u8 0), .lit (.int .u8 0), .lit (.int .u8 0), .lit (.int .u8 0), .lit (.int .u8 0), .lit (.int .u8 0), .lit (.int .u8 0), .lit (.int .u8 0), .lit (.int .u8 0), .lit (.int .u8 0)]], .agg [.lit (.int .i64 0), .agg [.lit (.int .u8 0), .lit (.int .u8 0), .lit (.int .u8 0), .lit (.int .u8 0), .lit (.int .u8 0), .lit (.int .u8 0), .lit (.int .u8 0), .lit (.int .u8 0), .lit (.int .u8 0), .lit (.int .u8 0), .lit (.int .u8 0), .lit (.int .u8 0), .lit (.int .u8 0), .lit (.int .u8 0), .lit (.int .u8 0), .lit (.int .u8 0)]], .lit (.int .i64 0), .lit (.int .i64 0), .lit (.int .u32 0), .lit (.bool false), .lit (.bool false), .lit (.bool false), .lit (.int .i64 0), .nil, .nil], .agg [.lit (.int .i64 0), .lit (.int .i64 0), .lit (.int .i64 0), .agg [.lit (.int .i64 0), .agg [.lit (.int .u8 0), .lit (.int .u8 0), .lit (.int .u8 0), .lit (.int .u8 0), .lit (.int .u8 0), .lit (.int .u8 0), .lit (.int .u8 0), .lit (.int .u8 0), .lit (.int .u8 0), .lit (.int .u8 0), .lit (.int .u8 0), .lit (.int .u8 0), .lit (.int .u8 0), .lit (.int .u8 0), .lit (.int .u8 0), .lit (.int .u8 0)]], .agg [.lit (.int .i64 0), .agg [.lit (.int .u8 0), .lit (.int .u8 0), .lit (.int .u8 0), .lit (.int .u8 0), .lit (.int .u8 0), .lit (.int .u8 0), .lit (.int .u8 0), .lit (.int .u8 0), .lit (.int .u8 0), .lit (.int .u8 0), .lit (.int .u8 0), .lit (.int .u8 0), .lit (.int .u8 0), .lit (.int .u8 0), .lit (.int .u8 0), .lit (.int .u8 0)]], .lit (.int .i64 0), .lit (.int .i64 0), .lit (.int .u32 0), .lit (.bool false), .lit (.bool false), .lit (.bool false), .lit (.int .i64 0), .nil, .nil], .lit (.int .i64 0)], [], places) :=
  ⟨[], by kernel_rfl⟩
theorem lifted (os : Os) (started : os.Started) (H : Type) (enc : TypeId × Value → H) (F : Stop.Interp) :
    ReturnsInHanded {} Tryd.checked os 6 .any ((OpenSpec.ofChange Rows.cutMemorySpec).preRow enc Tryd.prog Tryd.f6 Rows.cutMemoryRow.domain false Rows.cutMemoryRow.laid) (((OpenSpec.ofChange Rows.cutMemorySpec).at F).post enc Tryd.prog Tryd.f6 false true false false) := by
  obtain ⟨places, hx⟩ := reads os enc
  refine returnsInHanded_of_row (C := Tryd.checked) (s := OpenSpec.ofChange Rows.cutMemorySpec) ownKn started (by kernel_rfl) Tryd.func6
    (witness_row_at (enc := enc) (C := Tryd.checked) false (laidWorld Tryd.prog os) #[.agg (csP zeroPk (.slice none 0 0) (.slice none 0 0)), .agg (csP zeroPk (.slice none 0 0) (.slice none 0 0)), .int .i64 0] rfl (by kernel_rfl) (by kernel_rfl) (by kernel_rfl)
      (OpenSpec.preRow_of_cond 8 hx (by kernel_rfl) (fun k hk => by cases hk) (by kernel_rfl) (laid_met os))) ?_
  intro W base args ds gs before hval hW _ hcond hsz hL hS _
  exact contract H enc W base args ds gs before hval hW hsz hL
theorem said : Rows.CutMemorySaid :=
  OpenClaim.holds_of_cond 6 Tryd.f6 rfl rfl rfl rfl rfl rfl rfl ⟨rfl, rfl, rfl, rfl, rfl⟩ rfl rfl rfl rfl rfl (by kernel_rfl) Tryd.func6 (by kernel_rfl)
    (of_decide_eq_true (by kernel_rfl)) (by unfold Func.isWrapper; first | (rw [if_pos (by decide +kernel)]; kernel_rfl) | (rw [if_neg (by decide +kernel)]; exact ⟨rfl, rfl⟩))
    (fun os started H enc _ F => by rw [OpenClaim.pre_eq_preRow]; exact lifted os started H enc F)
theorem plain (f : FuncId) (fn : Func) (hf : Tryd.pinned.checked.prog.funcNamed "mosaic/mosaiclaw10.CutMemory" = some f) (hfn : Tryd.pinned.checked.prog.funcs[f]? = some fn) :
    false = Tryd.pinned.checked.prog.looks [] ∧ ∀ (j : Nat) t, fn.params[j]? = some t → Tryd.pinned.checked.prog.wantsStandIn t = false := by
  obtain rfl : f = 6 := Option.some.inj ((show Tryd.prog.funcNamed "mosaic/mosaiclaw10.CutMemory" = some 6 by kernel_rfl).symm.trans hf) |>.symm
  obtain rfl : fn = Tryd.f6 := (Option.some.inj (Tryd.func6.symm.trans hfn)).symm
  refine ⟨by kernel_rfl, fun j t ht => ?_⟩
  rw [Tryd.params6] at ht
  have hm := Array.mem_of_getElem? ht
  simp only [List.mem_toArray, List.mem_cons, List.not_mem_nil, or_false] at hm
  have h28 : Tryd.prog.wantsStandIn 28 = false := by kernel_rfl
  have h26 : Tryd.prog.wantsStandIn 26 = false := by kernel_rfl
  have h3 : Tryd.prog.wantsStandIn 3 = false := by kernel_rfl
  have h25 : Tryd.prog.wantsStandIn 25 = false := by kernel_rfl
  rcases hm with rfl | rfl | rfl
  all_goals first | exact h28 | exact h26 | exact h3 | exact h25
theorem card : Rows.CutMemoryCardSaid :=
  Claim7.holds_tied_plain_at .later [] _ _ _ _ said (fun _ h => by cases h) (by kernel_rfl) (fun _ h => by cases h) cutMemory_row_tie rfl ⟨rfl, rfl⟩ (by kernel_rfl) rfl plain (by kernel_rfl)
end cutMemory
theorem cutMemory_holds : Rows.CutMemoryCardSaid := cutMemory.card
#print axioms cutMemory_holds
end Go.Proofs.YtbnnfbfmomafnaaDoor
