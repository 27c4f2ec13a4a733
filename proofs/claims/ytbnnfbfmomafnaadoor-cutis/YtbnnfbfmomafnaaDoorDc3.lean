/-
  The document: Right, Whole, Length.
-/
import Derived.Test.YtbnnfbfmomafnaaDoorDc2
import Derived.Test.YtbnnfbfmomafnaaDoorRefW
namespace Go.Proofs.YtbnnfbfmomafnaaDoor
open Go.ChangeShapes Go.WideShapes Go.ChangeAt Go.RowKit Num
open S6 (wp_region_cls quiet_val quiet_call quiet_ld ld3 ld4 ld5 ld25 ld26 load28_run load24m_run)
set_option linter.unusedVariables false
set_option linter.unusedSimpArgs false
set_option maxHeartbeats 4000000
set_option maxRecDepth 100000

theorem rgt_or (p : Pk) : (rightP p || S6.rightP p) = rgtP p := by
  unfold rgtP
  by_cases h : p.v = 6
  · rw [if_pos h]
    have : rightP p = false := by
      cases hr : rightP p
      · rfl
      · have := ((right_iff p).1 hr).1.v; omega
    rw [this]; rfl
  · rw [if_neg h]
    have : S6.rightP p = false := by
      cases hr : S6.rightP p
      · rfl
      · have := ((S6.right_iff p).1 hr).v; omega
    rw [this]; simp
theorem rrgt_c (p : Pk) (ov dv : Value) (w : World) (hp : Pkt w p ov dv) :
    Calls Tryd.prog 53 #[.agg (csP p ov dv)] w fun E w' => E = .returned (.bool (rgtP p)) ∧ Away [] w w' := by
  have HAD := Lib.hid hp.wf.ad
  have K70 : Hid (∀ W, Away [] w W → Calls Tryd.prog 70 #[.agg (csP p ov dv)] W fun E w' => E = .returned (.bool (rightP p)) ∧ Away [] W w') := fun W h => rright_c p ov dv W (hp.on h)
  have K71 : Hid (∀ W, Away [] w W → Calls Tryd.prog 71 #[.agg (csP p ov dv)] W fun E w' => E = .returned (.bool (S6.rightP p)) ∧ Away [] W w') := fun W h => six_c p ov dv W (hp.on h)
  have HOR := Lib.hid (rgt_or p)
  obtain ⟨r4, h4⟩ : ∃ z, z = rightP p := ⟨_, rfl⟩
  obtain ⟨r6, h6⟩ : ∃ z, z = S6.rightP p := ⟨_, rfl⟩
  rw [← h4] at K70 HOR
  rw [← h6] at K71 HOR
  obtain ⟨ans, hans⟩ : ∃ z, z = rgtP p := ⟨_, rfl⟩
  rw [← hans] at HOR ⊢
  clear hp h4 h6 hans
  go_enter Tryd.func53, Tryd.ntmps53
  go_wp2_with (refine wpList_box28 rfl _ rfl p _ _ rfl ?_; refine Hid.out ?_)
  refine Lib.hid ?_
  intro g1 w1 hg1 hb haw
  have HA := Lib.hid haw
  have HB := Lib.hid hb
  clear hb haw hg1
  go_wp2_with (refine wpList_load28 rfl _ rfl _ rfl p _ _ (by exact HB.out) HAD.out ?_)
  refine (K70.out _ HA.out).mono ?_
  rintro E w2 ⟨rfl, haw⟩
  replace HA := Lib.hid (HA.out.trans haw)
  replace HB := Lib.hid (HB.out.on haw)
  clear haw K70
  cases r4
  · go_wp2_with (refine wpList_load28 rfl _ rfl _ rfl p _ _ (by exact HB.out) HAD.out ?_)
    refine (K71.out _ HA.out).mono ?_
    rintro E w3 ⟨rfl, haw⟩
    replace HA := Lib.hid (HA.out.trans haw)
    clear haw
    go_wp2_with fail
    go_ret
    exact ⟨by rw [← HOR.out]; rfl, HA.out⟩
  · go_wp2_with fail
    go_ret
    exact ⟨by rw [← HOR.out]; rfl, HA.out⟩
theorem rwhole_c (p : Pk) (ov dv : Value) (w : World) (hp : Pkt w p ov dv) :
    Calls Tryd.prog 46 #[.agg (csP p ov dv)] w fun E w' => E = .returned (.bool (uncutP p)) ∧ Away [] w w' := by
  have HAD := Lib.hid hp.wf.ad
  have K53 : Hid (∀ W, Away [] w W → Calls Tryd.prog 53 #[.agg (csP p ov dv)] W fun E w' => E = .returned (.bool (rgtP p)) ∧ Away [] W w') := fun W h => rrgt_c p ov dv W (hp.on h)
  have HU : Hid (uncutP p = (rgtP p && decide (p.off = 0) && !p.more && !p.frag)) := by
    show _ = _
    unfold uncutP
    congr 3
    cases hr : rgtP p
    · simp only [decide_eq_false_iff_not]
      intro hc
      rw [(long_pos p).1 hc] at hr
      simp at hr
    · exact decide_eq_true ((long_pos p).2 hr)
  obtain ⟨r, hr⟩ : ∃ z, z = rgtP p := ⟨_, rfl⟩
  rw [← hr] at K53 HU
  obtain ⟨ans, hans⟩ : ∃ z, z = uncutP p := ⟨_, rfl⟩
  rw [← hans] at HU ⊢
  clear hp hr hans
  go_enter Tryd.func46, Tryd.ntmps46
  go_wp2_with (refine wpList_box28 rfl _ rfl p _ _ rfl ?_; refine Hid.out ?_)
  refine Lib.hid ?_
  intro g1 w1 hg1 hb haw
  have HA := Lib.hid haw
  have HB := Lib.hid hb
  clear hb haw hg1
  go_wp2_with (refine wpList_load28 rfl _ rfl _ rfl p _ _ (by exact HB.out) HAD.out ?_)
  refine (K53.out _ HA.out).mono ?_
  rintro E w2 ⟨rfl, haw⟩
  replace HA := Lib.hid (HA.out.trans haw)
  replace HB := Lib.hid (HB.out.on haw)
  clear haw K53
  have cc := HB.out.cells HAD.out
  have c1 := cc.off
  have c2 := cc.more
  have c3 := cc.frag
  clear cc
  cases r
  · go_wp2_with fail
    go_ret
    exact ⟨by rw [HU.out]; rfl, HA.out⟩
  · by_cases h0 : p.off = 0
    · have e0 : (p.off == 0) = true := by simpa using h0
      have e0' : decide (p.off = 0) = true := by simpa using h0
      rw [e0'] at HU
      rw [h0] at c1
      clear h0 e0 e0'
      generalize p.more = m at *
      generalize p.frag = f at *
      cases m
      · go_wp2_with fail
        go_ret
        exact ⟨by rw [HU.out]; simp, HA.out⟩
      · go_wp2_with fail
        go_ret
        exact ⟨by rw [HU.out]; simp, HA.out⟩
    · have e0 : (p.off == 0) = false := by simpa using h0
      have e0' : decide (p.off = 0) = false := by simpa using h0
      rw [e0'] at HU
      clear h0
      go_wp2_with fail
      go_ret
      exact ⟨by rw [HU.out]; simp, HA.out⟩
theorem rlen_c (p : Pk) (ov dv : Value) (w : World) (hp : Pkt w p ov dv) (hl : p.o.length ≤ 140737488355328) (hd : p.d.length ≤ 140737488355328) :
    Calls Tryd.prog 48 #[.agg (csP p ov dv)] w fun E w' => E = .returned (.int .i64 (hdD p + p.d.length)) ∧ Away [] w w' := by
  have HAD := Lib.hid hp.wf.ad
  have K50 : Hid (∀ W, Away [] w W → Calls Tryd.prog 50 #[.agg (csP p ov dv)] W fun E w' => E = .returned (.int .i64 (hdD p)) ∧ Away [] W w') := fun W h => rhead_c p ov dv W (hp.on h) hl
  have hh : 0 ≤ hdD p ∧ hdD p ≤ 140737488355348 := by
    unfold hdD
    split
    · omega
    · split <;> omega
  obtain ⟨hh0, hh1⟩ := hh
  obtain ⟨-, -, da, dc, rfl, -⟩ := hp
  obtain ⟨h0, hz⟩ : ∃ z, z = hdD p := ⟨_, rfl⟩
  rw [← hz] at K50 hh0 hh1 ⊢
  have kw : IntKind.i64.wrap (h0 + (p.d.length : Int)) = h0 + (p.d.length : Int) := by rw [IntKind.wrap_i64]; omega
  clear hz
  go_enter Tryd.func48, Tryd.ntmps48
  go_wp2_with (refine wpList_box28 rfl _ rfl p _ _ rfl ?_; refine Hid.out ?_)
  refine Lib.hid ?_
  intro g1 w1 hg1 hb haw
  have HA := Lib.hid haw
  have HB := Lib.hid hb
  clear hb haw hg1
  go_wp2_with fail
  refine wp_region_held_drew (S := (fun w' => BoxP w' g1 p ov (.slice da p.d.length dc))) (by kernel_rfl) (by exact HB.out) (fun hHeld => ?_)
  have haw := (Away.refl [] w1).drew
  replace HA := Lib.hid (HA.out.trans haw)
  clear haw HB
  refine wpAnyH_take (i := 0) (by simp only [List.getElem?_toArray, List.getElem?_cons_zero]; rfl) (by kernel_rfl) (by kernel_rfl) (by kernel_rfl) (by exact fun _ _ _ h => h) (yields_ld (ad := ⟨g1, 0, none⟩) (by rfl) _ rfl rfl (fun w' h => load28_run h HAD.out)) (by assumption) ?_
  try simp only [Act.put, List.setIfInBounds_toArray, List.set_cons_zero, List.set_cons_succ]
  refine wpAnyH_take (i := 2) (v := ?_) (by simp only [List.getElem?_toArray, List.getElem?_cons_succ, List.getElem?_cons_zero]; rfl) (by kernel_rfl) (by kernel_rfl) (by kernel_rfl) (by exact fun _ _ _ h => h) (Or.inl ⟨by rfl, ?_⟩) (by assumption) ?_
  rotate_left
  · intro wq hSw
    (try dsimp only at hSw)
    go_simp
    all_goals (with_reducible rfl)
  try simp only [Act.put, List.setIfInBounds_toArray, List.set_cons_zero, List.set_cons_succ]
  refine wpAnyH_take (i := 3) (by simp only [List.getElem?_toArray, List.getElem?_cons_succ, List.getElem?_cons_zero]; rfl) (by kernel_rfl) (by kernel_rfl) (by kernel_rfl) (by exact fun _ _ _ h => h) (yields_ld (ad := ⟨g1, 45, none⟩) (by rfl) _ rfl rfl (fun w' h => ld26 (h.cells HAD.out).d)) (by assumption) ?_
  try simp only [Act.put, List.setIfInBounds_toArray, List.set_cons_zero, List.set_cons_succ]
  refine wpAnyH_take (i := 4) (v := ?_) (by simp only [List.getElem?_toArray, List.getElem?_cons_succ, List.getElem?_cons_zero]; rfl) (by kernel_rfl) (by kernel_rfl) (by kernel_rfl) (by exact fun _ _ _ h => h) (Or.inl ⟨by rfl, ?_⟩) (by assumption) ?_
  rotate_left
  · intro wq hSw
    (try dsimp only at hSw)
    go_simp
    all_goals (with_reducible rfl)
  try simp only [Act.put, List.setIfInBounds_toArray, List.set_cons_zero, List.set_cons_succ]
  refine wpAnyH_ready (rs := [1]) (by kernel_rfl) (by simp) ?_
  refine AllReadyH.cons (by simp only [List.getElem?_toArray, List.getElem?_cons_succ, List.getElem?_cons_zero]; rfl) (fun K hK => ?_) AllReadyH.nil
  go_simp
  refine (K50.out _ HA.out).mono ?_
  rintro E w2 ⟨rfl, haw⟩
  have hS : BoxP w2 g1 p ov (.slice da p.d.length dc) := hHeld.on haw
  replace HA := Lib.hid (HA.out.trans haw)
  clear haw hHeld
  go_wp2_with fail
  refine hK.out _ _ hS (fun hHeld => ?_)
  clear hK K
  try simp only [Act.put, List.setIfInBounds_toArray, List.set_cons_zero, List.set_cons_succ]
  clear hS
  refine wpAnyH_take (i := 5) (v := ?_) (by simp only [List.getElem?_toArray, List.getElem?_cons_succ, List.getElem?_cons_zero]; rfl) (by kernel_rfl) (by kernel_rfl) (by kernel_rfl) (by exact fun _ _ _ h => h) (Or.inl ⟨by rfl, ?_⟩) (by assumption) ?_
  rotate_left
  · intro wq hSw
    (try dsimp only at hSw)
    go_simp
    all_goals (with_reducible rfl)
  try simp only [Act.put, List.setIfInBounds_toArray, List.set_cons_zero, List.set_cons_succ]
  refine wpAnyH_take (i := 6) (v := ?_) (by simp only [List.getElem?_toArray, List.getElem?_cons_succ, List.getElem?_cons_zero]; rfl) (by kernel_rfl) (by kernel_rfl) (by kernel_rfl) (by exact fun _ _ _ h => h) (Or.inl ⟨by rfl, ?_⟩) (by assumption) ?_
  rotate_left
  · intro wq hSw
    (try dsimp only at hSw)
    go_simp
    all_goals (with_reducible rfl)
  try simp only [Act.put, List.setIfInBounds_toArray, List.set_cons_zero, List.set_cons_succ]
  clear hHeld
  refine wpAnyH_done (by kernel_rfl) ?_ _
  go_wp2_with fail
  go_ret
  exact ⟨rfl, HA.out⟩
end Go.Proofs.YtbnnfbfmomafnaaDoor
