/-
  The document: head, Bytes.
-/
import Derived.Test.YtaicckenpplceabGreatDoorDs
namespace Go.Proofs.YtaicckenpplceabGreatDoor
open Go.ChangeShapes Go.WideShapes Go.ChangeAt Go.RowKit Num
open S6 (wp_region_cls quiet_val quiet_call quiet_ld ld3 ld4 ld5 ld25 ld26 load28_run load24m_run)
set_option linter.unusedVariables false
set_option linter.unusedSimpArgs false
set_option maxHeartbeats 8000000
set_option maxRecDepth 100000

/-- Head, as the document reckons it. -/
def hdD (p : Pk) : Int := if p.v = 4 then 20 + p.o.length else if p.frag = true then 48 else 40
theorem rhead_c (p : Pk) (ov dv : Value) (w : World) (hp : Pkt w p ov dv) (hl : p.o.length ≤ 140737488355328) :
    Calls Tryz.prog 33 #[.agg (csP p ov dv)] w fun E w' => E = .returned (.int .i64 (hdD p)) ∧ Away [] w w' := by
  have HAD := Lib.hid hp.wf.ad
  obtain ⟨-, ⟨oa, oc, rfl, -, -, -⟩, -⟩ := hp
  obtain ⟨ans, hans⟩ : ∃ z, z = hdD p := ⟨_, rfl⟩
  rw [← hans]
  have HE := Lib.hid hans
  clear hans
  go_enter Tryz.func33, Tryz.ntmps33
  go_wp2_with (refine wpList_box28 rfl _ rfl p _ _ rfl ?_; refine Hid.out ?_)
  refine Lib.hid ?_
  intro g1 w1 hg1 hb haw
  have HA := Lib.hid haw
  have cc := hb.cells HAD.out
  have c0 := cc.v
  have c12 := cc.o
  have cf := cc.frag
  clear hb haw hg1 cc
  by_cases h4 : p.v = 4
  · have e4 : (p.v == 4) = true := by simpa using h4
    have HR : Hid (ans = 20 + (p.o.length : Int)) := by show _ = _; rw [HE.out, hdD, if_pos h4]
    rw [h4] at c0
    clear h4 e4
    go_wp2_with fail
    go_ret
    exact ⟨ret_int HR.out.symm, HA.out⟩
  · have e4 : (p.v == 4) = false := by simpa using h4
    cases hf : p.frag
    · have HR : Hid (ans = 40) := by show _ = _; rw [HE.out, hdD, if_neg h4, hf]; rfl
      rw [hf] at cf
      clear h4
      go_wp2_with fail
      go_ret
      exact ⟨ret_int HR.out.symm, HA.out⟩
    · have HR : Hid (ans = 48) := by show _ = _; rw [HE.out, hdD, if_neg h4, hf]; rfl
      rw [hf] at cf
      clear h4
      go_wp2_with fail
      go_ret
      exact ⟨ret_int HR.out.symm, HA.out⟩
theorem rlen_c (p : Pk) (ov dv : Value) (w : World) (hp : Pkt w p ov dv) (hl : p.o.length ≤ 140737488355328) (hd : p.d.length ≤ 140737488355328) :
    Calls Tryz.prog 18 #[.agg (csP p ov dv)] w fun E w' => E = .returned (.int .i64 (hdD p + p.d.length)) ∧ Away [] w w' := by
  have HAD := Lib.hid hp.wf.ad
  have K50 : Hid (∀ W, Away [] w W → Calls Tryz.prog 33 #[.agg (csP p ov dv)] W fun E w' => E = .returned (.int .i64 (hdD p)) ∧ Away [] W w') := fun W h => rhead_c p ov dv W (hp.on h) hl
  have hh : 0 ≤ hdD p ∧ hdD p ≤ 140737488355348 := by
    unfold hdD
    split
    · omega
    · split <;> omega
  obtain ⟨hh0, hh1⟩ := hh
  obtain ⟨-, -, da, dc, rfl, -⟩ := hp
  obtain ⟨h0, hz⟩ : ∃ z, z = hdD p := ⟨_, rfl⟩
  rw [← hz] at K50 hh0 hh1 ⊢
  have kw : IntKind.i64.wrap (h0 + (p.d.length : Int)) = h0 + (p.d.length : Int) := by rw [IntKind.wrap_i64]; omega
  clear hz
  go_enter Tryz.func18, Tryz.ntmps18
  go_wp2_with (refine wpList_box28 rfl _ rfl p _ _ rfl ?_; refine Hid.out ?_)
  refine Lib.hid ?_
  intro g1 w1 hg1 hb haw
  have HA := Lib.hid haw
  have HB := Lib.hid hb
  clear hb haw hg1
  go_wp2_with fail
  refine wp_region_held_drew (S := (fun w' => BoxP w' g1 p ov (.slice da p.d.length dc))) (by kernel_rfl) (by exact HB.out) (fun hHeld => ?_)
  have haw := (Away.refl [] w1).drew
  replace HA := Lib.hid (HA.out.trans haw)
  clear haw HB
  refine wpAnyH_take (i := 0) (by simp only [List.getElem?_toArray, List.getElem?_cons_zero]; rfl) (by kernel_rfl) (by kernel_rfl) (by kernel_rfl) (by exact fun _ _ _ h => h) (yields_ld (ad := ⟨g1, 0, none⟩) (by rfl) _ rfl rfl (fun w' h => load28_run h HAD.out)) (by assumption) ?_
  try simp only [Act.put, List.setIfInBounds_toArray, List.set_cons_zero, List.set_cons_succ]
  refine wpAnyH_take (i := 2) (v := ?_) (by simp only [List.getElem?_toArray, List.getElem?_cons_succ, List.getElem?_cons_zero]; rfl) (by kernel_rfl) (by kernel_rfl) (by kernel_rfl) (by exact fun _ _ _ h => h) (Or.inl ⟨by rfl, ?_⟩) (by assumption) ?_
  rotate_left
  · intro wq hSw
    (try dsimp only at hSw)
    go_simp
    all_goals (with_reducible rfl)
  try simp only [Act.put, List.setIfInBounds_toArray, List.set_cons_zero, List.set_cons_succ]
  refine wpAnyH_take (i := 3) (by simp only [List.getElem?_toArray, List.getElem?_cons_succ, List.getElem?_cons_zero]; rfl) (by kernel_rfl) (by kernel_rfl) (by kernel_rfl) (by exact fun _ _ _ h => h) (yields_ld (ad := ⟨g1, 45, none⟩) (by rfl) _ rfl rfl (fun w' h => ld26 (h.cells HAD.out).d)) (by assumption) ?_
  try simp only [Act.put, List.setIfInBounds_toArray, List.set_cons_zero, List.set_cons_succ]
  refine wpAnyH_take (i := 4) (v := ?_) (by simp only [List.getElem?_toArray, List.getElem?_cons_succ, List.getElem?_cons_zero]; rfl) (by kernel_rfl) (by kernel_rfl) (by kernel_rfl) (by exact fun _ _ _ h => h) (Or.inl ⟨by rfl, ?_⟩) (by assumption) ?_
  rotate_left
  · intro wq hSw
    (try dsimp only at hSw)
    go_simp
    all_goals (with_reducible rfl)
  try simp only [Act.put, List.setIfInBounds_toArray, List.set_cons_zero, List.set_cons_succ]
  refine wpAnyH_ready (rs := [1]) (by kernel_rfl) (by simp) ?_
  refine AllReadyH.cons (by simp only [List.getElem?_toArray, List.getElem?_cons_succ, List.getElem?_cons_zero]; rfl) (fun K hK => ?_) AllReadyH.nil
  go_simp
  refine (K50.out _ HA.out).mono ?_
  rintro E w2 ⟨rfl, haw⟩
  have hS : BoxP w2 g1 p ov (.slice da p.d.length dc) := hHeld.on haw
  replace HA := Lib.hid (HA.out.trans haw)
  clear haw hHeld
  go_wp2_with fail
  refine hK.out _ _ hS (fun hHeld => ?_)
  clear hK K
  try simp only [Act.put, List.setIfInBounds_toArray, List.set_cons_zero, List.set_cons_succ]
  clear hS
  refine wpAnyH_take (i := 5) (v := ?_) (by simp only [List.getElem?_toArray, List.getElem?_cons_succ, List.getElem?_cons_zero]; rfl) (by kernel_rfl) (by kernel_rfl) (by kernel_rfl) (by exact fun _ _ _ h => h) (Or.inl ⟨by rfl, ?_⟩) (by assumption) ?_
  rotate_left
  · intro wq hSw
    (try dsimp only at hSw)
    go_simp
    all_goals (with_reducible rfl)
  try simp only [Act.put, List.setIfInBounds_toArray, List.set_cons_zero, List.set_cons_succ]
  refine wpAnyH_take (i := 6) (v := ?_) (by simp only [List.getElem?_toArray, List.getElem?_cons_succ, List.getElem?_cons_zero]; rfl) (by kernel_rfl) (by kernel_rfl) (by kernel_rfl) (by exact fun _ _ _ h => h) (Or.inl ⟨by rfl, ?_⟩) (by assumption) ?_
  rotate_left
  · intro wq hSw
    (try dsimp only at hSw)
    go_simp
    all_goals (with_reducible rfl)
  try simp only [Act.put, List.setIfInBounds_toArray, List.set_cons_zero, List.set_cons_succ]
  clear hHeld
  refine wpAnyH_done (by kernel_rfl) ?_ _
  go_wp2_with fail
  go_ret
  exact ⟨rfl, HA.out⟩
#print axioms rlen_c
end Go.Proofs.YtaicckenpplceabGreatDoor
