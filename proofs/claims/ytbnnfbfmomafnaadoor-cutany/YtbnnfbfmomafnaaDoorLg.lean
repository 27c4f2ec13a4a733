/-
  right, long of the laws.
-/
import Derived.Test.YtbnnfbfmomafnaaDoorAlv
namespace Go.Proofs.YtbnnfbfmomafnaaDoor
open Go.ChangeShapes Go.WideShapes Go.ChangeAt Go.RowKit Num S6
set_option linter.unusedVariables false
set_option maxHeartbeats 4000000
set_option maxRecDepth 100000

theorem lawRight_c (p : Pk) (ov dv : Value) (w : World) (hv : p.v = 4 ∨ p.v = 6) (hp : Pkt w p ov dv) (hg : Glob w) :
    Calls Tryd.prog 17 #[.agg (csP p ov dv)] w fun E w' => E = .returned (.bool (rgtP p)) ∧ Away [] w w' := by
  have HAD := Lib.hid hp.wf.ad
  have K4 : Hid (∀ w', Away [] w w' → Calls Tryd.prog 44 #[.agg (csP p ov dv)] w' fun E w'' => E = .returned (.bool (rightP p)) ∧ Away [] w' w'') := fun w' h => right_c p ov dv w' (hp.on h) (hg.on h)
  have K6 : Hid (∀ w', Away [] w w' → Calls Tryd.prog 45 #[.agg (csP p ov dv)] w' fun E w'' => E = .returned (.bool (S6.rightP p)) ∧ Away [] w' w'') := fun w' h => S6.right_c p ov dv w' (hp.on h).six
  clear hp hg
  go_enter Tryd.func17, Tryd.ntmps17
  go_wp2_with (refine wpList_box28 rfl _ rfl p _ _ rfl ?_; refine Hid.out ?_)
  refine Lib.hid ?_
  intro g w1 hg1 hb haw
  have HA := Lib.hid haw; have HB := Lib.hid hb
  clear hb haw hg1
  have c0 := (HB.out.cells HAD.out).v
  rcases hv with hv | hv
  · have HV : Hid (rgtP p = rightP p) := by show _ = _; unfold rgtP; rw [if_neg (by omega)]
    rw [hv] at c0
    go_wp2_with (refine wpList_load28 rfl _ rfl g rfl p _ _ (by exact HB.out) HAD.out ?_)
    refine (K4.out _ HA.out).mono ?_
    rintro E w2 ⟨rfl, haw⟩
    replace HA := Lib.hid (HA.out.on haw)
    clear haw c0
    go_wp2_with fail
    go_ret
    exact ⟨by rw [HV.out]; rfl, HA.out⟩
  · have HV : Hid (rgtP p = S6.rightP p) := by show _ = _; unfold rgtP; rw [if_pos hv]
    rw [hv] at c0
    go_wp2_with (refine wpList_load28 rfl _ rfl g rfl p _ _ (by exact HB.out) HAD.out ?_)
    refine (K6.out _ HA.out).mono ?_
    rintro E w2 ⟨rfl, haw⟩
    replace HA := Lib.hid (HA.out.on haw)
    clear haw c0
    go_wp2_with fail
    go_ret
    exact ⟨by rw [HV.out]; rfl, HA.out⟩
theorem long_c (p : Pk) (ov dv : Value) (w : World) (hv : p.v = 4 ∨ p.v = 6) (hr : rgtP p = true) (hp : Pkt w p ov dv) (hg : Glob w) :
    Calls Tryd.prog 16 #[.agg (csP p ov dv)] w fun E w' => E = .returned (.int .i64 ((topP p + p.d.length : Nat) : Int)) ∧ Away [] w w' := by
  have HAD := Lib.hid hp.wf.ad
  have hol := hp.wf.ol; have hdn := hp.wf.dn
  have b4 := head_bd p; have b6 := head6_bd p
  have HTP : Hid ((p.v = 4 → headP p = topP p) ∧ (p.v = 6 → S6.headP p = topP p)) := by
    have h1 := hd_eq p
    rw [if_pos hr] at h1
    unfold hdP at h1
    exact ⟨fun h => by rw [if_neg (by omega)] at h1; exact h1, fun h => by rw [if_pos h] at h1; exact h1⟩
  have K4 : Hid (∀ g W, (Away [] w W ∧ BoxP W g p ov dv) → Calls Tryd.prog 42 #[.agg (csP p ov dv)] W fun E w'' => E = .returned (.int .i64 (headP p)) ∧ (Away [] w w'' ∧ BoxP w'' g p ov dv)) := fun g W hW => (head_c p ov dv W (hp.on hW.1) (hg.on hW.1)).mono fun E w'' h => ⟨h.1, hW.1.on h.2, hW.2.on h.2⟩
  have K6 : Hid (∀ g W, (Away [] w W ∧ BoxP W g p ov dv) → Calls Tryd.prog 43 #[.agg (csP p ov dv)] W fun E w'' => E = .returned (.int .i64 (S6.headP p)) ∧ (Away [] w w'' ∧ BoxP w'' g p ov dv)) := fun g W hW => (S6.head_c p ov dv W (hp.on hW.1).six).mono fun E w'' h => ⟨h.1, hW.1.on h.2, hW.2.on h.2⟩
  obtain ⟨-, -, ⟨ad, capd, rfl, -⟩⟩ := hp
  clear hg
  go_enter Tryd.func16, Tryd.ntmps16
  go_wp2_with (refine wpList_box28 rfl _ rfl p _ _ rfl ?_; refine Hid.out ?_)
  refine Lib.hid ?_
  intro g w1 hg1 hb haw
  have HC : Hid (Away [] w w1.drew ∧ BoxP w1.drew g p ov (.slice ad p.d.length capd)) := ⟨haw.drew, hb⟩
  have c0 := (hb.cells HAD.out).v
  clear hb haw hg1
  replace K4 := Lib.hid (K4.out g); replace K6 := Lib.hid (K6.out g)
  rcases hv with hv | hv
  · have HV := Lib.hid hv
    rw [hv] at c0
    go_wp2_with fail
    refine wp_region_cls (C := fun w' => Away [] w w' ∧ BoxP w' g p ov (.slice ad p.d.length capd)) (by kernel_rfl) (by kernel_rfl) HC.out ?_
    go_big_quiet_want; refine quiet_ld _ rfl (ad := ⟨g, 0, none⟩) rfl (fun w' h => load28_run h.2 HAD.out) ?_; go_simp; go_big_quiet_on
    go_big_quiet_want; refine quiet_call 42 #[.agg (csP p ov (.slice ad p.d.length capd))] (.int .i64 (headP p)) ?_ K4.out ?_
    · intro w; go_simp; all_goals (with_reducible rfl)
    go_simp; go_big_quiet_on
    go_big_quiet_want; (refine quiet_val ?_ ?_ ?_; rotate_left; (intro w; go_simp; rfl); go_simp; go_big_quiet_on)
    go_big_quiet_want; refine quiet_ld _ rfl (ad := ⟨g, 45, none⟩) rfl (fun w' h => ld26 (h.2.cells HAD.out).d) ?_; go_simp; go_big_quiet_on
    go_big_quiet_want; (refine quiet_val ?_ ?_ ?_; rotate_left; (intro w; go_simp; rfl); go_simp; go_big_quiet_on)
    go_big_quiet_want; (refine quiet_val ?_ ?_ ?_; rotate_left; (intro w; go_simp; rfl); go_simp; go_big_quiet_on)
    go_big_quiet_want; (refine quiet_val ?_ ?_ ?_; rotate_left; (intro w; go_simp; rfl); go_simp; go_big_quiet_on)
    refine wpQuiet_nil ?_
    intro V hV
    have HE := Lib.hid hV.1
    clear hV
    go_wp2_with fail
    go_ret
    refine ⟨?_, HE.out⟩
    have e := HTP.out.1 HV.out
    apply ret_int
    rw [IntKind.wrap_i64, e]
    push_cast
    rw [e] at b4
    omega
  · have HV := Lib.hid hv
    rw [hv] at c0
    go_wp2_with fail
    refine wp_region_cls (C := fun w' => Away [] w w' ∧ BoxP w' g p ov (.slice ad p.d.length capd)) (by kernel_rfl) (by kernel_rfl) HC.out ?_
    go_big_quiet_want; refine quiet_ld _ rfl (ad := ⟨g, 0, none⟩) rfl (fun w' h => load28_run h.2 HAD.out) ?_; go_simp; go_big_quiet_on
    go_big_quiet_want; refine quiet_call 43 #[.agg (csP p ov (.slice ad p.d.length capd))] (.int .i64 (S6.headP p)) ?_ K6.out ?_
    · intro w; go_simp; all_goals (with_reducible rfl)
    go_simp; go_big_quiet_on
    go_big_quiet_want; (refine quiet_val ?_ ?_ ?_; rotate_left; (intro w; go_simp; rfl); go_simp; go_big_quiet_on)
    go_big_quiet_want; refine quiet_ld _ rfl (ad := ⟨g, 45, none⟩) rfl (fun w' h => ld26 (h.2.cells HAD.out).d) ?_; go_simp; go_big_quiet_on
    go_big_quiet_want; (refine quiet_val ?_ ?_ ?_; rotate_left; (intro w; go_simp; rfl); go_simp; go_big_quiet_on)
    go_big_quiet_want; (refine quiet_val ?_ ?_ ?_; rotate_left; (intro w; go_simp; rfl); go_simp; go_big_quiet_on)
    go_big_quiet_want; (refine quiet_val ?_ ?_ ?_; rotate_left; (intro w; go_simp; rfl); go_simp; go_big_quiet_on)
    refine wpQuiet_nil ?_
    intro V hV
    have HE := Lib.hid hV.1
    clear hV
    go_wp2_with fail
    go_ret
    refine ⟨?_, HE.out⟩
    have e := HTP.out.2 HV.out
    apply ret_int
    rw [IntKind.wrap_i64, e]
    push_cast
    rw [e] at b6
    omega
#print axioms long_c
end Go.Proofs.YtbnnfbfmomafnaaDoor
