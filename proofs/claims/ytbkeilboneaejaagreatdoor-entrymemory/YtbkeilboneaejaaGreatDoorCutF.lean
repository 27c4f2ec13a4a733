/-
  Cut and Is.
-/
import Derived.Test.YtbkeilboneaejaaGreatDoorPc
namespace Go.Proofs.YtbkeilboneaejaaGreatDoor
open Go.ChangeShapes Go.WideShapes Go.ChangeAt Go.RowKit Num S6
set_option linter.unusedVariables false
set_option maxHeartbeats 4000000
set_option maxRecDepth 100000

theorem lst_one {w : World} {g : Nat} {p : Pk} {ov dv : Value} (hb : BoxP w g p ov dv) (ha : Ad p) : LstP w (.slice (some ⟨g, 0, none⟩) 1 1) [⟨p, ov, dv⟩] := by
  refine ⟨by simp [X.cells, listP_len ha], .inr ⟨g, 1, csP p ov dv, rfl, Nat.zero_le _, hb, Nat.le_refl _, by unfold maxLen; omega, by rw [csP_size ha], ?_⟩⟩
  have := listP_len ha ov dv
  simp [csP, X.cells, List.take_of_length_le, this]
theorem Cuts.one {w : World} {B g : Nat} {p : Pk} {ov dv : Value} (hb : BoxP w g p ov dv) (hw : Wf p) (hm : Mine w B p ov dv) (hg : B ≤ g) (hne : ∀ k, ov.ownBlock = some k ∨ dv.ownBlock = some k → k ≠ g) : Cuts w B (.slice (some ⟨g, 0, none⟩) 1 1) [⟨p, ov, dv⟩] := by
  refine ⟨lst_one hb hw.ad, fun k hk => by simp [Value.ownBlock] at hk; omega, fun x hx => ?_, fun x hx k hk e => ?_, by simp⟩
  · simp at hx; subst hx; exact ⟨hw, hm⟩
  · simp at hx; subst hx; simp [Value.ownBlock] at e; exact hne k hk e.symm
/-- What Cut tells. -/
def CutOut (w : World) (p : Pk) (m id : Int) (E : Ending) (w' : World) : Prop :=
  ∃ v xs, E = .returned (.tuple #[v, .int .i64 (cutP p m id).2]) ∧ Cuts w' w.heap.size v xs ∧ xs.map X.p = (cutP p m id).1 ∧ Away [] w w'
theorem cut_c (p : Pk) (ov dv : Value) (m id : Int) (w : World) (hp : Pkt w p ov dv) (hg : Glob w) (h0 : 0 ≤ id) (h1 : id ≤ 4294967295) :
    Calls Tryz.prog 35 #[.agg (csP p ov dv), .int .i64 m, .int .u32 id] w fun E w' => CutOut w p m id E w' := by
  have HAD := Lib.hid hp.wf.ad
  have HP := Lib.hid hp; have HG := Lib.hid hg
  have KU : Hid (∀ w', Away [] w w' → Calls Tryz.prog 60 #[.agg (csP p ov dv)] w' fun E w'' => E = .returned (.bool (uncutP p)) ∧ Away [] w' w'') := fun w' h => uncut_c p ov dv w' (hp.on h) (hg.on h)
  have KI : Hid (∀ w', Away [] w w' → Calls Tryz.prog 62 #[.agg (csP p ov dv), .int .i64 m] w' fun E w'' => E = .returned (.bool (fitsP p m)) ∧ Away [] w' w'') := fun w' h => fits_c p ov dv m w' (hp.on h) (hg.on h)
  have KO : Hid (∀ w', Away [] w w' → Calls Tryz.prog 63 #[.agg (csP p ov dv)] w' fun E w'' => OwnOut w' p E w'') := fun w' h => copyP_c p ov dv w' (hp.on h)
  have HW := Lib.hid hp.wf
  clear hp hg
  go_enter Tryz.func35, Tryz.ntmps35
  go_wp2_with (refine wpList_box28 rfl _ rfl p _ _ rfl ?_; refine Hid.out ?_)
  refine Lib.hid ?_
  intro g w1 hg1 hb haw
  have HA : Hid (Away [] w w1) := haw
  have HB : Hid (BoxP w1 g p ov dv) := hb
  have hlg := hb.lt
  have hs1 := haw.size
  clear hb haw
  go_wp2_with (refine wpList_load28 rfl _ rfl g rfl p _ _ (by exact HB.out) HAD.out ?_)
  refine (KU.out _ HA.out).mono ?_
  rintro E w2 ⟨rfl, haw⟩
  replace HB := Lib.hid (HB.out.on haw)
  replace HA := Lib.hid (HA.out.next haw (by simp))
  have hs2 := haw.size
  clear haw KU
  have c0 := (HB.out.cells HAD.out).v
  obtain ⟨bu, hbu⟩ : ∃ bu, bu = uncutP p := ⟨_, rfl⟩
  have HBU := Lib.hid hbu
  rw [← hbu]
  clear hbu
  cases bu
  · have HN : Hid (cutP p m id = ([], 1)) := cut_not (by rw [← HBU.out]; rfl)
    go_wp2_with fail
    go_ret2
    exact ⟨_, [], by rw [HN.out]; rfl, Cuts.nil _ _, by rw [HN.out]; rfl, HA.out⟩
  obtain ⟨bm, hbm⟩ : ∃ bm, bm = mtuP m p.v := ⟨_, rfl⟩
  have HBM := Lib.hid hbm
  have KM : Hid (∀ w', Calls Tryz.prog 61 #[.int .i64 m, .int .i64 p.v] w' fun E w'' => E = .returned (.bool bm) ∧ w'' = w') := fun w' => by rw [hbm]; exact mtu_c m p.v w'
  clear hbm
  go_wp2_with fail
  refine (KM.out _).mono ?_
  rintro E _ ⟨rfl, rfl⟩
  clear KM
  cases bm
  · have HN : Hid (cutP p m id = ([], 1)) := cut_not (by rw [← HBM.out]; simp)
    go_wp2_with fail
    go_ret2
    exact ⟨_, [], by rw [HN.out]; rfl, Cuts.nil _ _, by rw [HN.out]; rfl, HA.out⟩
  have HCU : Hid (cutP p m id = (if fitsP p m = true then ([p], 0) else if p.df = true then ([], 100) else (cutL p m id, 0))) := by
    show _ = _
    unfold cutP; rw [← HBU.out, ← HBM.out]; rfl
  go_wp2_with (refine wpList_load28 rfl _ rfl g rfl p _ _ (by exact HB.out) HAD.out ?_)
  refine (KI.out _ HA.out).mono ?_
  rintro E w3 ⟨rfl, haw⟩
  replace HB := Lib.hid (HB.out.on haw)
  replace HA := Lib.hid (HA.out.next haw (by simp))
  have hs3 := haw.size
  clear haw KI c0
  obtain ⟨bf, hbf⟩ : ∃ bf, bf = fitsP p m := ⟨_, rfl⟩
  have HBF := Lib.hid hbf
  rw [← hbf]
  clear hbf
  cases bf
  · have c40 := (HB.out.cells HAD.out).df
    rw [← HBF.out, if_neg (by simp)] at HCU
    generalize hdf : p.df = df at c40
    have HDF := Lib.hid hdf
    clear hdf
    rw [HDF.out] at HCU
    cases df
    · have KPC : Hid (∀ w', Away [] w w' → Calls Tryz.prog 64 #[.agg (csP p ov dv), .int .i64 m, .int .u32 id] w' fun E w'' => ∃ v xs, E = .returned v ∧ Cuts w'' w'.heap.size v xs ∧ xs.map X.p = cutL p m id ∧ Away [] w' w'') := fun w' h => pieces_c p ov dv m id w' (HP.out.on h) (HG.out.on h) ((uncut_iff p).1 HBU.out.symm) HBM.out.symm h0 h1
      go_wp2_with (refine wpList_load28 rfl _ rfl g rfl p _ _ (by exact HB.out) HAD.out ?_)
      refine (KPC.out _ HA.out).mono ?_
      rintro E w4 ⟨v, xs, rfl, hcu, hxm, haw⟩
      have HC4 := Lib.hid (hcu.mono (by omega : w.heap.size ≤ _))
      have HX4 := Lib.hid hxm
      replace HA := Lib.hid (HA.out.next haw (by simp))
      clear hcu hxm haw KPC
      go_wp2_with fail
      go_ret2
      refine ⟨v, xs, by rw [HCU.out]; rfl, HC4.out, by rw [HCU.out]; exact HX4.out, HA.out⟩
    · go_wp2_with fail
      go_ret2
      exact ⟨_, [], by rw [HCU.out]; rfl, Cuts.nil _ _, by rw [HCU.out]; rfl, HA.out⟩
  · rw [← HBF.out, if_pos rfl] at HCU
    go_wp2_with (refine wpList_load28 rfl _ rfl g rfl p _ _ (by exact HB.out) HAD.out ?_)
    refine (KO.out _ HA.out).mono ?_
    rintro E w4 ⟨oq, dq, rfl, hmine, haw⟩
    have HMQ := Lib.hid hmine
    replace HA := Lib.hid (HA.out.next haw (by simp))
    have hs4 := haw.size
    clear hmine haw KO HB
    go_wp2_with (refine wpList_build28 rfl _ rfl p oq dq rfl HAD.out ?_; refine Hid.out ?_)
    refine Lib.hid ?_
    intro gq w5 hgq hbq haw
    have HC5 : Hid (Cuts w5 w.heap.size (.slice (some ⟨gq, 0, none⟩) 1 1) [⟨p, oq, dq⟩]) := Cuts.one hbq HW.out ((HMQ.out.on haw).mono (by omega)) (by omega) (fun k hk => by have := (HMQ.out.lto k hk).1; omega)
    replace HA := Lib.hid (HA.out.next haw (by simp))
    clear hgq hbq haw
    go_wp2_with fail
    go_ret2
    exact ⟨_, _, by rw [HCU.out]; rfl, HC5.out, by rw [HCU.out]; rfl, HA.out⟩
#print axioms cut_c
end Go.Proofs.YtbkeilboneaejaaGreatDoor
