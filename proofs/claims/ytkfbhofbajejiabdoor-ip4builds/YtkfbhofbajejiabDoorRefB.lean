/-
  The document's own: Build.
-/
import Derived.Test.YtkfbhofbajejiabDoorRefL2
namespace Go.Proofs.YtkfbhofbajejiabDoor
open Go.ChangeShapes Go.WideShapes Go.ChangeAt Go.RowKit Go.Deep Num
set_option linter.unusedVariables false
set_option maxHeartbeats 4000000
set_option maxRecDepth 100000

theorem rbuild_c (p : Pk) (ov dv : Value) (w : World) (hp : Pkt w p ov dv) :
    Calls Tryd.prog 8 #[.agg (csP p ov dv)] w fun E w' => BuildOut w p E w' := by
  have ha := hp.wf.ad
  have KR : Hid (∀ w', Away [] w w' → Calls Tryd.prog 11 #[.agg (csP p ov dv)] w' fun E w'' => E = .returned (.bool (rightP p)) ∧ Away [] w' w'') := fun w' h => rright_c p ov dv w' (hp.on h)
  have HP : Hid (Pkt w p ov dv) := hp
  obtain ⟨z, hz⟩ : ∃ z, z = rightP p := ⟨_, rfl⟩
  rw [← hz] at KR
  have HZ : Hid (z = rightP p) := hz
  have HAD : Hid (Ad p) := ha
  clear hp hz ha
  go_enter Tryd.func8, Tryd.ntmps8
  go_wp2_with (refine wpList_box28 rfl _ rfl p _ _ rfl ?_; refine Hid.out ?_)
  refine Lib.hid ?_
  intro g w1 hg hb haw
  have HA : Hid (Away [] w w1) := haw
  have HB : Hid (BoxP w1 g p ov dv) := hb
  clear hb haw
  go_wp2_with (refine wpList_load28 rfl _ rfl _ rfl p _ _ (by exact HB.out) HAD.out ?_)
  refine (KR.out _ HA.out).mono ?_
  rintro E w2 ⟨rfl, haw⟩
  have HA2 : Hid (Away [] w w2) := HA.out.next haw (by simp)
  have HB2 : Hid (BoxP w2 g p ov dv) := HB.out.on haw
  clear HA HB haw KR
  cases z
  · go_wp2_with fail
    go_ret2
    exact ⟨_, by rw [build_no HZ.out.symm]; rfl, by rw [build_no HZ.out.symm]; exact Owns.nil _, New.nil _, HA2.out⟩
  · go_wp2_with (refine wpList_load28 rfl _ rfl _ rfl p _ _ (by exact HB2.out) HAD.out ?_)
    refine (rlay_c p ov dv w2 (by exact HP.out.on HA2.out) HZ.out.symm).mono ?_
    rintro E w3 ⟨v3, rfl, ho, hn, haw⟩
    have HO3 := Lib.hid ho
    have HN3 := Lib.hid (hn.mono HA2.out.size)
    have HA3 := Lib.hid (HA2.out.on haw)
    clear ho hn haw HA2 HB2
    go_wp2_with fail
    go_ret2
    exact ⟨_, by rw [build_ok HZ.out.symm]; rfl, by rw [build_ok HZ.out.symm]; exact HO3.out, HN3.out, HA3.out⟩
#print axioms rbuild_c
end Go.Proofs.YtkfbhofbajejiabDoor
