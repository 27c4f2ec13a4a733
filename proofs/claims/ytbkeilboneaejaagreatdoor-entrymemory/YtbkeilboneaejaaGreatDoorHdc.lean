/-
  ip6.Head.
-/
import Derived.Test.YtbkeilboneaejaaGreatDoorRgt6
namespace Go.Proofs.YtbkeilboneaejaaGreatDoor.S6
open Go.ChangeShapes Go.WideShapes Go.ChangeAt Go.RowKit Num
set_option linter.unusedVariables false
set_option maxHeartbeats 4000000
set_option maxRecDepth 100000

theorem head_c (p : Pk) (ov dv : Value) (w : World) (hp : Pkt w p ov dv) :
    Calls Tryz.prog 86 #[.agg (csP p ov dv)] w fun E w' => E = .returned (.int .i64 (headP p)) ∧ Away [] w w' := by
  have ha := hp.wf.ad
  have KF : Hid (∀ w', Away [] w w' → Calls Tryz.prog 71 #[.agg (csP p ov dv)] w' fun E w'' => E = .returned (.bool (rightP p)) ∧ Away [] w' w'') := fun w' h => right_c p ov dv w' (hp.on h)
  have KH : Hid (∀ w', Calls Tryz.prog 94 #[.agg (csP p ov dv)] w' fun E w'' => E = .returned (.int .i64 (hofP p)) ∧ Away [] w' w'') := fun w' => headOf_c p ov dv w' ha
  clear hp
  obtain ⟨z, hz⟩ : ∃ z, z = headP p := ⟨_, rfl⟩
  rw [← hz]
  have HZ : Hid (z = if rightP p = true then (hofP p : Int) else 0) := hz
  clear hz
  go_enter Tryz.func86, Tryz.ntmps86
  go_wp2_with (refine wpList_box28 rfl _ rfl p _ _ rfl ?_; refine Hid.out ?_)
  refine Lib.hid ?_
  intro g w1 hg hb haw
  have HA : Hid (Away [] w w1) := haw
  have HB : Hid (BoxP w1 g p ov dv) := hb
  have HAD : Hid (Ad p) := ha
  clear hb haw hg ha
  go_wp2_with (refine wpList_load28 rfl _ rfl _ rfl p _ _ (by exact HB.out) HAD.out ?_)
  refine (KF.out _ HA.out).mono ?_
  rintro E w2 ⟨rfl, haw⟩
  have HA2 : Hid (Away [] w w2) := HA.out.next haw (by simp)
  have HB2 : Hid (BoxP w2 g p ov dv) := HB.out.on haw
  clear HA HB haw
  generalize rightP p = y at *
  cases y
  · obtain rfl : z = 0 := by rw [HZ.out]; rfl
    go_wp2_with fail
    go_ret
    exact ⟨rfl, HA2.out⟩
  · obtain rfl : z = hofP p := by rw [HZ.out]; rfl
    go_wp2_with (refine wpList_load28 rfl _ rfl _ rfl p _ _ (by exact HB2.out) HAD.out ?_)
    refine (KH.out _).mono ?_
    rintro E w3 ⟨rfl, haw⟩
    have HA3 : Hid (Away [] w w3) := HA2.out.next haw (by simp)
    clear HA2 HB2 haw
    go_wp2_with fail
    go_ret
    exact ⟨rfl, HA3.out⟩
#print axioms head_c
end Go.Proofs.YtbkeilboneaejaaGreatDoor.S6
