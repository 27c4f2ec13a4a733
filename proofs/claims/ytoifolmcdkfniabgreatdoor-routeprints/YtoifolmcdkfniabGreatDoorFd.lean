/-
  The document's Find and ahead.
-/
import Derived.Test.YtoifolmcdkfniabGreatDoorMy
namespace Go.Proofs.YtoifolmcdkfniabGreatDoor
open Go.ChangeShapes Go.WideShapes Go.ChangeAt Go.RowKit
set_option linter.unusedVariables false
set_option linter.unusedSimpArgs false
set_option maxRecDepth 100000

theorem ahead_net {x y : Rt} (hx : Okr x) (hy : Okr y) : ahead x y = if (decide (x.v = y.v) && eqL x.l y.l) = true then decide (x.b < y.b) else lessP x.v x.l y.v y.l := by
  by_cases h : x.v = y.v ∧ x.l = y.l
  · rw [if_pos (by simp [eqL, h.1, h.2])]
    have h1 : lessR x y = false := by unfold lessR; rw [h.1, h.2]; exact less_irr _ _
    have h2 : lessR y x = false := by unfold lessR; rw [h.1, h.2]; exact less_irr _ _
    unfold ahead; rw [h1, h2]; simp
  · rw [if_neg (by simpa [eqL] using h)]
    have := less_one x.v y.v x.l y.l hx.2 hy.2 h
    unfold ahead lessR
    rw [this]
    cases lessP y.v y.l x.v x.l <;> simp
set_option maxHeartbeats 4000000 in
theorem ahead_c (x y : Rt) (hx : Okr x) (hy : Okr y) (w : World) : Calls Tryz.prog 38 #[.agg (csD x), .agg (csD y)] w fun E w' => E = .returned (.bool (ahead x y)) ∧ Away [] w w' := by
  have HX := Lib.hid hx
  have HY := Lib.hid hy
  have HLE := Lib.hid (fun w => rless_c x.v y.v x.l y.l hx.1 hy.1 hx.2 hy.2 w)
  have HN := Lib.hid (ahead_net hx hy)
  obtain ⟨r, hr⟩ : ∃ r, r = ahead x y := ⟨_, rfl⟩
  rw [← hr] at HN ⊢
  obtain ⟨q, hq⟩ : ∃ q, q = (decide (x.v = y.v) && eqL x.l y.l) := ⟨_, rfl⟩
  have hqe := fun w => eqA x.v y.v x.l y.l HX.out.1 HY.out.1 w
  rw [← hq] at hqe HN
  have hgd := guard24
  clear hx hy hr hq
  go_enter Tryz.func38, Tryz.ntmps38
  go_wp2_with (refine wpList_boxE rfl _ rfl x rfl ?_; refine Hid.out ?_)
  refine Lib.hid ?_
  intro g2 w1 hg2 hb haw
  have HA := Lib.hid haw
  have HB := Lib.hid hb
  clear hg2 hb haw
  go_wp2_with (refine wpList_boxE rfl _ rfl y rfl ?_; refine Hid.out ?_)
  refine Lib.hid ?_
  intro g3 w2 hg3 hb haw
  have HA2 := Lib.hid (HA.out.trans haw)
  have HBX := Lib.hid (HB.out.on haw (by simp))
  have HBY := Lib.hid hb
  clear hg3 hb haw HA HB
  have HRX := Lib.hid (range_a HBX.out.range HX.out)
  have HRY := Lib.hid (range_a HBY.out.range HY.out)
  have c1 := range_b HBX.out.range HX.out
  have c2 := range_b HBY.out.range HY.out
  simp only [Nat.zero_add] at c1 c2
  cases q
  · have HF : Hid (r = lessP x.v x.l y.v y.l) := by show _ = _; rw [HN.out]; rfl
    rw [← HF.out] at HLE
    go_wp2_with (first
      | (refine wpList_load32m rfl _ rfl g2 0 rfl x.v x.l HX.out.1 HRX.out ?_)
      | (refine wpList_load32m rfl _ rfl g3 0 rfl y.v y.l HY.out.1 HRY.out ?_)
      | (go_at_call 57; refine (HLE.out _).mono ?_; refine Hid.out ?_))
    refine Lib.hid ?_
    first
      | rintro E w3 rfl hbl
      | rintro E w3 ⟨rfl, hbl⟩
    have HA3 := Lib.hid (HA2.out.trans (Away.of_below hbl))
    clear hbl
    go_wp2_with fail
    go_ret
    exact ⟨rfl, HA3.out⟩
  · have HF : Hid (r = decide (x.b < y.b)) := by show _ = _; rw [HN.out]; rfl
    go_wp2_with (first
      | (refine wpList_load32m rfl _ rfl g2 0 rfl x.v x.l HX.out.1 HRX.out ?_)
      | (refine wpList_load32m rfl _ rfl g3 0 rfl y.v y.l HY.out.1 HRY.out ?_))
    go_ret
    exact ⟨ret_bool HF.out.symm, HA2.out⟩
end Go.Proofs.YtoifolmcdkfniabGreatDoor
