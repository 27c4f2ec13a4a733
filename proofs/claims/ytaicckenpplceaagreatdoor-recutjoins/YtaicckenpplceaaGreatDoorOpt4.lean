/-
  The small functions over one option.
-/
import Derived.Test.YtaicckenpplceaaGreatDoorOpt
namespace Go.Proofs.YtaicckenpplceaaGreatDoor.S4
open Go.ChangeShapes Go.WideShapes Go.ChangeAt Go.RowKit
set_option linter.unusedVariables false

/-! The small functions over one option. -/
def box2 (w : World) (x : V) : World := w.alloc (.cells #[.int .i64 x.kd, .slice x.ba x.b.length x.bc] 95)
set_option maxHeartbeats 1000000 in
theorem right_c (x : V) (w : World) (hl : x.b.length ≤ 140737488355328) (hg : Glob w) :
    Calls Tryz.prog 100 #[x.val] w fun E w' => E = .returned (.bool (rightB x.o)) ∧ Away [] w w' := by
  obtain ⟨kd, ba, bc, b⟩ := x
  simp only [V.val, V.o] at hl ⊢
  have HG : Hid (Glob w) := hg
  clear hg
  by_cases h1 : kd < 1
  · have hR : Hid (rightB (kd, b) = false) := by
      show _ = _
      rw [Bool.eq_false_iff]; intro h; have := (rightB_iff _).1 h; simp only at this; omega
    generalize rightB (kd, b) = R at *
    go_enter Tryz.func100, Tryz.ntmps100
    go_wp2
    go_ret
    exact ⟨by rw [hR.out]; rfl, (Away.refl _ _).alloc _⟩
  · by_cases h2 : 255 < kd
    · have hR : Hid (rightB (kd, b) = false) := by
        show _ = _
        rw [Bool.eq_false_iff]; intro h; have := (rightB_iff _).1 h; simp only at this; omega
      generalize rightB (kd, b) = R at *
      go_enter Tryz.func100, Tryz.ntmps100
      go_wp2
      go_ret
      exact ⟨by rw [hR.out]; rfl, (Away.refl _ _).alloc _⟩
    · by_cases h3 : 38 < b.length
      · have hR : Hid (rightB (kd, b) = false) := by
          show _ = _
          rw [Bool.eq_false_iff]; intro h; have := (rightB_iff _).1 h; simp only at this; omega
        generalize rightB (kd, b) = R at *
        go_enter Tryz.func100, Tryz.ntmps100
        go_wp2
        go_ret
        exact ⟨by rw [hR.out]; rfl, (Away.refl _ _).alloc _⟩
      · by_cases h4 : kd = 1
        · subst h4
          by_cases h5 : b.length = 0
          · have hR : Hid (rightB (1, b) = true) := by
              show _ = _
              rw [rightB_iff]; exact ⟨by simp, by simp, by simp only; omega, fun _ => List.eq_nil_of_length_eq_zero h5⟩
            generalize rightB (1, b) = R at *
            go_enter Tryz.func100, Tryz.ntmps100
            go_wp2_with fail
            refine (shape_c 1 _ (by omega) (by exact HG.out.on ((Away.refl [] w).alloc _))).mono ?_
            rintro E w' ⟨rfl, rfl⟩
            rw [show shapeP 1 = 1 from by decide]
            go_wp2
            go_ret
            exact ⟨by rw [hR.out]; simp, (Away.refl _ _).alloc _⟩
          · have hR : Hid (rightB (1, b) = false) := by
              show _ = _
              rw [Bool.eq_false_iff]; intro h; have := (rightB_iff _).1 h; exact h5 (by rw [show b = [] from this.2.2.2 rfl]; rfl)
            generalize rightB (1, b) = R at *
            go_enter Tryz.func100, Tryz.ntmps100
            go_wp2_with fail
            refine (shape_c 1 _ (by omega) (by exact HG.out.on ((Away.refl [] w).alloc _))).mono ?_
            rintro E w' ⟨rfl, rfl⟩
            rw [show shapeP 1 = 1 from by decide]
            go_wp2
            go_ret
            exact ⟨by rw [hR.out]; simp [h5], (Away.refl _ _).alloc _⟩
        · have hR : Hid (rightB (kd, b) = true) := by
            show _ = _
            rw [rightB_iff]; exact ⟨by simp only; omega, by simp only; omega, by simp only; omega, fun h => absurd h h4⟩
          generalize rightB (kd, b) = R at *
          have hS : shapeP kd = 2 := by unfold shapeP; rw [if_neg (by omega)]
          go_enter Tryz.func100, Tryz.ntmps100
          go_wp2_with fail
          refine (shape_c kd _ (by omega) (by exact HG.out.on ((Away.refl [] w).alloc _))).mono ?_
          rintro E w' ⟨rfl, rfl⟩
          rw [hS]
          go_wp2
          go_ret
          exact ⟨by rw [hR.out]; rfl, (Away.refl _ _).alloc _⟩
set_option maxHeartbeats 400000 in
theorem sizeOf_c (x : V) (w : World) (hl : x.b.length ≤ 140737488355328) (h1 : 1 ≤ x.kd) (hg : Glob w) :
    Calls Tryz.prog 101 #[x.val] w fun E w' => E = .returned (.int .i64 (szP x.o)) ∧ Away [] w w' := by
  obtain ⟨kd, ba, bc, b⟩ := x
  simp only [V.val, V.o] at hl h1 ⊢
  have HG : Hid (Glob w) := hg
  clear hg
  by_cases h4 : kd = 1
  · subst h4
    have hR : Hid (szP (1, b) = 1) := by show _ = _; unfold szP; rw [if_pos rfl]
    generalize szP (1, b) = R at *
    go_enter Tryz.func101, Tryz.ntmps101
    go_wp2_with fail
    refine (shape_c 1 _ (by omega) (by exact HG.out.on ((Away.refl [] w).alloc _))).mono ?_
    rintro E w' ⟨rfl, rfl⟩
    rw [show shapeP 1 = 1 from by decide]
    go_wp2
    go_ret
    exact ⟨by rw [hR.out]; rfl, (Away.refl _ _).alloc _⟩
  · have hR : Hid (szP (kd, b) = 2 + b.length) := by show _ = _; unfold szP; rw [if_neg h4]
    generalize szP (kd, b) = R at *
    have hS : shapeP kd = 2 := by unfold shapeP; rw [if_neg (by omega)]
    go_enter Tryz.func101, Tryz.ntmps101
    go_wp2_with fail
    refine (shape_c kd _ (by omega) (by exact HG.out.on ((Away.refl [] w).alloc _))).mono ?_
    rintro E w' ⟨rfl, rfl⟩
    rw [hS]
    go_wp2
    go_ret
    exact ⟨by rw [hR.out]; apply ret_int; go_num, (Away.refl _ _).alloc _⟩
set_option maxHeartbeats 400000 in
theorem filled_c (n : Nat) (z : Int) (hz : z = n) (w : World) (h : n ≤ 140737488355328) : Calls Tryz.prog 102 #[.int .i64 z] w fun E w' => E = .returned (.int .i64 (fillP n)) ∧ w' = w := by
  subst hz
  go_enter Tryz.func102, Tryz.ntmps102
  go_wp2
  go_ret
  exact ⟨by apply ret_int; unfold fillP; go_num, rfl⟩
#print axioms filled_c
end Go.Proofs.YtaicckenpplceaaGreatDoor.S4
