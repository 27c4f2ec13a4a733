/-
  The functions that only ask an address: Valid, kind4, kind6, width, four.
-/
import Derived.Test.YtoifolmcdkfniabGreatDoorRow
namespace Go.Proofs.YtoifolmcdkfniabGreatDoor
open Go.ChangeShapes Go.WideShapes Go.ChangeAt Go.RowKit
set_option linter.unusedVariables false
set_option maxHeartbeats 4000000
set_option maxRecDepth 100000

def validP (v : Int) (l : List Int) : Bool := if v = 4 then eqL (l.drop 4) z12 else decide (v = 6)
theorem valid_c (v : Int) (l : List Int) (hl : l.length = 16) (w : World) :
    Calls Tryz.prog 31 #[.agg (csA v l)] w fun e w' => e = .returned (.bool (validP v l)) ∧ Below w.heap.size w w' := by
  obtain ⟨b0, b1, b2, b3, b4, b5, b6, b7, b8, b9, b10, b11, b12, b13, b14, b15, rfl⟩ := list16 hl
  have h48 := at48
  have hq := fun w => eq48 [b4, b5, b6, b7, b8, b9, b10, b11, b12, b13, b14, b15] z12 rfl rfl w
  simp only [arr, z12, List.map_cons, List.map_nil] at hq
  have hg := guard48
  simp only [csA, cellsA, List.map_cons, List.map_nil]
  by_cases h4 : v = 4
  · subst h4
    go_enter Tryz.func31, Tryz.ntmps31
    go_wp2
    go_ret
    exact ⟨rfl, (Below.refl _ _).alloc (Nat.le_refl _) _⟩
  · have h4' : decide (v = 4) = false := by simp [h4]
    by_cases h6 : v = 6
    · subst h6
      go_enter Tryz.func31, Tryz.ntmps31
      go_wp2
      go_ret
      refine ⟨?_, (Below.refl _ _).alloc (Nat.le_refl _) _⟩
      simp [validP]
    · have h6' : decide (v = 6) = false := by simp [h6]
      go_enter Tryz.func31, Tryz.ntmps31
      go_wp2
      go_ret
      refine ⟨?_, (Below.refl _ _).alloc (Nat.le_refl _) _⟩
      simp [validP, h4, h6]

theorem width_c (v : Int) (w : World) : Calls Tryz.prog 61 #[.int .i64 v] w fun e w' => e = .returned (.int .i64 (if v = 4 then 32 else 128)) ∧ w' = w := by
  go_enter Tryz.func61, Tryz.ntmps61
  go_wp2
  all_goals (go_ret; refine ⟨ret_int ?_, rfl⟩)
  all_goals simp_all
end Go.Proofs.YtoifolmcdkfniabGreatDoor
