/-
  Equality of addresses.
-/
import Derived.Test.YtoifolmcdkfniabGreatDoorRow
namespace Go.Proofs.YtoifolmcdkfniabGreatDoor
open Go.ChangeShapes Go.WideShapes Go.ChangeAt Go.RowKit
set_option linter.unusedVariables false
set_option maxHeartbeats 4000000
set_option maxRecDepth 100000
/-! Equality of addresses. -/
theorem part_arr (v : Int) (l : List Int) (hl : l.length = 16) (w : World) : (part 35 (csA v l) 1).run Tryz.prog w = .ok (arr .u8 l) w := by
  have e : (csA v l).extract 1 17 = (l.map (Value.int .u8)).toArray := by
    apply Array.ext'
    simp [csA, cellsA, List.take_of_length_le, hl]
  have h22 : (isAgg 35).run Tryz.prog w = .ok true w := by kernel_rfl
  simp [part, h22, e, arr, csA_size hl]
theorem eq24' (d : Nat) (v v' : Int) (l l' : List Int) (hl : l.length = 16) (hl' : l'.length = 16) (w : World) :
    (Op.equalIn (d + 3) 37 (.agg (csA v l)) (.agg (csA v' l'))).run Tryz.prog w = .ok (decide (v = v') && eqL l l') w := by
  have hf : ∃ f1 f2 : Field, (Tryz.prog.fieldsOf 37).toList = [f1, f2] ∧ f1.name ≠ "_" ∧ f2.name ≠ "_" ∧ f1.type = 3 ∧ f2.type = 35 ∧ f1.offset = 0 ∧ f2.offset = 1 := by
    have h := fields24
    generalize (Tryz.prog.fieldsOf 37).toList = fs at h
    rcases fs with _ | ⟨f1, _ | ⟨f2, _ | ⟨f3, fs⟩⟩⟩
    · simp at h
    · simp at h
    · simp at h
      obtain ⟨⟨h1, h2, h3⟩, h4, h5, h6⟩ := h
      exact ⟨f1, f2, rfl, by rw [h1]; decide, by rw [h4]; decide, h2, h5, h3, h6⟩
    · simp at h
  obtain ⟨f1, f2, hfs, hn1, hn2, ht1, ht2, ho1, ho2⟩ := hf
  have p1 := part_int 3 .i64 Tryz.underlying3 (csA v l) 0 v (csA_zero v l) w
  have p2 := part_int 3 .i64 Tryz.underlying3 (csA v' l') 0 v' (csA_zero v' l') w
  have q1 := part_arr v l hl w
  have q2 := part_arr v' l' hl' w
  have e1 := run_equalIn_int w (d + 1) 3 .i64 .i64 v v' Tryz.underlying3
  have e2 := equalIn_arr d 35 5 16 .u8 Tryz.underlying35 Tryz.underlying5 cells5 l l' hl hl' w
  rw [show d + 3 = (d + 2) + 1 from rfl, run_equalIn_struct w (d + 2) 37 _ _ (by kernel_rfl) held24, hfs]
  rw [Op.eqFields, if_pos hn1, ht1, ho1, Sem.run_bind, p1, Result.andThen_ok, Sem.run_bind, p2, Result.andThen_ok, Sem.run_bind, e1, Result.andThen_ok]
  by_cases hv : v = v'
  · subst hv
    rw [if_neg (by simp), Op.eqFields, if_pos hn2, ht2, ho2, Sem.run_bind, q1, Result.andThen_ok, Sem.run_bind, q2, Result.andThen_ok, Sem.run_bind, e2, Result.andThen_ok]
    cases eqL l l'
    · rw [if_pos (by simp)]; simp
    · rw [if_neg (by simp)]; simp [Op.eqFields]
  · rw [if_pos (by simp [hv])]; simp [hv]
theorem eq24 (v v' : Int) (l l' : List Int) (hl : l.length = 16) (hl' : l'.length = 16) (w : World) :
    (Op.equalIn 10000 37 (.agg (csA v l)) (.agg (csA v' l'))).run Tryz.prog w = .ok (decide (v = v') && eqL l l') w := eq24' 9997 v v' l l' hl hl' w
end Go.Proofs.YtoifolmcdkfniabGreatDoor
