/-
  Noughts appended; bytes copied over bytes.
-/
import Derived.Test.YtkccpidgeecemaaGreatDoorEf9
import Derived.Lib.AppendZerosOnto
import Derived.Lib.AppendZeros
import Derived.Laws.CopyRow
namespace Go.Proofs.YtkccpidgeecemaaGreatDoor
open Go.ChangeShapes Go.WideShapes Go.ChangeAt Go.RowKit
set_option linter.unusedVariables false
set_option linter.unusedSimpArgs false
set_option maxRecDepth 20000
theorem zeros_list (k : Nat) : (Builtin.zeroCells (Value.int .u8 0).cells k).toList = (List.replicate k (0 : Int)).map (Value.int .u8) := by
  unfold Builtin.zeroCells
  simp only [Value.cells, Array.toList_map, Array.toList_range, List.size_toArray, List.length_cons, List.length_nil, Nat.zero_add, Nat.mul_one, List.map_replicate]
  apply List.ext_getElem
  · simp
  · intro i h1 h2
    simp [Nat.mod_one]
theorem run_appZ (ty : TypeId) (w : World) (v : Value) (l : List Int) (hown : Owns w v l) (hb : Bytes l) (k : Nat) (hk : 0 < k) (hlen : l.length + k ≤ 65535) :
    ∃ v' w', (Builtin.append_ #[37, 3] ty #[v, .int .i64 k]).run Tryz.prog w = .ok v' w' ∧ Owns w' v' (l ++ List.replicate k 0) ∧ Away v.ownBlock.toList w w' ∧ Moved w v v' := by
  obtain ⟨i0, hi, hz0, hz1, hz2⟩ := info_parts info5
  have hml : (l.map (Value.int .u8)).length = l.length := by simp
  rcases hown.2 with ⟨rfl, h2⟩ | ⟨g, cap, cur, rfl, hg, hh, hnc, hcm, hcs, htake⟩
  · have hl : l = [] := by simpa using h2
    subst hl
    have hr := Lib.run_append_nil_zeros (P := Tryz.prog) w 37 3 ty 5 i0 _ .i64 .i64 Tryz.underlying37 Tryz.underlying3 hi hz0 k hk (by rw [hz1]; omega) (by simp at hlen; omega) (by rw [hz2]; simp at hlen; omega)
    refine ⟨_, _, hr, ⟨by simp, .inr ⟨w.heap.size, grownCap w k 0 5, _, ?_, Nat.zero_le _, block_new w.drew _, ?_, ?_, ?_, ?_⟩⟩, (Away.refl _ _).drew.alloc _, fun x hx => .inr (by simp [Value.ownBlock] at hx; omega)⟩
    · simp
    · simp; exact grownCap_ge w k 0 5
    · exact grownCap_le_maxLen w k 0 5 (by unfold maxLen; simp at hlen; omega)
    · have := grownCap_ge w k 0 5
      simp [Builtin.zeroCells, Value.cells]; omega
    · rw [Array.toList_append, zeros_list, zeros_list]
      simp
  · simp only [List.length_map, Nat.mul_one] at hnc hcs htake
    by_cases hroom : l.length + k ≤ cap
    · have hst := run_storeCells_at (P := Tryz.prog) g l.length 5 ((List.replicate k (0 : Int)).map (Value.int .u8)) 0 cur w hh (by simp; omega) (by simp [Value.oneCell'])
      have hr : (Builtin.append_ #[37, 3] ty #[.slice (some ⟨g, 0, none⟩) (l.map (Value.int .u8)).length cap, .int .i64 k]).run Tryz.prog w = .ok (.slice (some ⟨g, 0, none⟩) (l.length + k) cap) (w.setRow g (cur.toList.take l.length ++ (List.replicate k (0 : Int)).map (Value.int .u8) ++ cur.toList.drop (l.length + k)).toArray) := by
        have hw : IntKind.i64.wrap (k : Int) = k := by rw [IntKind.wrap_i64]; omega
        have hneg : ¬ ((k : Int) < 0) := by omega
        have h48 : ¬ (281474976710656 < (k : Int) * (i0.bytes : Int)) := by rw [hz2]; omega
        have hns : ¬ (k * i0.size = 0) := by rw [hz1]; omega
        have hrm : (l.map (Value.int .u8)).length + k ≤ cap := by rw [hml]; exact hroom
        have hst' := hst
        simp only [Nat.add_zero, List.length_map, List.length_replicate] at hst'
        have hadd : (⟨g, 0, none⟩ : Addr).add (l.length * 1) = ⟨g, l.length, none⟩ := by rw [add_plain]; simp
        have hz := zeros_list k
        simp [Builtin.append_, run_underlying Tryz.underlying37, run_underlying Tryz.underlying3, sizeOf, typeInfo, zeroValue, hi, hz0, hz1, asInt, asIntOf, hw, hneg, h48, hns, hroom, hadd, hz, hst']
        simp only [List.map_replicate] at hst'
        have hk0 : ¬ (k = 0) := by omega
        have hz2 : (Builtin.zeroCells (Value.int .u8 0).cells k).toList = List.replicate k (.int .u8 0) := by rw [hz]; simp
        have hadd' : (⟨g, 0, none⟩ : Addr).add l.length = ⟨g, l.length, none⟩ := by rw [add_plain]; simp
        simp only [List.append_assoc] at hst'
        simp [hk0, hz2, hadd', hst']
      refine ⟨_, _, hr, ⟨by simp, .inr ⟨g, cap, _, ?_, Nat.zero_le _, setRow_heap w g cur _ 5 _ hh, ?_, hcm, ?_, ?_⟩⟩, (Away.refl _ _).setRow (.inl (by simp [Value.ownBlock])) _, Moved.refl _ _⟩
      · simp
      · simpa using hroom
      · simp; omega
      · rw [htake]
        simp only [List.map_append, Nat.mul_one]
        exact List.take_left' (by simp)
    · have hold : (Builtin.firstCells i0.size l.length (.slice (some ⟨g, 0, none⟩) l.length cap)).run Tryz.prog w.drew = .ok (l.map (Value.int .u8)).toArray w.drew := by
        rw [hz1]
        simp only [Builtin.firstCells, Nat.mul_one]
        have := run_loadCells_list (P := Tryz.prog) w.drew ⟨g, 0, none⟩ (l.map (Value.int .u8)) (fun j u hj => by
          rw [add_plain, Nat.zero_add]
          have : w.drew.cell? ⟨g, j, none⟩ = cur[j]? := cell_of_block (w := w.drew) hh j
          rw [this, ← Array.getElem?_toList, ← hj, ← htake, List.getElem?_take, if_pos (by have := (List.getElem?_eq_some_iff.1 hj).1; simpa using this)])
        simpa using this
      have hr := Lib.run_append_grow_zeros (P := Tryz.prog) w 37 3 ty 5 i0 _ .i64 .i64 Tryz.underlying37 Tryz.underlying3 hi hz0 (some ⟨g, 0, none⟩) l.length cap (l.map (Value.int .u8)) hold k hk (by rw [hz1]; omega) (by omega) (by omega) (by rw [hz2]; omega) (by rw [hz2]; exact growslice_fits (by omega) (by omega))
      rw [hml]
      refine ⟨_, _, hr, ⟨by simp, .inr ⟨w.heap.size, grownCap w (l.length + k) cap 5, _, ?_, Nat.zero_le _, block_new w.drew _, ?_, ?_, ?_, ?_⟩⟩, (Away.refl _ _).drew.alloc _, fun x hx => .inr (by simp [Value.ownBlock] at hx; omega)⟩
      · simp
      · simp; exact grownCap_ge w (l.length + k) cap 5
      · exact grownCap_le_maxLen w (l.length + k) cap 5 (by unfold maxLen; omega)
      · have := grownCap_ge w (l.length + k) cap 5
        simp [Builtin.zeroCells, Value.cells]; omega
      · rw [Array.toList_append, Array.toList_append, zeros_list, zeros_list]
        simp only [List.map_append, Nat.mul_one]
        exact List.take_left' (by simp)
theorem run_copyO (ty : TypeId) (w : World) (a : Option Addr) (n cap : Nat) (d : List Int) (hown : Owns w (.slice a n cap) d) (i m : Nat) (hm : 0 < m) (hi : i + m ≤ d.length) (A : Option Addr) (hA : A = if cap = i then a else a.map (·.add i)) (c : Nat)
    (b : Option Addr) (sn sc : Nat) (xs : List Int) (hx : m ≤ xs.length) (hsn : xs.length = sn) (hr : Row w b xs) :
    ∃ w', (Builtin.copy_ #[37, 37] ty #[.slice A m c, .slice b sn sc]).run Tryz.prog w = .ok (.int .i64 m) w' ∧ Owns w' (.slice a n cap) (over d i (xs.take m)) ∧ Away (Value.slice a n cap).ownBlock.toList w w' := by
  rcases hown.2 with ⟨h1, h2⟩ | ⟨g, cap', cur, he, hg, hh, hnc, hcm, hcs, htake⟩
  · have : d = [] := by simpa using h2
    subst this; simp at hi; omega
  · simp only [Value.slice.injEq, List.length_map] at he
    obtain ⟨rfl, rfl, rfl⟩ := he
    simp only [List.length_map, Nat.mul_one] at hnc hcs htake
    have hA2 : A = some ⟨g, i, none⟩ := by rw [hA, if_neg (by omega)]; simp [add_plain]
    subst hA2
    obtain ⟨bb, bo, rfl, hbc⟩ : ∃ bb bo, b = some ⟨bb, bo, none⟩ ∧ ∀ j, j < xs.length → w.cell? ⟨bb, bo + j, none⟩ = some (.int .u8 (xs[j]?.getD 0)) := by
      rcases hr.2.2 with h | ⟨bb, bo, h1, h2⟩
      · subst h; simp at hx; omega
      · exact ⟨bb, bo, h1, h2⟩
    have hrun := run_copy_row (P := Tryz.prog) w 37 37 ty 5 g i m c ⟨bb, bo, none⟩ sn sc cur 5 ((xs.take m).map (Value.int .u8)) Tryz.underlying37 (by kernel_rfl) hh (by rw [List.length_map, List.length_take]; show min m xs.length = min sn m; omega) (fun j v hj => by
      rw [add_plain]
      have hj' : j < m ∧ j < xs.length := by have := (List.getElem?_eq_some_iff.1 hj).1; simp at this; omega
      rw [hbc j hj'.2, ← hj, List.getElem?_map, List.getElem?_take, if_pos hj'.1, List.getElem?_eq_getElem hj'.2]; rfl) (by simp; omega) (oneCell_bytes _)
    have hlm : ((xs.take m).map (Value.int .u8)).length = m := by simp; omega
    rw [hlm] at hrun
    refine ⟨_, hrun, ⟨by simp, .inr ⟨g, cap, _, ?_, Nat.zero_le _, setRow_heap w g cur _ 5 _ hh, ?_, hcm, ?_, ?_⟩⟩, (Away.refl _ _).setRow (.inl (by simp [Value.ownBlock])) _⟩
    · simp [over]; omega
    · simp [over]; omega
    · simp; omega
    · have hol : (over d i (xs.take m)).length = d.length := over_len (by simp; omega)
      simp only [List.length_map, Nat.mul_one, hol]
      have hct : cur.toList = d.map (Value.int .u8) ++ cur.toList.drop d.length := by rw [← htake]; simp
      rw [hct]
      generalize cur.toList.drop d.length = R
      have hdl : (d.map (Value.int .u8)).length = d.length := by simp
      have hxl : (xs.take m).length = m := by simp; omega
      unfold over
      have e1 : (d.map (Value.int .u8) ++ R).take i = (d.map (Value.int .u8)).take i := List.take_append_of_le_length (by omega)
      have e2 : (d.map (Value.int .u8) ++ R).drop (i + m) = (d.map (Value.int .u8)).drop (i + m) ++ R := List.drop_append_of_le_length (by omega)
      rw [hxl, e1, e2, ← List.append_assoc, List.map_append, List.map_append, List.map_take (l := d), List.map_drop]
      exact List.take_left' (by simp; omega)
end Go.Proofs.YtkccpidgeecemaaGreatDoor
