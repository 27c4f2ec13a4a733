/-
  Addresses as values: the number V and the sixteen bytes; what equality of such values gives; lists of a known length.
-/
import Derived.Test.YtoifolmcdkfniabGreatDoorBase
import Derived.WalkKit
import Derived.OpenShut
import Derived.Laws.BitsAllLaws
import Derived.Deep.QuietTactic
import Derived.BigQuiet
import Derived.BigRegion
import Derived.WalkSmall
import Derived.Laws.Rows
import Derived.ProofKit
import Derived.Below
import Derived.WalkLawsBesides
import Derived.Laws.Cover3
import Derived.ChangeKeysEq
import Derived.Laws.StructEq
namespace Go.Proofs.YtoifolmcdkfniabGreatDoor
open Go.ChangeShapes Go.WideShapes Go.ChangeAt Go.RowKit
set_option linter.unusedVariables false
set_option maxHeartbeats 4000000
set_option maxRecDepth 100000

theorem ret_bool {a b : Bool} (h : a = b) : Ending.returned (.bool a) = .returned (.bool b) := by rw [h]

/-- The cells of an address. -/
def cellsA (v : Int) (l : List Int) : List Value := Value.int .i64 v :: l.map (Value.int .u8)
/-- An address. -/
def ad (v : Int) (l : List Int) : Value := .agg (cellsA v l).toArray
/-- Integers of a kind as an array's value. -/
def arr (k : IntKind) (l : List Int) : Value := .agg (l.map (Value.int k)).toArray

theorem list16 {l : List Int} (h : l.length = 16) : ∃ b0 b1 b2 b3 b4 b5 b6 b7 b8 b9 b10 b11 b12 b13 b14 b15 : Int, l = [b0, b1, b2, b3, b4, b5, b6, b7, b8, b9, b10, b11, b12, b13, b14, b15] := by
  match l, h with
  | [b0, b1, b2, b3, b4, b5, b6, b7, b8, b9, b10, b11, b12, b13, b14, b15], _ => exact ⟨b0, b1, b2, b3, b4, b5, b6, b7, b8, b9, b10, b11, b12, b13, b14, b15, rfl⟩
theorem list8 {l : List Int} (h : l.length = 8) : ∃ b0 b1 b2 b3 b4 b5 b6 b7 : Int, l = [b0, b1, b2, b3, b4, b5, b6, b7] := by
  match l, h with
  | [b0, b1, b2, b3, b4, b5, b6, b7], _ => exact ⟨b0, b1, b2, b3, b4, b5, b6, b7, rfl⟩
theorem list4 {l : List Int} (h : l.length = 4) : ∃ b0 b1 b2 b3 : Int, l = [b0, b1, b2, b3] := by
  match l, h with
  | [b0, b1, b2, b3], _ => exact ⟨b0, b1, b2, b3, rfl⟩

/-! Equality of arrays and addresses. -/
/-- Equal lists, under a name that the walk leaves alone. -/
def eqL (l m : List Int) : Bool := decide (l = m)
theorem eqL_true {l m : List Int} (h : eqL l m = true) : l = m := by simpa [eqL] using h
theorem eqL_false {l m : List Int} (h : eqL l m = false) : l ≠ m := by simpa [eqL] using h
theorem eqL_self (l : List Int) : eqL l l = true := by simp [eqL]
theorem eqL_of_ne {l m : List Int} (h : l ≠ m) : eqL l m = false := by simpa [eqL] using h
theorem part_int (e : TypeId) (k : IntKind) (hu : Tryz.prog.underlying e = some (.int k)) (xs : Array Value) (i : Nat) (n : Int) (h : xs[i]? = some (.int k n)) (w : World) : (part e xs i).run Tryz.prog w = .ok (.int k n) w :=
  run_part_plain w (by simp [Program.plainKey, hu]) h
theorem eqItems_ints (d : Nat) (e : TypeId) (k : IntKind) (hu : Tryz.prog.underlying e = some (.int k)) (l m : List Int) (w : World) : ∀ is : List Nat, (∀ i ∈ is, i < l.length ∧ i < m.length) →
    (Op.eqItems (d + 1) e 1 (l.map (Value.int k)).toArray (m.map (Value.int k)).toArray is).run Tryz.prog w = .ok (is.all fun i => l[i]? == m[i]?) w
  | [], _ => by simp [Op.eqItems]
  | i :: is, h => by
    obtain ⟨h1, h2⟩ := h i (by simp)
    have e1 := part_int e k hu (l.map (Value.int k)).toArray (i * 1) l[i] (by simp [h1]) w
    have e2 := part_int e k hu (m.map (Value.int k)).toArray (i * 1) m[i] (by simp [h2]) w
    have e3 := run_equalIn_int w d e k k l[i] m[i] hu
    simp only [Op.eqItems, Sem.run_bind, e1, e2, e3, Result.andThen_ok]
    have ih := eqItems_ints d e k hu l m w is (fun j hj => h j (by simp [hj]))
    by_cases hb : l[i] = m[i]
    · simp [hb, ih, List.getElem?_eq_getElem h1, List.getElem?_eq_getElem h2]
    · simp [hb, List.getElem?_eq_getElem h1, List.getElem?_eq_getElem h2]
theorem all_range {l m : List Int} {n : Nat} (hl : l.length = n) (hm : m.length = n) : ((List.range n).all fun i => l[i]? == m[i]?) = decide (l = m) := by
  rw [Bool.eq_iff_iff]
  simp only [List.all_eq_true, List.mem_range, beq_iff_eq, decide_eq_true_eq]
  constructor
  · intro h
    apply List.ext_getElem?
    intro i
    rcases Nat.lt_or_ge i n with hi | hi
    · exact h i hi
    · rw [List.getElem?_eq_none (by omega), List.getElem?_eq_none (by omega)]
  · rintro rfl i _
    rfl
theorem equalIn_arr (d : Nat) (t e : TypeId) (n : Nat) (k : IntKind) (ht : Tryz.prog.underlying t = some (.array n e)) (hu : Tryz.prog.underlying e = some (.int k)) (hc : Tryz.prog.cellsOf e = 1) (l m : List Int) (hl : l.length = n) (hm : m.length = n) (w : World) :
    (Op.equalIn (d + 2) t (arr k l) (arr k m)).run Tryz.prog w = .ok (eqL l m) w := by
  obtain ⟨i, hi⟩ := info_of_underlying hu
  unfold arr
  rw [show d + 2 = (d + 1) + 1 from rfl, run_equalIn_array w (d + 1) _ _ ht hi, hc, eqItems_ints d e k hu l m w _ (by intro i hi; simp at hi; omega), all_range hl hm]
  rfl
theorem cells5 : Tryz.prog.cellsOf 5 = 1 := by kernel_rfl
theorem cells53 : Tryz.prog.cellsOf 64 = 1 := by kernel_rfl
theorem cells22 : Tryz.prog.cellsOf 35 = 16 := by kernel_rfl
theorem cells24 : Tryz.prog.cellsOf 37 = 17 := by kernel_rfl
theorem guard24 : Tryz.prog.eqGuardType Tryz.prog.depth 37 = false := by kernel_rfl
theorem guard22 : Tryz.prog.eqGuardType Tryz.prog.depth 35 = false := by kernel_rfl
theorem guard48 : Tryz.prog.eqGuardType Tryz.prog.depth 92 = false := by kernel_rfl
theorem held24 : Tryz.prog.stoodInHeld 37 = false := by kernel_rfl
theorem fields24 : (Tryz.prog.fieldsOf 37).toList.map (fun f => (f.name, f.type, f.offset)) = [("V", 3, 0), ("B", 35, 1)] := by kernel_rfl
end Go.Proofs.YtoifolmcdkfniabGreatDoor
