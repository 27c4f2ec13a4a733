/-
  Addresses: loads, stores, equality; Valid of addr.
-/
import Derived.Test.YtkccpidgeecemaaGreatDoorSlc
import Derived.Deep.WholeRow
import Derived.WalkLawsBesides
import Derived.Laws.Cover3
import Derived.ChangeKeysEq
import Derived.Laws.StructEq
import Derived.Laws.Tables
import Derived.Laws.ResultCell
import Derived.Laws.Externs
import Derived.Lib.Hide
namespace Go.Proofs.YtkccpidgeecemaaGreatDoor
open Go.ChangeShapes Go.WideShapes Go.ChangeAt Go.RowKit Num
set_option linter.unusedVariables false
set_option maxHeartbeats 4000000
set_option maxRecDepth 100000

set_option maxHeartbeats 4000000
set_option maxRecDepth 100000

theorem ret_bool {a b : Bool} (h : a = b) : Ending.returned (.bool a) = .returned (.bool b) := by rw [h]

/-- The cells of an address. -/
def cellsA (v : Int) (l : List Int) : List Value := Value.int .i64 v :: l.map (Value.int .u8)
/-- An address. -/
def ad (v : Int) (l : List Int) : Value := .agg (cellsA v l).toArray
/-- Integers of a kind as an array's value. -/
def arr (k : IntKind) (l : List Int) : Value := .agg (l.map (Value.int k)).toArray

theorem list16 {l : List Int} (h : l.length = 16) : ∃ b0 b1 b2 b3 b4 b5 b6 b7 b8 b9 b10 b11 b12 b13 b14 b15 : Int, l = [b0, b1, b2, b3, b4, b5, b6, b7, b8, b9, b10, b11, b12, b13, b14, b15] := by
  match l, h with
  | [b0, b1, b2, b3, b4, b5, b6, b7, b8, b9, b10, b11, b12, b13, b14, b15], _ => exact ⟨b0, b1, b2, b3, b4, b5, b6, b7, b8, b9, b10, b11, b12, b13, b14, b15, rfl⟩
/-! Equality of arrays and addresses. -/
/-- Equal lists, under a name that the walk leaves alone. -/
def eqL (l m : List Int) : Bool := decide (l = m)
theorem part_int (e : TypeId) (k : IntKind) (hu : Tryz.prog.underlying e = some (.int k)) (xs : Array Value) (i : Nat) (n : Int) (h : xs[i]? = some (.int k n)) (w : World) : (part e xs i).run Tryz.prog w = .ok (.int k n) w :=
  run_part_plain w (by simp [Program.plainKey, hu]) h
theorem eqItems_ints (d : Nat) (e : TypeId) (k : IntKind) (hu : Tryz.prog.underlying e = some (.int k)) (l m : List Int) (w : World) : ∀ is : List Nat, (∀ i ∈ is, i < l.length ∧ i < m.length) →
    (Op.eqItems (d + 1) e 1 (l.map (Value.int k)).toArray (m.map (Value.int k)).toArray is).run Tryz.prog w = .ok (is.all fun i => l[i]? == m[i]?) w
  | [], _ => by simp [Op.eqItems]
  | i :: is, h => by
    obtain ⟨h1, h2⟩ := h i (by simp)
    have e1 := part_int e k hu (l.map (Value.int k)).toArray (i * 1) l[i] (by simp [h1]) w
    have e2 := part_int e k hu (m.map (Value.int k)).toArray (i * 1) m[i] (by simp [h2]) w
    have e3 := run_equalIn_int w d e k k l[i] m[i] hu
    simp only [Op.eqItems, Sem.run_bind, e1, e2, e3, Result.andThen_ok]
    have ih := eqItems_ints d e k hu l m w is (fun j hj => h j (by simp [hj]))
    by_cases hb : l[i] = m[i]
    · simp [hb, ih, List.getElem?_eq_getElem h1, List.getElem?_eq_getElem h2]
    · simp [hb, List.getElem?_eq_getElem h1, List.getElem?_eq_getElem h2]
theorem all_range {l m : List Int} {n : Nat} (hl : l.length = n) (hm : m.length = n) : ((List.range n).all fun i => l[i]? == m[i]?) = decide (l = m) := by
  rw [Bool.eq_iff_iff]
  simp only [List.all_eq_true, List.mem_range, beq_iff_eq, decide_eq_true_eq]
  constructor
  · intro h
    apply List.ext_getElem?
    intro i
    rcases Nat.lt_or_ge i n with hi | hi
    · exact h i hi
    · rw [List.getElem?_eq_none (by omega), List.getElem?_eq_none (by omega)]
  · rintro rfl i _
    rfl
theorem equalIn_arr (d : Nat) (t e : TypeId) (n : Nat) (k : IntKind) (ht : Tryz.prog.underlying t = some (.array n e)) (hu : Tryz.prog.underlying e = some (.int k)) (hc : Tryz.prog.cellsOf e = 1) (l m : List Int) (hl : l.length = n) (hm : m.length = n) (w : World) :
    (Op.equalIn (d + 2) t (arr k l) (arr k m)).run Tryz.prog w = .ok (eqL l m) w := by
  obtain ⟨i, hi⟩ := info_of_underlying hu
  unfold arr
  rw [show d + 2 = (d + 1) + 1 from rfl, run_equalIn_array w (d + 1) _ _ ht hi, hc, eqItems_ints d e k hu l m w _ (by intro i hi; simp at hi; omega), all_range hl hm]
  rfl
theorem cells5 : Tryz.prog.cellsOf 5 = 1 := by kernel_rfl
theorem cells22 : Tryz.prog.cellsOf 33 = 16 := by kernel_rfl
theorem guard24 : Tryz.prog.eqGuardType Tryz.prog.depth 35 = false := by kernel_rfl
theorem guard48 : Tryz.prog.eqGuardType Tryz.prog.depth 120 = false := by kernel_rfl
theorem held24 : Tryz.prog.stoodInHeld 35 = false := by kernel_rfl
theorem fields24 : (Tryz.prog.fieldsOf 35).toList.map (fun f => (f.name, f.type, f.offset)) = [("V", 3, 0), ("B", 33, 1)] := by kernel_rfl
theorem at48 (w : World) (g o : Nat) : (Instr.arrayAt 120 (.slice (some ⟨g, o, none⟩) 12 12)).run Tryz.prog w = .ok (.pointer (some ⟨g, o, none⟩)) w := run_arrayAt w 120 _ 12 _ 12 12 Tryz.underlying120 (by decide)
theorem eq48 (l m : List Int) (hl : l.length = 12) (hm : m.length = 12) (w : World) : (Op.equalIn 10000 120 (arr .u8 l) (arr .u8 m)).run Tryz.prog w = .ok (eqL l m) w := equalIn_arr 9998 120 5 12 .u8 Tryz.underlying120 Tryz.underlying5 cells5 l m hl hm w
theorem loadRow {W : World} {g : Nat} {cs : Array Value} {t : TypeId} {fr : Nat × Nat} (h : W.heap[g]? = some (.cells cs t fr)) (o n : Nat) (r : Array Value) (hr : r.toList = (cs.toList.drop o).take n) (hn : r.size = n) :
    (loadCellsFrom ⟨g, o, none⟩ 0 n #[]).run Tryz.prog W = .ok r W := by
  subst hn
  have := run_loadCells_list (P := Tryz.prog) W ⟨g, o, none⟩ r.toList (fun j v hv => by
    have hadd : (⟨g, o, none⟩ : Addr).add j = ⟨g, o + j, none⟩ := by unfold Addr.add; split <;> simp_all
    rw [hadd]
    rw [hr, List.getElem?_take] at hv
    split at hv
    · rw [List.getElem?_drop] at hv
      simp [World.cell?, h]
      simpa using hv
    · simp at hv)
  simpa [loadCells] using this
/-- The cells of an address, as an array. -/
def csA (v : Int) (l : List Int) : Array Value := (cellsA v l).toArray
def csB (l : List Int) : Array Value := (l.map (Value.int .u8)).toArray
theorem csA_size {v : Int} {l : List Int} (hl : l.length = 16) : (csA v l).size = 17 := by simp [csA, cellsA, hl]
theorem csA_zero (v : Int) (l : List Int) : (csA v l)[0]? = some (.int .i64 v) := by simp [csA, cellsA]
/-- An address in a block of its own. -/
def BoxA (w : World) (g : Nat) (v : Int) (l : List Int) : Prop := w.heap[g]? = some (.cells (csA v l) 35 (0, 0))
theorem BoxA.below {w w' : World} {g : Nat} {v : Int} {l : List Int} {B : Nat} (h : BoxA w g v l) (hb : Below B w w') (hg : g < B) : BoxA w' g v l := (hb.block g hg).trans h
theorem BoxA.lt {w : World} {g : Nat} {v : Int} {l : List Int} (h : BoxA w g v l) : g < w.heap.size := by
  rcases Nat.lt_or_ge g w.heap.size with h' | h'
  · exact h'
  · unfold BoxA at h; rw [Array.getElem?_eq_none h'] at h; simp at h
theorem BoxA.new (w : World) (v : Int) (l : List Int) (g : Nat) (hg : g = w.heap.size) : BoxA (w.alloc (.cells (csA v l) 35)) g v l := by
  subst hg
  exact heap_alloc_new w _
theorem BoxA.all {w : World} {g : Nat} {v : Int} {l : List Int} (h : BoxA w g v l) (hl : l.length = 16) : (loadCellsFrom ⟨g, 0, none⟩ 0 17 #[]).run Tryz.prog w = .ok (csA v l) w :=
  loadRow h 0 17 _ (by simp [csA, cellsA, List.take_of_length_le, hl]) (csA_size hl)
theorem BoxA.bytes {w : World} {g : Nat} {v : Int} {l : List Int} (h : BoxA w g v l) (hl : l.length = 16) : (loadCellsFrom ⟨g, 1, none⟩ 0 16 #[]).run Tryz.prog w = .ok (csB l) w :=
  loadRow h 1 16 _ (by simp [csA, csB, cellsA, List.take_of_length_le, hl]) (by simp [csB, hl])
theorem BoxA.rest {w : World} {g : Nat} {v : Int} {l : List Int} (h : BoxA w g v l) (hl : l.length = 16) : (loadCellsFrom ⟨g, 5, none⟩ 0 12 #[]).run Tryz.prog w = .ok (csB (l.drop 4)) w :=
  loadRow h 5 12 _ (by simp [csA, csB, cellsA, List.take_of_length_le, hl]) (by simp [csB, hl])
theorem BoxA.v {w : World} {g : Nat} {v : Int} {l : List Int} (h : BoxA w g v l) : w.cell? ⟨g, 0, none⟩ = some (.int .i64 v) := by
  unfold BoxA at h
  simp [World.cell?, h, csA, cellsA]

/-! The row of an address in a block, as a number of the world alone: what the walk's loads and stores of an address ask. -/
def rowAt (w : World) (g : Nat) : Option (Array Value) :=
  match w.heap[g]? with
  | some (.cells cs _ fr) => if cs.size = 17 ∧ fr = (0, 0) then some cs else none
  | _ => none
theorem rowAt_some {w : World} {g : Nat} {cs : Array Value} (h : rowAt w g = some cs) : ∃ t, w.heap[g]? = some (.cells cs t (0, 0)) ∧ cs.size = 17 := by
  unfold rowAt at h
  split at h
  · rename_i c t fr hh
    split at h
    · rename_i hc
      obtain rfl : c = cs := by simpa using h
      exact ⟨t, by rw [hh, hc.2], hc.1⟩
    · simp at h
  · simp at h
theorem rowAt_of {w : World} {g : Nat} {cs : Array Value} {t : TypeId} (h : w.heap[g]? = some (.cells cs t (0, 0))) (hs : cs.size = 17) : rowAt w g = some cs := by
  unfold rowAt; rw [h]; simp [hs]
theorem info24 : (Tryz.prog.info? 35).map (·.size) = some 17 := by kernel_rfl
theorem rowAt_new (w : World) (cs : Array Value) (t : TypeId) (hs : cs.size = 17) : rowAt (w.alloc (.cells cs t)) w.heap.size = some cs := rowAt_of (heap_alloc_new w _) hs
/-- A load of an address, as a step of a walk (guarded or not). -/
theorem wpList_load24 {ops : Array Oper} {rest : List Oper} {o : Oper} {a : Act} {w : World} {Q : Exit → Act → World → Prop} (hw : Region.wanted o (yielded ops a.tmps) = true) (x : Operand) (ho : o.op = .load 35 x)
    (g : Nat) (hx : a.eval x = .pointer (some ⟨g, 0, none⟩)) (cs : Array Value) (hr : rowAt w g = some cs) (h : wpList Tryz.prog ops Q rest (a.put o.dst (.agg cs)) w) : wpList Tryz.prog ops Q (o :: rest) a w := by
  obtain ⟨t, hh, hs⟩ := rowAt_some hr
  exact BigFrame.wpList_want hw fun K hK => wp_load_row 35 x ho g hx t cs (0, 0) _ hh Tryz.underlying35 rfl (by rw [hs]; exact info24) (hK _ _ h)
theorem part_arr (v : Int) (l : List Int) (hl : l.length = 16) (w : World) : (part 33 (csA v l) 1).run Tryz.prog w = .ok (arr .u8 l) w := by
  have e : (csA v l).extract 1 17 = (l.map (Value.int .u8)).toArray := by
    apply Array.ext'
    simp [csA, cellsA, List.take_of_length_le, hl]
  have h22 : (isAgg 33).run Tryz.prog w = .ok true w := by kernel_rfl
  simp [part, h22, e, arr, csA_size hl]
theorem eq24' (d : Nat) (v v' : Int) (l l' : List Int) (hl : l.length = 16) (hl' : l'.length = 16) (w : World) :
    (Op.equalIn (d + 3) 35 (.agg (csA v l)) (.agg (csA v' l'))).run Tryz.prog w = .ok (decide (v = v') && eqL l l') w := by
  have hf : ∃ f1 f2 : Field, (Tryz.prog.fieldsOf 35).toList = [f1, f2] ∧ f1.name ≠ "_" ∧ f2.name ≠ "_" ∧ f1.type = 3 ∧ f2.type = 33 ∧ f1.offset = 0 ∧ f2.offset = 1 := by
    have h := fields24
    generalize (Tryz.prog.fieldsOf 35).toList = fs at h
    rcases fs with _ | ⟨f1, _ | ⟨f2, _ | ⟨f3, fs⟩⟩⟩
    · simp at h
    · simp at h
    · simp at h
      obtain ⟨⟨h1, h2, h3⟩, h4, h5, h6⟩ := h
      exact ⟨f1, f2, rfl, by rw [h1]; decide, by rw [h4]; decide, h2, h5, h3, h6⟩
    · simp at h
  obtain ⟨f1, f2, hfs, hn1, hn2, ht1, ht2, ho1, ho2⟩ := hf
  have p1 := part_int 3 .i64 Tryz.underlying3 (csA v l) 0 v (csA_zero v l) w
  have p2 := part_int 3 .i64 Tryz.underlying3 (csA v' l') 0 v' (csA_zero v' l') w
  have q1 := part_arr v l hl w
  have q2 := part_arr v' l' hl' w
  have e1 := run_equalIn_int w (d + 1) 3 .i64 .i64 v v' Tryz.underlying3
  have e2 := equalIn_arr d 33 5 16 .u8 Tryz.underlying33 Tryz.underlying5 cells5 l l' hl hl' w
  rw [show d + 3 = (d + 2) + 1 from rfl, run_equalIn_struct w (d + 2) 35 _ _ (by kernel_rfl) held24, hfs]
  rw [Op.eqFields, if_pos hn1, ht1, ho1, Sem.run_bind, p1, Result.andThen_ok, Sem.run_bind, p2, Result.andThen_ok, Sem.run_bind, e1, Result.andThen_ok]
  by_cases hv : v = v'
  · subst hv
    rw [if_neg (by simp), Op.eqFields, if_pos hn2, ht2, ho2, Sem.run_bind, q1, Result.andThen_ok, Sem.run_bind, q2, Result.andThen_ok, Sem.run_bind, e2, Result.andThen_ok]
    cases eqL l l'
    · rw [if_pos (by simp)]; simp
    · rw [if_neg (by simp)]; simp [Op.eqFields]
  · rw [if_pos (by simp [hv])]; simp [hv]
theorem eq24 (v v' : Int) (l l' : List Int) (hl : l.length = 16) (hl' : l'.length = 16) (w : World) :
    (Op.equalIn 10000 35 (.agg (csA v l)) (.agg (csA v' l'))).run Tryz.prog w = .ok (decide (v = v') && eqL l l') w := eq24' 9997 v v' l l' hl hl' w
def avalidP (v : Int) (l : List Int) : Bool := if v = 4 then eqL (l.drop 4) z12 else decide (v = 6)
theorem avalid_c (v : Int) (l : List Int) (hl : l.length = 16) (w : World) :
    Calls Tryz.prog 65 #[.agg (csA v l)] w fun e w' => e = .returned (.bool (avalidP v l)) ∧ Below w.heap.size w w' := by
  obtain ⟨b0, b1, b2, b3, b4, b5, b6, b7, b8, b9, b10, b11, b12, b13, b14, b15, rfl⟩ := list16 hl
  have h48 := at48
  have hq := fun w => eq48 [b4, b5, b6, b7, b8, b9, b10, b11, b12, b13, b14, b15] z12 rfl rfl w
  simp only [arr, z12, List.map_cons, List.map_nil] at hq
  have hg := guard48
  simp only [csA, cellsA, List.map_cons, List.map_nil]
  by_cases h4 : v = 4
  · subst h4
    go_enter Tryz.func65, Tryz.ntmps65
    go_wp2
    go_ret
    exact ⟨rfl, (Below.refl _ _).alloc (Nat.le_refl _) _⟩
  · have h4' : decide (v = 4) = false := by simp [h4]
    by_cases h6 : v = 6
    · subst h6
      go_enter Tryz.func65, Tryz.ntmps65
      go_wp2
      go_ret
      refine ⟨?_, (Below.refl _ _).alloc (Nat.le_refl _) _⟩
      simp [avalidP]
    · have h6' : decide (v = 6) = false := by simp [h6]
      go_enter Tryz.func65, Tryz.ntmps65
      go_wp2
      go_ret
      refine ⟨?_, (Below.refl _ _).alloc (Nat.le_refl _) _⟩
      simp [avalidP, h4, h6]


end Go.Proofs.YtkccpidgeecemaaGreatDoor
