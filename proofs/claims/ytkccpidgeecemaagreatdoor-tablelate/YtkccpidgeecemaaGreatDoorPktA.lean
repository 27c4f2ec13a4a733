/-
  Packets in memory: boxes, loads and stores of a whole packet at once.
-/
import Derived.Test.YtkccpidgeecemaaGreatDoorBase
import Derived.Deep.WholeRow
import Derived.WalkLawsBesides
import Derived.Laws.Cover3
import Derived.ChangeKeysEq
import Derived.Laws.StructEq
import Derived.Laws.Tables
import Derived.Laws.ResultCell
import Derived.Laws.Externs
import Derived.Lib.Hide
import Derived.Deep.MidRow
import Derived.Laws.CopyRow
namespace Go.Proofs.YtkccpidgeecemaaGreatDoor
open Go.ChangeShapes Go.WideShapes Go.ChangeAt Go.RowKit
set_option linter.unusedVariables false
def New (B : Nat) (v : Value) : Prop := ∀ k, v.ownBlock = some k → B ≤ k
theorem eqnil_some (a : Addr) (n c : Nat) (w : World) : (binOp .eql 37 (.slice (some a) n c) (.slice none 0 0)).run Tryz.prog w = .ok (.bool false) w := by kernel_rfl
theorem eqnil_none (w : World) : (binOp .eql 37 (.slice none 0 0) (.slice none 0 0)).run Tryz.prog w = .ok (.bool true) w := by kernel_rfl
set_option maxHeartbeats 400000 in
theorem clone_any (a : Option Addr) (l : List Int) (cap : Nat) (w : World) (ha : a = none → cap = 0) (hr : Row w a l) :
    Calls Tryz.prog 48 #[.slice a l.length cap] w fun e w' => ∃ v, e = .returned v ∧ Owns w' v l ∧ New w.heap.size v ∧ Away [] w w' := by
  have hlen := hr.1
  rcases a with _ | ad
  · have h0 : l = [] := by rcases hr.2.2 with h | ⟨_, _, h, _⟩ <;> simp_all
    subst h0
    obtain rfl := ha rfl
    have he := eqnil_none
    go_enter Tryz.func48, Tryz.ntmps48
    go_wp2
    go_ret
    exact ⟨_, rfl, Owns.nil _, by simp [New, Value.ownBlock], Away.refl _ _⟩
  · have hr2 : Row (w.alloc (.cells #[] 5)) (some ad) l := hr.away ((Away.refl [] w).alloc _) (by simp)
    have H1 : Hid (Row (w.alloc (.cells #[] 5)) (some ad) l) := hr2
    have hown : Owns (w.alloc (.cells #[] 5)) (.slice (some ⟨w.heap.size, 0, none⟩) 0 0) [] := World.ownsRow_lit w #[] 0 (Nat.zero_le _) (Nat.zero_le _) rfl
    clear hr hr2
    have he := eqnil_some ad l.length cap
    go_enter Tryz.func48, Tryz.ntmps48
    go_wp2_with (at_builtin; refine wpList_app rfl _ _ rfl _ [] l rfl hown ad l.length cap rfl rfl H1.out.src (by simpa using hlen) ?_)
    intro v' w2 hown2 hgr hblk
    go_wp2
    go_ret
    refine ⟨v', rfl, by simpa using hown2, fun k hk => ?_, ((Away.refl [] w).alloc _).grown hgr (fun k hk => ?_)⟩
    · rcases hblk k hk with h | h
      · simp [Value.ownBlock] at h; omega
      · have h2 : w.heap.size + 1 ≤ k := by simpa using h
        omega
    · simp [Value.ownBlock] at hk; right; omega
theorem size5 (wx : World) : (sizeOf (Tryz.prog.elem 37)).run Tryz.prog wx = .ok 1 wx := by kernel_rfl
theorem under22 : Tryz.prog.underlying 37 = some (.slice (Tryz.prog.elem 37)) := by kernel_rfl
theorem slice_lh (a A : Option Addr) (len cap k m : Nat) (lo hi : Int) (hA : A = if cap = k then a else a.map (·.add k)) (hlo : lo = k) (hhi : hi = k + m) (hm : k + m ≤ cap) (wx : World) :
    (Instr.sliceAt 37 (.slice a len cap) (some (.int .i64 lo)) (some (.int .i64 hi)) none).run Tryz.prog wx = .ok (.slice A m (cap - k)) wx := by
  subst hlo; subst hhi; subst hA
  rw [run_sliceAt_slice (h := under22), run_slice_lh (ht := under22) (h0 := by omega) (h1 := by omega) (h2 := by omega), size5]
  simp only [Result.andThen, sliced]
  rw [show (k : Int).toNat = k from by omega, show ((k : Int) + m).toNat = k + m from by omega, Nat.mul_one, show k + m - k = m from by omega]
theorem slice_l (a A : Option Addr) (len cap k : Nat) (lo : Int) (hA : A = if cap = k then a else a.map (·.add k)) (hlo : lo = k) (hm : k ≤ len) (wx : World) :
    (Instr.sliceAt 37 (.slice a len cap) (some (.int .i64 lo)) none none).run Tryz.prog wx = .ok (.slice A (len - k) (cap - k)) wx := by
  subst hlo; subst hA
  rw [run_sliceAt_slice (h := under22), run_slice_l (ht := under22) (h0 := by omega) (h1 := by omega), size5]
  simp only [Result.andThen, sliced]
  rw [show (k : Int).toNat = k from by omega, Nat.mul_one]
theorem add_zero (a : Addr) : a.add 0 = a := by simp [Addr.add]
theorem slice_h (a : Option Addr) (len cap m : Nat) (hi : Int) (hhi : hi = m) (hm : m ≤ cap) (wx : World) :
    (Instr.sliceAt 37 (.slice a len cap) none (some (.int .i64 hi)) none).run Tryz.prog wx = .ok (.slice a m cap) wx := by
  subst hhi
  rw [run_sliceAt_slice (h := under22), run_slice_h (ht := under22) (h0 := by omega) (h2 := by omega), size5]
  simp only [Result.andThen, sliced]
  have e : a.map (·.add (0 * 1)) = a := by cases a <;> simp [add_zero]
  rw [show (m : Int).toNat = m from by omega, e, ite_self, Nat.sub_zero, Nat.sub_zero]
theorem New.mono {B C : Nat} {v : Value} (h : New B v) (hc : C ≤ B) : New C v := fun k hk => Nat.le_trans hc (h k hk)
theorem New.moved {B : Nat} {w : World} {v v' : Value} (h : New B v) (hm : Moved w v v') (hB : B ≤ w.heap.size) : New B v' := fun k hk => by
  rcases hm k hk with h1 | h1
  · exact h k h1
  · omega
theorem New.nil (B : Nat) : New B (.slice none 0 0) := by simp [New, Value.ownBlock]
theorem Row.lit (w : World) (m : List Int) (hm : Bytes m) (hl : m.length ≤ 140737488355328) : Row (w.alloc (.cells (m.map (Value.int .u8)).toArray 5)) (some ⟨w.heap.size, 0, none⟩) m := by
  refine ⟨hl, hm, .inr ⟨w.heap.size, 0, rfl, fun i hi => ?_⟩⟩
  have := lit_cells w m w.heap.size rfl i (.int .u8 (m[i]?.getD 0)) (by simp [hi])
  rwa [add_plain] at this
structure Glob (w : World) : Prop where
  c0 : w.cell? ⟨0, 0, none⟩ = some (.int .i64 0)
  c1 : w.cell? ⟨0, 1, none⟩ = some (.int .i64 1)
  c2 : w.cell? ⟨0, 2, none⟩ = some (.int .i64 2)
theorem Glob.pos {w : World} (h : Glob w) : 0 < w.heap.size := block_lt_of_cell h.c0
theorem Glob.away {S : List Nat} {w w' : World} (h : Glob w) (hw : Away S w w') (hS : 0 ∉ S) : Glob w' := ⟨hw.cell hS h.c0, hw.cell hS h.c1, hw.cell hS h.c2⟩
theorem Glob.on {w w' : World} (h : Glob w) (hw : Away [] w w') : Glob w' := h.away hw (by simp)
theorem Glob.drewN {w : World} (h : Glob w) (n : Nat) : Glob (w.drewN n) := ⟨h.c0, h.c1, h.c2⟩
def shapeP (k : Int) : Int := if k < 2 then k else 2
set_option maxHeartbeats 400000 in
theorem shape_c (k : Int) (w : World) (hk : 0 ≤ k) (hg : Glob w) : Calls Tryz.prog 75 #[.int .i64 k] w fun E w' => E = .returned (.int .i64 (shapeP k)) ∧ w' = w := by
  obtain ⟨c0, c1, c2⟩ := hg
  by_cases h : k < 2
  · have hs : shapeP k = k := by unfold shapeP; rw [if_pos h]
    rw [hs]
    obtain rfl | rfl : k = 0 ∨ k = 1 := by omega
    · go_enter Tryz.func75, Tryz.ntmps75
      go_wp2
      go_ret
      exact ⟨rfl, rfl⟩
    · go_enter Tryz.func75, Tryz.ntmps75
      go_wp2
      go_ret
      exact ⟨rfl, rfl⟩
  · have hs : shapeP k = 2 := by unfold shapeP; rw [if_neg h]
    rw [hs]
    by_cases h2 : k = 2
    · subst h2
      go_enter Tryz.func75, Tryz.ntmps75
      go_wp2
      go_ret
      exact ⟨rfl, rfl⟩
    · have h3 : 2 < k := by omega
      clear h h2
      go_enter Tryz.func75, Tryz.ntmps75
      go_wp2
      go_ret
      exact ⟨rfl, rfl⟩
set_option maxHeartbeats 400000 in
theorem blank_c (a : Option Addr) (l : List Int) (n cap : Nat) (w : World) (hn : l.length = n) (hr : Row w a l) :
    Calls Tryz.prog 76 #[.slice a n cap] w fun E w' => E = .returned (.bool (zerosP l)) ∧ w' = w := by
  subst hn
  have hlen := hr.1
  have hlb := hr.2.1
  go_enter Tryz.func76, Tryz.ntmps76
  go_wp2_with fail
  go_loopw [7] (fun i wr => ∃ k : Nat, k ≤ l.length ∧ i = .int .i64 k ∧ wr = w ∧ zerosP l = zerosP (l.drop k)) (fun i _ => l.length - (intOf i).toNat)
  case atStart => exact ⟨0, by omega, rfl, rfl, rfl⟩
  case round =>
    obtain ⟨k, hk, rfl, rfl, hz⟩ := hrel
    by_cases hlt : k < l.length
    · rcases hr.2.2 with h0 | ⟨b, off, rfl, hcell⟩
      · rw [h0] at hlt; simp at hlt
      · have c0 := hcell k hlt
        have bx := hlb.getD k
        have HZ : Hid (zerosP l = ((l[k]?.getD 0 == 0) && zerosP (l.drop (k + 1)))) := by
          show _ = _
          rw [hz, List.drop_eq_getElem_cons hlt, zerosP_cons, List.getElem?_eq_getElem hlt]; rfl
        generalize l[k]?.getD 0 = x at *
        clear hcell hz
        by_cases hx : x = 0
        · subst hx
          go_wp2_with fail
          go_roundw
          case rel => exact ⟨k + 1, by omega, by go_num, by trivial, by simpa using HZ.out⟩
          case measure => simp [intOf]; omega
        · go_wp2_with fail
          go_ret
          refine ⟨?_, rfl⟩
          rw [HZ.out]; simp [hx]
    · go_wp2_with fail
      go_ret
      refine ⟨?_, rfl⟩
      rw [hz, List.drop_eq_nil_of_le (by omega)]; rfl
end Go.Proofs.YtkccpidgeecemaaGreatDoor
namespace Go.Proofs.YtkccpidgeecemaaGreatDoor
open Go.ChangeShapes Go.WideShapes Go.ChangeAt Go.RowKit Num
set_option linter.unusedVariables false
set_option maxHeartbeats 4000000
set_option maxRecDepth 100000
set_option maxHeartbeats 4000000
set_option maxRecDepth 100000
theorem ret_bool {a b : Bool} (h : a = b) : Ending.returned (.bool a) = .returned (.bool b) := by rw [h]
def cellsA (v : Int) (l : List Int) : List Value := Value.int .i64 v :: l.map (Value.int .u8)
def ad (v : Int) (l : List Int) : Value := .agg (cellsA v l).toArray
def arr (k : IntKind) (l : List Int) : Value := .agg (l.map (Value.int k)).toArray
theorem list16 {l : List Int} (h : l.length = 16) : ∃ b0 b1 b2 b3 b4 b5 b6 b7 b8 b9 b10 b11 b12 b13 b14 b15 : Int, l = [b0, b1, b2, b3, b4, b5, b6, b7, b8, b9, b10, b11, b12, b13, b14, b15] := by
  match l, h with
  | [b0, b1, b2, b3, b4, b5, b6, b7, b8, b9, b10, b11, b12, b13, b14, b15], _ => exact ⟨b0, b1, b2, b3, b4, b5, b6, b7, b8, b9, b10, b11, b12, b13, b14, b15, rfl⟩
/-! Equality of arrays and addresses. -/
def eqL (l m : List Int) : Bool := decide (l = m)
theorem part_int (e : TypeId) (k : IntKind) (hu : Tryz.prog.underlying e = some (.int k)) (xs : Array Value) (i : Nat) (n : Int) (h : xs[i]? = some (.int k n)) (w : World) : (part e xs i).run Tryz.prog w = .ok (.int k n) w :=
  run_part_plain w (by simp [Program.plainKey, hu]) h
theorem eqItems_ints (d : Nat) (e : TypeId) (k : IntKind) (hu : Tryz.prog.underlying e = some (.int k)) (l m : List Int) (w : World) : ∀ is : List Nat, (∀ i ∈ is, i < l.length ∧ i < m.length) →
    (Op.eqItems (d + 1) e 1 (l.map (Value.int k)).toArray (m.map (Value.int k)).toArray is).run Tryz.prog w = .ok (is.all fun i => l[i]? == m[i]?) w
  | [], _ => by simp [Op.eqItems]
  | i :: is, h => by
    obtain ⟨h1, h2⟩ := h i (by simp)
    have e1 := part_int e k hu (l.map (Value.int k)).toArray (i * 1) l[i] (by simp [h1]) w
    have e2 := part_int e k hu (m.map (Value.int k)).toArray (i * 1) m[i] (by simp [h2]) w
    have e3 := run_equalIn_int w d e k k l[i] m[i] hu
    simp only [Op.eqItems, Sem.run_bind, e1, e2, e3, Result.andThen_ok]
    have ih := eqItems_ints d e k hu l m w is (fun j hj => h j (by simp [hj]))
    by_cases hb : l[i] = m[i]
    · simp [hb, ih, List.getElem?_eq_getElem h1, List.getElem?_eq_getElem h2]
    · simp [hb, List.getElem?_eq_getElem h1, List.getElem?_eq_getElem h2]
theorem all_range {l m : List Int} {n : Nat} (hl : l.length = n) (hm : m.length = n) : ((List.range n).all fun i => l[i]? == m[i]?) = decide (l = m) := by
  rw [Bool.eq_iff_iff]
  simp only [List.all_eq_true, List.mem_range, beq_iff_eq, decide_eq_true_eq]
  constructor
  · intro h
    apply List.ext_getElem?
    intro i
    rcases Nat.lt_or_ge i n with hi | hi
    · exact h i hi
    · rw [List.getElem?_eq_none (by omega), List.getElem?_eq_none (by omega)]
  · rintro rfl i _
    rfl
theorem equalIn_arr (d : Nat) (t e : TypeId) (n : Nat) (k : IntKind) (ht : Tryz.prog.underlying t = some (.array n e)) (hu : Tryz.prog.underlying e = some (.int k)) (hc : Tryz.prog.cellsOf e = 1) (l m : List Int) (hl : l.length = n) (hm : m.length = n) (w : World) :
    (Op.equalIn (d + 2) t (arr k l) (arr k m)).run Tryz.prog w = .ok (eqL l m) w := by
  obtain ⟨i, hi⟩ := info_of_underlying hu
  unfold arr
  rw [show d + 2 = (d + 1) + 1 from rfl, run_equalIn_array w (d + 1) _ _ ht hi, hc, eqItems_ints d e k hu l m w _ (by intro i hi; simp at hi; omega), all_range hl hm]
  rfl
theorem cells5 : Tryz.prog.cellsOf 5 = 1 := by kernel_rfl
theorem cells22 : Tryz.prog.cellsOf 33 = 16 := by kernel_rfl
theorem guard24 : Tryz.prog.eqGuardType Tryz.prog.depth 35 = false := by kernel_rfl
theorem guard48 : Tryz.prog.eqGuardType Tryz.prog.depth 120 = false := by kernel_rfl
theorem held24 : Tryz.prog.stoodInHeld 35 = false := by kernel_rfl
theorem fields24 : (Tryz.prog.fieldsOf 35).toList.map (fun f => (f.name, f.type, f.offset)) = [("V", 3, 0), ("B", 33, 1)] := by kernel_rfl
theorem at48 (w : World) (g o : Nat) : (Instr.arrayAt 120 (.slice (some ⟨g, o, none⟩) 12 12)).run Tryz.prog w = .ok (.pointer (some ⟨g, o, none⟩)) w := run_arrayAt w 120 _ 12 _ 12 12 Tryz.underlying120 (by decide)
theorem eq48 (l m : List Int) (hl : l.length = 12) (hm : m.length = 12) (w : World) : (Op.equalIn 10000 120 (arr .u8 l) (arr .u8 m)).run Tryz.prog w = .ok (eqL l m) w := equalIn_arr 9998 120 5 12 .u8 Tryz.underlying120 Tryz.underlying5 cells5 l m hl hm w
theorem loadRow {W : World} {g : Nat} {cs : Array Value} {t : TypeId} {fr : Nat × Nat} (h : W.heap[g]? = some (.cells cs t fr)) (o n : Nat) (r : Array Value) (hr : r.toList = (cs.toList.drop o).take n) (hn : r.size = n) :
    (loadCellsFrom ⟨g, o, none⟩ 0 n #[]).run Tryz.prog W = .ok r W := by
  subst hn
  have := run_loadCells_list (P := Tryz.prog) W ⟨g, o, none⟩ r.toList (fun j v hv => by
    have hadd : (⟨g, o, none⟩ : Addr).add j = ⟨g, o + j, none⟩ := by unfold Addr.add; split <;> simp_all
    rw [hadd]
    rw [hr, List.getElem?_take] at hv
    split at hv
    · rw [List.getElem?_drop] at hv
      simp [World.cell?, h]
      simpa using hv
    · simp at hv)
  simpa [loadCells] using this
def csA (v : Int) (l : List Int) : Array Value := (cellsA v l).toArray
def csB (l : List Int) : Array Value := (l.map (Value.int .u8)).toArray
theorem csA_size {v : Int} {l : List Int} (hl : l.length = 16) : (csA v l).size = 17 := by simp [csA, cellsA, hl]
theorem csA_zero (v : Int) (l : List Int) : (csA v l)[0]? = some (.int .i64 v) := by simp [csA, cellsA]
def BoxA (w : World) (g : Nat) (v : Int) (l : List Int) : Prop := w.heap[g]? = some (.cells (csA v l) 35 (0, 0))
theorem BoxA.lt {w : World} {g : Nat} {v : Int} {l : List Int} (h : BoxA w g v l) : g < w.heap.size := by
  rcases Nat.lt_or_ge g w.heap.size with h' | h'
  · exact h'
  · unfold BoxA at h; rw [Array.getElem?_eq_none h'] at h; simp at h
theorem BoxA.new (w : World) (v : Int) (l : List Int) (g : Nat) (hg : g = w.heap.size) : BoxA (w.alloc (.cells (csA v l) 35)) g v l := by
  subst hg
  exact heap_alloc_new w _
theorem BoxA.all {w : World} {g : Nat} {v : Int} {l : List Int} (h : BoxA w g v l) (hl : l.length = 16) : (loadCellsFrom ⟨g, 0, none⟩ 0 17 #[]).run Tryz.prog w = .ok (csA v l) w :=
  loadRow h 0 17 _ (by simp [csA, cellsA, List.take_of_length_le, hl]) (csA_size hl)
theorem BoxA.bytes {w : World} {g : Nat} {v : Int} {l : List Int} (h : BoxA w g v l) (hl : l.length = 16) : (loadCellsFrom ⟨g, 1, none⟩ 0 16 #[]).run Tryz.prog w = .ok (csB l) w :=
  loadRow h 1 16 _ (by simp [csA, csB, cellsA, List.take_of_length_le, hl]) (by simp [csB, hl])
theorem BoxA.rest {w : World} {g : Nat} {v : Int} {l : List Int} (h : BoxA w g v l) (hl : l.length = 16) : (loadCellsFrom ⟨g, 5, none⟩ 0 12 #[]).run Tryz.prog w = .ok (csB (l.drop 4)) w :=
  loadRow h 5 12 _ (by simp [csA, csB, cellsA, List.take_of_length_le, hl]) (by simp [csB, hl])
theorem BoxA.v {w : World} {g : Nat} {v : Int} {l : List Int} (h : BoxA w g v l) : w.cell? ⟨g, 0, none⟩ = some (.int .i64 v) := by
  unfold BoxA at h
  simp [World.cell?, h, csA, cellsA]
/-! The row of an address in a block, as a number of the world alone: what the walk's loads and stores of an address ask. -/
def rowAt (w : World) (g : Nat) : Option (Array Value) :=
  match w.heap[g]? with
  | some (.cells cs _ fr) => if cs.size = 17 ∧ fr = (0, 0) then some cs else none
  | _ => none
theorem rowAt_some {w : World} {g : Nat} {cs : Array Value} (h : rowAt w g = some cs) : ∃ t, w.heap[g]? = some (.cells cs t (0, 0)) ∧ cs.size = 17 := by
  unfold rowAt at h
  split at h
  · rename_i c t fr hh
    split at h
    · rename_i hc
      obtain rfl : c = cs := by simpa using h
      exact ⟨t, by rw [hh, hc.2], hc.1⟩
    · simp at h
  · simp at h
theorem rowAt_of {w : World} {g : Nat} {cs : Array Value} {t : TypeId} (h : w.heap[g]? = some (.cells cs t (0, 0))) (hs : cs.size = 17) : rowAt w g = some cs := by
  unfold rowAt; rw [h]; simp [hs]
theorem info24 : (Tryz.prog.info? 35).map (·.size) = some 17 := by kernel_rfl
theorem rowAt_new (w : World) (cs : Array Value) (t : TypeId) (hs : cs.size = 17) : rowAt (w.alloc (.cells cs t)) w.heap.size = some cs := rowAt_of (heap_alloc_new w _) hs
theorem wpList_load24 {ops : Array Oper} {rest : List Oper} {o : Oper} {a : Act} {w : World} {Q : Exit → Act → World → Prop} (hw : Region.wanted o (yielded ops a.tmps) = true) (x : Operand) (ho : o.op = .load 35 x)
    (g : Nat) (hx : a.eval x = .pointer (some ⟨g, 0, none⟩)) (cs : Array Value) (hr : rowAt w g = some cs) (h : wpList Tryz.prog ops Q rest (a.put o.dst (.agg cs)) w) : wpList Tryz.prog ops Q (o :: rest) a w := by
  obtain ⟨t, hh, hs⟩ := rowAt_some hr
  exact BigFrame.wpList_want hw fun K hK => wp_load_row 35 x ho g hx t cs (0, 0) _ hh Tryz.underlying35 rfl (by rw [hs]; exact info24) (hK _ _ h)
theorem part_arr (v : Int) (l : List Int) (hl : l.length = 16) (w : World) : (part 33 (csA v l) 1).run Tryz.prog w = .ok (arr .u8 l) w := by
  have e : (csA v l).extract 1 17 = (l.map (Value.int .u8)).toArray := by
    apply Array.ext'
    simp [csA, cellsA, List.take_of_length_le, hl]
  have h22 : (isAgg 33).run Tryz.prog w = .ok true w := by kernel_rfl
  simp [part, h22, e, arr, csA_size hl]
theorem eq24' (d : Nat) (v v' : Int) (l l' : List Int) (hl : l.length = 16) (hl' : l'.length = 16) (w : World) :
    (Op.equalIn (d + 3) 35 (.agg (csA v l)) (.agg (csA v' l'))).run Tryz.prog w = .ok (decide (v = v') && eqL l l') w := by
  have hf : ∃ f1 f2 : Field, (Tryz.prog.fieldsOf 35).toList = [f1, f2] ∧ f1.name ≠ "_" ∧ f2.name ≠ "_" ∧ f1.type = 3 ∧ f2.type = 33 ∧ f1.offset = 0 ∧ f2.offset = 1 := by
    have h := fields24
    generalize (Tryz.prog.fieldsOf 35).toList = fs at h
    rcases fs with _ | ⟨f1, _ | ⟨f2, _ | ⟨f3, fs⟩⟩⟩
    · simp at h
    · simp at h
    · simp at h
      obtain ⟨⟨h1, h2, h3⟩, h4, h5, h6⟩ := h
      exact ⟨f1, f2, rfl, by rw [h1]; decide, by rw [h4]; decide, h2, h5, h3, h6⟩
    · simp at h
  obtain ⟨f1, f2, hfs, hn1, hn2, ht1, ht2, ho1, ho2⟩ := hf
  have p1 := part_int 3 .i64 Tryz.underlying3 (csA v l) 0 v (csA_zero v l) w
  have p2 := part_int 3 .i64 Tryz.underlying3 (csA v' l') 0 v' (csA_zero v' l') w
  have q1 := part_arr v l hl w
  have q2 := part_arr v' l' hl' w
  have e1 := run_equalIn_int w (d + 1) 3 .i64 .i64 v v' Tryz.underlying3
  have e2 := equalIn_arr d 33 5 16 .u8 Tryz.underlying33 Tryz.underlying5 cells5 l l' hl hl' w
  rw [show d + 3 = (d + 2) + 1 from rfl, run_equalIn_struct w (d + 2) 35 _ _ (by kernel_rfl) held24, hfs]
  rw [Op.eqFields, if_pos hn1, ht1, ho1, Sem.run_bind, p1, Result.andThen_ok, Sem.run_bind, p2, Result.andThen_ok, Sem.run_bind, e1, Result.andThen_ok]
  by_cases hv : v = v'
  · subst hv
    rw [if_neg (by simp), Op.eqFields, if_pos hn2, ht2, ho2, Sem.run_bind, q1, Result.andThen_ok, Sem.run_bind, q2, Result.andThen_ok, Sem.run_bind, e2, Result.andThen_ok]
    cases eqL l l'
    · rw [if_pos (by simp)]; simp
    · rw [if_neg (by simp)]; simp [Op.eqFields]
  · rw [if_pos (by simp [hv])]; simp [hv]
theorem eq24 (v v' : Int) (l l' : List Int) (hl : l.length = 16) (hl' : l'.length = 16) (w : World) :
    (Op.equalIn 10000 35 (.agg (csA v l)) (.agg (csA v' l'))).run Tryz.prog w = .ok (decide (v = v') && eqL l l') w := eq24' 9997 v v' l l' hl hl' w
def avalidP (v : Int) (l : List Int) : Bool := if v = 4 then eqL (l.drop 4) z12 else decide (v = 6)
theorem avalid_c (v : Int) (l : List Int) (hl : l.length = 16) (w : World) :
    Calls Tryz.prog 65 #[.agg (csA v l)] w fun e w' => e = .returned (.bool (avalidP v l)) ∧ Below w.heap.size w w' := by
  obtain ⟨b0, b1, b2, b3, b4, b5, b6, b7, b8, b9, b10, b11, b12, b13, b14, b15, rfl⟩ := list16 hl
  have h48 := at48
  have hq := fun w => eq48 [b4, b5, b6, b7, b8, b9, b10, b11, b12, b13, b14, b15] z12 rfl rfl w
  simp only [arr, z12, List.map_cons, List.map_nil] at hq
  have hg := guard48
  simp only [csA, cellsA, List.map_cons, List.map_nil]
  by_cases h4 : v = 4
  · subst h4
    go_enter Tryz.func65, Tryz.ntmps65
    go_wp2
    go_ret
    exact ⟨rfl, (Below.refl _ _).alloc (Nat.le_refl _) _⟩
  · have h4' : decide (v = 4) = false := by simp [h4]
    by_cases h6 : v = 6
    · subst h6
      go_enter Tryz.func65, Tryz.ntmps65
      go_wp2
      go_ret
      refine ⟨?_, (Below.refl _ _).alloc (Nat.le_refl _) _⟩
      simp [avalidP]
    · have h6' : decide (v = 6) = false := by simp [h6]
      go_enter Tryz.func65, Tryz.ntmps65
      go_wp2
      go_ret
      refine ⟨?_, (Below.refl _ _).alloc (Nat.le_refl _) _⟩
      simp [avalidP, h4, h6]
def Sl (w : World) (v : Value) (l : List Int) : Prop := ∃ a cap, v = .slice a l.length cap ∧ l.length ≤ cap ∧ (a = none → cap = 0) ∧ Row w a l
theorem Sl.away {S : List Nat} {w w' : World} {v : Value} {l : List Int} (h : Sl w v l) (hw : Away S w w') (hv : l ≠ [] → ∀ k, v.ownBlock = some k → k ∉ S) : Sl w' v l := by
  obtain ⟨a, cap, rfl, h1, h2, h3⟩ := h
  by_cases hl : l = []
  · subst hl; exact ⟨a, cap, rfl, h1, h2, Row.nil _ _⟩
  · refine ⟨a, cap, rfl, h1, h2, h3.away hw (fun x hx => hv hl _ ?_)⟩
    subst hx; rfl
def Old (B : Nat) (v : Value) (l : List Int) : Prop := l ≠ [] → ∀ k, v.ownBlock = some k → k < B
theorem Old.mono {B C : Nat} {v : Value} {l : List Int} (h : Old B v l) (hc : B ≤ C) : Old C v l := fun hl k hk => Nat.lt_of_lt_of_le (h hl k hk) hc
theorem Sl.old {w : World} {v : Value} {l : List Int} (h : Sl w v l) : Old w.heap.size v l := by
  obtain ⟨a, cap, rfl, h1, h2, h3⟩ := h
  intro hl k hk
  rcases h3.2.2 with h4 | ⟨b, off, rfl, hc⟩
  · exact absurd h4 hl
  · have hk' : b = k := by simpa [Value.ownBlock] using hk
    subst hk'
    exact block_lt_of_cell (hc 0 (List.length_pos_iff.2 hl))
theorem Sl.on {w w' : World} {v : Value} {l : List Int} (h : Sl w v l) (hw : Away [] w w') : Sl w' v l := h.away hw (by simp)
theorem Sl.bytes {w : World} {v : Value} {l : List Int} (h : Sl w v l) : Bytes l ∧ l.length ≤ 140737488355328 := by
  obtain ⟨a, cap, rfl, h1, h2, h3⟩ := h; exact ⟨h3.2.1, h3.1⟩
theorem Sl.nil (w : World) : Sl w (.slice none 0 0) [] := ⟨none, 0, rfl, by simp, by simp, Row.nil _ _⟩
theorem Owns.sl {w : World} {v : Value} {l : List Int} (h : Owns w v l) (hb : Bytes l) (hl : l.length ≤ 140737488355328) : Sl w v l := by
  obtain ⟨a, cap, h1, h2, h3, h4, _⟩ := h.row hl hb
  exact ⟨a, cap, h1, h2, h3, h4⟩
theorem Sl.one {w : World} {v : Value} {l : List Int} (h : Sl w v l) : v.oneCell' = true := by obtain ⟨a, cap, rfl, _⟩ := h; rfl
theorem Sl.of {w : World} {a : Option Addr} {n cap : Nat} {l : List Int} (h : Sl w (.slice a n cap) l) : l.length = n ∧ n ≤ cap ∧ (a = none → cap = 0) ∧ Row w a l := by
  obtain ⟨a', cap', h1, h2, h3, h4⟩ := h
  simp only [Value.slice.injEq] at h1
  obtain ⟨rfl, rfl, rfl⟩ := h1
  exact ⟨rfl, h2, h3, h4⟩
/-! The cells of a packet. -/
def listP (p : Pk) (ov dv : Value) : List Value :=
  Value.int .i64 p.v :: .int .i64 p.tos :: .int .i64 p.flow :: (cellsA p.sv p.sb ++ (cellsA p.dv p.db ++ [.int .i64 p.proto, .int .i64 p.ttl, .int .u32 p.id, .bool p.df, .bool p.more, .bool p.frag, .int .i64 p.off, ov, dv]))
def csP (p : Pk) (ov dv : Value) : Array Value := (listP p ov dv).toArray
def Ad (p : Pk) : Prop := p.sb.length = 16 ∧ p.db.length = 16
theorem Wf.ad {p : Pk} (h : Wf p) : Ad p := ⟨h.sl, h.dl⟩
theorem listP_len {p : Pk} (h : Ad p) (ov dv : Value) : (listP p ov dv).length = 46 := by simp [listP, cellsA, h.1, h.2]
theorem csP_size {p : Pk} (h : Ad p) (ov dv : Value) : (csP p ov dv).size = 46 := by simpa [csP] using listP_len h ov dv
theorem listP_one (p : Pk) (ov dv : Value) (ho : ov.oneCell' = true) (hd : dv.oneCell' = true) : ∀ x ∈ listP p ov dv, x.oneCell' = true := by
  intro x hx
  simp only [listP, cellsA, List.mem_cons, List.mem_append, List.mem_map, List.not_mem_nil, or_false, List.cons_append] at hx
  rcases hx with rfl | rfl | rfl | rfl | ⟨n, _, rfl⟩ | rfl | ⟨n, _, rfl⟩ | rfl | rfl | rfl | rfl | rfl | rfl | rfl | rfl | rfl <;> first | rfl | assumption
theorem csP_one (p : Pk) (ov dv : Value) (ho : ov.oneCell' = true) (hd : dv.oneCell' = true) : (csP p ov dv).all (·.oneCell') = true := by
  simp only [Array.all_eq_true_iff_forall_mem]
  intro x hx
  exact listP_one p ov dv ho hd x (by simpa [csP] using hx)
def BoxP (w : World) (g : Nat) (p : Pk) (ov dv : Value) : Prop := w.heap[g]? = some (.cells (csP p ov dv) 39 (0, 0))
theorem BoxP.away {S : List Nat} {w w' : World} {g : Nat} {p : Pk} {ov dv : Value} (h : BoxP w g p ov dv) (hw : Away S w w') (hg : g ∉ S) : BoxP w' g p ov dv := hw.keep hg h
theorem BoxP.on {w w' : World} {g : Nat} {p : Pk} {ov dv : Value} (h : BoxP w g p ov dv) (hw : Away [] w w') : BoxP w' g p ov dv := h.away hw (by simp)
theorem BoxP.lt {w : World} {g : Nat} {p : Pk} {ov dv : Value} (h : BoxP w g p ov dv) : g < w.heap.size := lt_of_block h
theorem BoxP.free {w : World} {g : Nat} {p : Pk} {ov dv : Value} (h : BoxP w g p ov dv) (i : Nat) : w.frozen? ⟨g, i, none⟩ = false := free_of_block h i
theorem csP_get {p : Pk} (h : Ad p) (ov dv : Value) :
    (csP p ov dv)[0]? = some (.int .i64 p.v) ∧ (csP p ov dv)[1]? = some (.int .i64 p.tos) ∧ (csP p ov dv)[2]? = some (.int .i64 p.flow) ∧ (csP p ov dv)[3]? = some (.int .i64 p.sv) ∧ (csP p ov dv)[20]? = some (.int .i64 p.dv) ∧
    (csP p ov dv)[37]? = some (.int .i64 p.proto) ∧ (csP p ov dv)[38]? = some (.int .i64 p.ttl) ∧ (csP p ov dv)[39]? = some (.int .u32 p.id) ∧ (csP p ov dv)[40]? = some (.bool p.df) ∧ (csP p ov dv)[41]? = some (.bool p.more) ∧ (csP p ov dv)[42]? = some (.bool p.frag) ∧
    (csP p ov dv)[43]? = some (.int .i64 p.off) ∧ (csP p ov dv)[44]? = some ov ∧ (csP p ov dv)[45]? = some dv := by
  obtain ⟨v, tos, flow, sv, sb, dv', db, proto, ttl, id, df, more, frag, off, o, d⟩ := p
  obtain ⟨h1, h2⟩ := h
  simp only at h1 h2
  obtain ⟨b0, b1, b2, b3, b4, b5, b6, b7, b8, b9, b10, b11, b12, b13, b14, b15, rfl⟩ := list16 h1
  obtain ⟨c0, c1, c2, c3, c4, c5, c6, c7, c8, c9, c10, c11, c12, c13, c14, c15, rfl⟩ := list16 h2
  exact ⟨rfl, rfl, rfl, rfl, rfl, rfl, rfl, rfl, rfl, rfl, rfl, rfl, rfl, rfl⟩
structure Cells (w : World) (g : Nat) (p : Pk) (ov dv : Value) : Prop where
  v : w.cell? ⟨g, 0, none⟩ = some (.int .i64 p.v)
  tos : w.cell? ⟨g, 1, none⟩ = some (.int .i64 p.tos)
  flow : w.cell? ⟨g, 2, none⟩ = some (.int .i64 p.flow)
  sv : w.cell? ⟨g, 3, none⟩ = some (.int .i64 p.sv)
  dv' : w.cell? ⟨g, 20, none⟩ = some (.int .i64 p.dv)
  proto : w.cell? ⟨g, 37, none⟩ = some (.int .i64 p.proto)
  ttl : w.cell? ⟨g, 38, none⟩ = some (.int .i64 p.ttl)
  id : w.cell? ⟨g, 39, none⟩ = some (.int .u32 p.id)
  df : w.cell? ⟨g, 40, none⟩ = some (.bool p.df)
  more : w.cell? ⟨g, 41, none⟩ = some (.bool p.more)
  frag : w.cell? ⟨g, 42, none⟩ = some (.bool p.frag)
  off : w.cell? ⟨g, 43, none⟩ = some (.int .i64 p.off)
  o : w.cell? ⟨g, 44, none⟩ = some ov
  d : w.cell? ⟨g, 45, none⟩ = some dv
theorem BoxP.cells {w : World} {g : Nat} {p : Pk} {ov dv : Value} (h : BoxP w g p ov dv) (ha : Ad p) : Cells w g p ov dv := by
  obtain ⟨k0, k1, k2, k3, k4, k5, k6, k7, k8, k9, k10, k11, k12, k13⟩ := csP_get ha ov dv
  have e := cell_of_block h
  exact ⟨by rw [e, k0], by rw [e, k1], by rw [e, k2], by rw [e, k3], by rw [e, k4], by rw [e, k5], by rw [e, k6], by rw [e, k7], by rw [e, k8], by rw [e, k9], by rw [e, k10], by rw [e, k11], by rw [e, k12], by rw [e, k13]⟩
theorem info28 : (Tryz.prog.info? 39).map (·.size) = some 46 := by kernel_rfl
theorem BoxP.srow {w : World} {g : Nat} {p : Pk} {ov dv : Value} (h : BoxP w g p ov dv) : w.rangeAt g 3 (cellsA p.sv p.sb) := by
  intro j x hj
  rw [cell_of_block h]
  have hl : j < (cellsA p.sv p.sb).length := by
    rcases Nat.lt_or_ge j (cellsA p.sv p.sb).length with h | h
    · exact h
    · rw [List.getElem?_eq_none h] at hj; simp at hj
  simp only [csP, listP, List.getElem?_toArray]
  rw [show 3 + j = j + 1 + 1 + 1 from by omega, List.getElem?_cons_succ, List.getElem?_cons_succ, List.getElem?_cons_succ, List.getElem?_append_left hl, hj]
theorem BoxP.drow {w : World} {g : Nat} {p : Pk} {ov dv : Value} (h : BoxP w g p ov dv) (ha : Ad p) : w.rangeAt g 20 (cellsA p.dv p.db) := by
  intro j x hj
  rw [cell_of_block h]
  have hl : j < (cellsA p.dv p.db).length := by
    rcases Nat.lt_or_ge j (cellsA p.dv p.db).length with h | h
    · exact h
    · rw [List.getElem?_eq_none h] at hj; simp at hj
  have hs : (cellsA p.sv p.sb).length = 17 := by simp [cellsA, ha.1]
  simp only [csP, listP, List.getElem?_toArray]
  rw [show 20 + j = j + 17 + 1 + 1 + 1 from by omega, List.getElem?_cons_succ, List.getElem?_cons_succ, List.getElem?_cons_succ, List.getElem?_append_right (by omega), hs, show j + 17 - 17 = j from by omega, List.getElem?_append_left hl, hj]
/-! Steps of a walk. -/
theorem wpList_box28 {ops : Array Oper} {rest : List Oper} {o : Oper} {a : Act} {w : World} {Q : Exit → Act → World → Prop} (hg : o.guard = none) (x : Operand) (ho : o.op = .box 39 x)
    (p : Pk) (ov dv : Value) (hx : a.eval x = .agg (csP p ov dv))
    (h : ∀ g w1, w.heap.size ≤ g → BoxP w1 g p ov dv → Away [] w w1 → wpList Tryz.prog ops Q rest (a.put o.dst (.pointer (some ⟨g, 0, none⟩))) w1) : wpList Tryz.prog ops Q (o :: rest) a w := by
  refine wpList_plain hg fun K hK => ?_
  unfold Oper.wp execOp
  simp only [ho, hx, Sem.run_bind, Instr.box, newVar, newRow, run_newObj_alloc, Sem.run_pure, Result.andThen_ok]
  exact hK _ _ (h w.heap.size _ (Nat.le_refl _) (block_new _ _) ((Away.refl [] w).alloc _))
theorem wpList_load28 {ops : Array Oper} {rest : List Oper} {o : Oper} {a : Act} {w : World} {Q : Exit → Act → World → Prop} (hw : Region.wanted o (yielded ops a.tmps) = true) (x : Operand) (ho : o.op = .load 39 x)
    (g : Nat) (hx : a.eval x = .pointer (some ⟨g, 0, none⟩)) (p : Pk) (ov dv : Value) (hb : BoxP w g p ov dv) (ha : Ad p) (h : wpList Tryz.prog ops Q rest (a.put o.dst (.agg (csP p ov dv))) w) : wpList Tryz.prog ops Q (o :: rest) a w :=
  BigFrame.wpList_want hw fun K hK => wp_load_row 39 x ho g hx 39 _ (0, 0) _ hb Tryz.underlying39 rfl (by rw [csP_size ha]; exact info28) (hK _ _ h)
theorem wpList_load24m {ops : Array Oper} {rest : List Oper} {o : Oper} {a : Act} {w : World} {Q : Exit → Act → World → Prop} (hw : Region.wanted o (yielded ops a.tmps) = true) (x : Operand) (ho : o.op = .load 35 x)
    (g k : Nat) (hx : a.eval x = .pointer (some ⟨g, k, none⟩)) (v : Int) (l : List Int) (hc : w.rangeAt g k (cellsA v l)) (hl : l.length = 16) (h : wpList Tryz.prog ops Q rest (a.put o.dst (.agg (csA v l))) w) : wpList Tryz.prog ops Q (o :: rest) a w :=
  BigFrame.wpList_want hw fun K hK => wp_load_mid 35 x ho g k hx (cellsA v l) _ hc Tryz.underlying35 rfl (by rw [show (cellsA v l).length = 17 from by simp [cellsA, hl]]; exact info24) (hK _ _ h)
theorem zero28 : (Tryz.prog.info? 39).bind (·.zero) = some (.agg (csP zeroPk (.slice none 0 0) (.slice none 0 0))) := by kernel_rfl
theorem wpList_alloc28 {ops : Array Oper} {rest : List Oper} {o : Oper} {a : Act} {w : World} {Q : Exit → Act → World → Prop} (hg : o.guard = none) (ho : o.op = .alloc 39)
    (h : ∀ g w1, w.heap.size ≤ g → BoxP w1 g zeroPk (.slice none 0 0) (.slice none 0 0) → Away [] w w1 → wpList Tryz.prog ops Q rest (a.put o.dst (.pointer (some ⟨g, 0, none⟩))) w1) : wpList Tryz.prog ops Q (o :: rest) a w := by
  have hz : (zeroValue 39).run Tryz.prog w = .ok (.agg (csP zeroPk (.slice none 0 0) (.slice none 0 0))) w := by
    have := zero28
    cases hi : Tryz.prog.info? 39 with
    | none => rw [hi] at this; simp at this
    | some i => rw [hi] at this; simp at this; simp [zeroValue, typeInfo, hi, this]
  refine wpList_plain hg fun K hK => ?_
  unfold Oper.wp execOp
  simp only [ho, Sem.run_bind, Instr.alloc, hz, newVar, newRow, run_newObj_alloc, Sem.run_pure, Result.andThen_ok]
  exact hK _ _ (h w.heap.size _ (Nat.le_refl _) (block_new _ _) ((Away.refl [] w).alloc _))
theorem Away.setRow {S : List Nat} {a w : World} (h : Away S a w) {g : Nat} (hg : g ∈ S ∨ a.heap.size ≤ g) (c : Array Value) : Away S a (w.setRow g c) :=
  ⟨h.os, h.tape, h.output, by simpa [World.setRow] using h.size, fun k hk hn => by
    rw [← h.block k hk hn]; simp [World.setRow, Array.getElem?_modify]; intro e; subst e; rcases hg with hg | hg; exact absurd hg hn; omega⟩
theorem wpList_store28 {ops : Array Oper} {rest : List Oper} {o : Oper} {a : Act} {w : World} {Q : Exit → Act → World → Prop} (hw : Region.wanted o (yielded ops a.tmps) = true) (x y : Operand) (ho : o.op = .store 39 x y)
    (g : Nat) (hx : a.eval x = .pointer (some ⟨g, 0, none⟩)) (p : Pk) (ov dv : Value) (hy : a.eval y = .agg (csP p ov dv)) (q : Pk) (ou du : Value) (hb : BoxP w g q ou du) (ha : Ad p) (hq : Ad q) (h1 : ov.oneCell' = true) (h2 : dv.oneCell' = true)
    (h : ∀ w1, BoxP w1 g p ov dv → Away [g] w w1 → wpList Tryz.prog ops Q rest (a.put o.dst undef) w1) : wpList Tryz.prog ops Q (o :: rest) a w :=
  BigFrame.wpList_want hw fun K hK => wp_store_row 39 x y ho g (csP p ov dv) hx hy 39 (csP q ou du) hb (by rw [csP_size ha]; exact info28) (by rw [csP_size ha, csP_size hq]) (csP_one p ov dv h1 h2) (hK _ _ (h _ (by
    unfold BoxP at hb ⊢; simp [World.setRow, Array.getElem?_modify, hb]) ((Away.refl [g] w).setRow (.inl (by simp)) _)))
theorem result28 {fn : Func} {t : Tmp} (h : fn.results = #[.cell t 39]) (tmps : Array Value) (w : World) (g : Nat) (p : Pk) (ov dv : Value) (ht : tmps.getD t undef = .pointer (some ⟨g, 0, none⟩)) (hb : BoxP w g p ov dv) (ha : Ad p) :
    (results fn tmps).run Tryz.prog w = .ok (.agg (csP p ov dv)) w :=
  results_cell_row h tmps w g 39 (csP p ov dv) (0, 0) _ ht hb Tryz.underlying39 rfl (by rw [csP_size ha]; exact info28)
theorem result28t {fn : Func} {t u : Tmp} (h : fn.results = #[.cell t 39, .tmp u]) (tmps : Array Value) (w : World) (g : Nat) (p : Pk) (ov dv v : Value) (ht : tmps.getD t undef = .pointer (some ⟨g, 0, none⟩)) (hu : tmps.getD u undef = v) (hb : BoxP w g p ov dv) (ha : Ad p) :
    (results fn tmps).run Tryz.prog w = .ok (.tuple #[.agg (csP p ov dv), v]) w := by
  rw [results_cell_tmp h, ht, hu]
  simp only [asAddr, Sem.run_pure, Result.andThen, run_loadVar_row w g 39 39 (csP p ov dv) (0, 0) _ hb Tryz.underlying39 rfl (by rw [csP_size ha]; exact info28)]
/-! Stores of one field. -/
theorem BoxP.put {w : World} {g : Nat} {p q : Pk} {ov dv ou du : Value} (h : BoxP w g p ov dv) (i : Nat) (x : Value) (hx : (csP p ov dv).setIfInBounds i x = csP q ou du) : BoxP (w.setCell ⟨g, i, none⟩ x) g q ou du := by
  unfold BoxP; rw [block_set h, hx]
theorem away_put {w : World} {g : Nat} (i : Nat) (x : Value) : Away [g] w (w.setCell ⟨g, i, none⟩ x) := (Away.refl [g] w).setCell (.inl (by simp)) _
theorem csP_set {p : Pk} (h : Ad p) (ov dv : Value) :
    (∀ n, (csP p ov dv).setIfInBounds 0 (.int .i64 n) = csP { p with v := n } ov dv) ∧ (∀ n, (csP p ov dv).setIfInBounds 1 (.int .i64 n) = csP { p with tos := n } ov dv) ∧ (∀ n, (csP p ov dv).setIfInBounds 2 (.int .i64 n) = csP { p with flow := n } ov dv) ∧
    (∀ n, (csP p ov dv).setIfInBounds 3 (.int .i64 n) = csP { p with sv := n } ov dv) ∧ (∀ n, (csP p ov dv).setIfInBounds 20 (.int .i64 n) = csP { p with dv := n } ov dv) ∧
    (∀ n, (csP p ov dv).setIfInBounds 37 (.int .i64 n) = csP { p with proto := n } ov dv) ∧ (∀ n, (csP p ov dv).setIfInBounds 38 (.int .i64 n) = csP { p with ttl := n } ov dv) ∧ (∀ n, (csP p ov dv).setIfInBounds 39 (.int .u32 n) = csP { p with id := n } ov dv) ∧
    (∀ n, (csP p ov dv).setIfInBounds 40 (.bool n) = csP { p with df := n } ov dv) ∧ (∀ n, (csP p ov dv).setIfInBounds 41 (.bool n) = csP { p with more := n } ov dv) ∧ (∀ n, (csP p ov dv).setIfInBounds 42 (.bool n) = csP { p with frag := n } ov dv) ∧
    (∀ n, (csP p ov dv).setIfInBounds 43 (.int .i64 n) = csP { p with off := n } ov dv) ∧ (∀ (l : List Int) x, (csP p ov dv).setIfInBounds 44 x = csP { p with o := l } x dv) ∧ (∀ (l : List Int) x, (csP p ov dv).setIfInBounds 45 x = csP { p with d := l } ov x) := by
  obtain ⟨v, tos, flow, sv, sb, dv', db, proto, ttl, id, df, more, frag, off, o, d⟩ := p
  obtain ⟨h1, h2⟩ := h
  simp only at h1 h2
  obtain ⟨b0, b1, b2, b3, b4, b5, b6, b7, b8, b9, b10, b11, b12, b13, b14, b15, rfl⟩ := list16 h1
  obtain ⟨c0, c1, c2, c3, c4, c5, c6, c7, c8, c9, c10, c11, c12, c13, c14, c15, rfl⟩ := list16 h2
  exact ⟨fun _ => rfl, fun _ => rfl, fun _ => rfl, fun _ => rfl, fun _ => rfl, fun _ => rfl, fun _ => rfl, fun _ => rfl, fun _ => rfl, fun _ => rfl, fun _ => rfl, fun _ => rfl, fun _ _ => rfl, fun _ _ => rfl⟩
end Go.Proofs.YtkccpidgeecemaaGreatDoor
