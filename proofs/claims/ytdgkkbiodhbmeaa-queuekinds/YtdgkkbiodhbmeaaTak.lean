/-
  The law's own list of what was taken.
-/
import Derived.Test.YtdgkkbiodhbmeaaRkit
import Derived.Test.YtdgkkbiodhbmeaaKPO
namespace Go.Proofs.Ytdgkkbiodhbmeaa
open Go.ChangeShapes Go.WideShapes Go.ChangeAt Go.RowKit Go.Deep
set_option linter.unusedVariables false
set_option linter.unusedSimpArgs false
set_option maxRecDepth 100000

/-- Integers of a kind as an array's value. -/
def arr (k : IntKind) (l : List Int) : Value := .agg (l.map (Value.int k)).toArray

/-! Equality of arrays and addresses. -/
/-- Equal lists, under a name that the walk leaves alone. -/
def eqL (l m : List Int) : Bool := decide (l = m)
theorem eqL_true {l m : List Int} (h : eqL l m = true) : l = m := by simpa [eqL] using h
theorem eqL_false {l m : List Int} (h : eqL l m = false) : l ≠ m := by simpa [eqL] using h
theorem eqL_self (l : List Int) : eqL l l = true := by simp [eqL]
theorem eqL_of_ne {l m : List Int} (h : l ≠ m) : eqL l m = false := by simpa [eqL] using h
theorem part_int (e : TypeId) (k : IntKind) (hu : Try.prog.underlying e = some (.int k)) (xs : Array Value) (i : Nat) (n : Int) (h : xs[i]? = some (.int k n)) (w : World) : (part e xs i).run Try.prog w = .ok (.int k n) w :=
  run_part_plain w (by simp [Program.plainKey, hu]) h
theorem eqItems_ints (d : Nat) (e : TypeId) (k : IntKind) (hu : Try.prog.underlying e = some (.int k)) (l m : List Int) (w : World) : ∀ is : List Nat, (∀ i ∈ is, i < l.length ∧ i < m.length) →
    (Op.eqItems (d + 1) e 1 (l.map (Value.int k)).toArray (m.map (Value.int k)).toArray is).run Try.prog w = .ok (is.all fun i => l[i]? == m[i]?) w
  | [], _ => by simp [Op.eqItems]
  | i :: is, h => by
    obtain ⟨h1, h2⟩ := h i (by simp)
    have e1 := part_int e k hu (l.map (Value.int k)).toArray (i * 1) l[i] (by simp [h1]) w
    have e2 := part_int e k hu (m.map (Value.int k)).toArray (i * 1) m[i] (by simp [h2]) w
    have e3 := run_equalIn_int w d e k k l[i] m[i] hu
    simp only [Op.eqItems, Sem.run_bind, e1, e2, e3, Result.andThen_ok]
    have ih := eqItems_ints d e k hu l m w is (fun j hj => h j (by simp [hj]))
    by_cases hb : l[i] = m[i]
    · simp [hb, ih, List.getElem?_eq_getElem h1, List.getElem?_eq_getElem h2]
    · simp [hb, List.getElem?_eq_getElem h1, List.getElem?_eq_getElem h2]
theorem all_range {l m : List Int} {n : Nat} (hl : l.length = n) (hm : m.length = n) : ((List.range n).all fun i => l[i]? == m[i]?) = decide (l = m) := by
  rw [Bool.eq_iff_iff]
  simp only [List.all_eq_true, List.mem_range, beq_iff_eq, decide_eq_true_eq]
  constructor
  · intro h
    apply List.ext_getElem?
    intro i
    rcases Nat.lt_or_ge i n with hi | hi
    · exact h i hi
    · rw [List.getElem?_eq_none (by omega), List.getElem?_eq_none (by omega)]
  · rintro rfl i _
    rfl
theorem equalIn_arr (d : Nat) (t e : TypeId) (n : Nat) (k : IntKind) (ht : Try.prog.underlying t = some (.array n e)) (hu : Try.prog.underlying e = some (.int k)) (hc : Try.prog.cellsOf e = 1) (l m : List Int) (hl : l.length = n) (hm : m.length = n) (w : World) :
    (Op.equalIn (d + 2) t (arr k l) (arr k m)).run Try.prog w = .ok (eqL l m) w := by
  obtain ⟨i, hi⟩ := info_of_underlying hu
  unfold arr
  rw [show d + 2 = (d + 1) + 1 from rfl, run_equalIn_array w (d + 1) _ _ ht hi, hc, eqItems_ints d e k hu l m w _ (by intro i hi; simp at hi; omega), all_range hl hm]
  rfl
/-- A variable of k's. -/
def BxO (o : Nat → Nat) (k : Nat) (w : World) (g : Nat) (cs : Array Value) (t : TypeId) : Prop := w.heap[g]? = some (.cells cs t (0, 0)) ∧ o g = k
theorem BxO.keep {o : Nat → Nat} {j k : Nat} {w w' : World} {g : Nat} {cs : Array Value} {t : TypeId} (h : BxO o j w g cs t) (hc : Chg o k w w') (hj : j ≠ k) : BxO (give o w k) j w' g cs t :=
  ⟨hc.keep h.2 hj h.1, by rw [give_old (lt_of_block h.1)]; exact h.2⟩
theorem BxO.at {o : Nat → Nat} {k : Nat} {w : World} {g : Nat} {cs : Array Value} {t : TypeId} (h : BxO o k w g cs t) (i : Nat) : w.cell? ⟨g, i, none⟩ = cs[i]? := cell_of_block h.1 i
theorem BxO.new (o : Nat → Nat) (k : Nat) (w : World) (cs : Array Value) (t : TypeId) : BxO (give o w k) k (w.alloc (.cells cs t)) w.heap.size cs t := ⟨block_new w _, give_new (Nat.le_refl _)⟩
theorem guard43 : Try.prog.eqGuardType Try.prog.depth 43 = false := by kernel_rfl
theorem eq43 (a b : Int) (w : World) : (Op.equalIn 10000 43 (.agg #[.int .i64 a, .int .i64 b]) (.agg #[.int .i64 a, .int .i64 b])).run Try.prog w = .ok true w := by
  have h := equalIn_arr 9998 43 3 2 .i64 Try.underlying43 Try.underlying3 cells3 [a, b] [a, b] rfl rfl w
  rw [eqL_self] at h
  exact h
def encT (p : Int × Int) : List Value := [.int .i64 p.1, .int .i64 p.2]
/-- The thing that a pair is. -/
def thP (p : Int × Int) : Th := ⟨encT p, max p.2 0⟩
def Tk (o : Nat → Nat) (k : Nat) (w : World) (v : Value) (T : List (Int × Int)) : Prop := Lv 43 2 w v T.length (T.flatMap encT) ∧ ∀ x, v.ownBlock = some x → o x = k
theorem Tk.nil (o : Nat → Nat) (k : Nat) (w : World) : Tk o k w (.slice none 0 0) [] := ⟨Lv.nil 43 2 w, by simp [Value.ownBlock]⟩
theorem Tk.keep {o : Nat → Nat} {j k : Nat} {w w' : World} {v : Value} {T : List (Int × Int)} (h : Tk o j w v T) (hc : Chg o k w w') (hj : j ≠ k) : Tk (give o w k) j w' v T :=
  ⟨h.1.keep h.2 hc hj, fun x hx => by rw [give_old (h.1.lt x hx)]; exact h.2 x hx⟩
theorem Tk.shape {o : Nat → Nat} {k : Nat} {w : World} {v : Value} {T : List (Int × Int)} (h : Tk o k w v T) : ∃ a c, v = .slice a T.length c := by
  rcases h.1.shp with ⟨rfl, h1⟩ | ⟨g, c, rfl, h1⟩
  · exact ⟨none, 0, by rw [h1]⟩
  · exact ⟨_, c, rfl⟩
theorem encT_get : ∀ (T : List (Int × Int)) (i : Nat) (p : Int × Int), T[i]? = some p → (T.flatMap encT)[i * 2]? = some (.int .i64 p.1) ∧ (T.flatMap encT)[i * 2 + 1]? = some (.int .i64 p.2)
  | y :: r, 0, x, h => by simp at h; subst h; simp [encT]
  | y :: r, i + 1, x, h => by
    have := encT_get r i x (by simpa using h)
    rw [List.flatMap_cons, List.getElem?_append_right (by simp [encT]; omega), List.getElem?_append_right (by simp [encT]; omega)]
    rw [show (i + 1) * 2 - (encT y).length = i * 2 from by simp [encT]; omega, show (i + 1) * 2 + 1 - (encT y).length = i * 2 + 1 from by simp [encT]; omega]
    exact this
theorem Tk.at {o : Nat → Nat} {k : Nat} {w : World} {v : Value} {T : List (Int × Int)} (h : Tk o k w v T) {i : Nat} {p : Int × Int} (hp : T[i]? = some p) : ∃ g c, v = .slice (some ⟨g, 0, none⟩) T.length c ∧ w.cell? ⟨g, i * 2, none⟩ = some (.int .i64 p.1) ∧ w.cell? ⟨g, i * 2 + 1, none⟩ = some (.int .i64 p.2) := by
  have hi : i < T.length := (List.getElem?_eq_some_iff.1 hp).1
  obtain ⟨h1, h2⟩ := h
  rcases h1.shp with ⟨rfl, h3⟩ | ⟨g, c, rfl, h3⟩
  · omega
  · have h4 := encT_get T i p hp
    exact ⟨g, c, rfl, h1.at (by omega) h4.1, h1.at (by omega) h4.2⟩
theorem info43 : (Try.prog.info? 43).map (fun i => (i.zero, i.size, i.bytes)) = some (some (.agg #[.int .i64 0, .int .i64 0]), 2, 16) := by kernel_rfl
/-- One more, built in new memory. -/
theorem wpList_appT {w w0 : World} {ops : Array Oper} {rest : List Oper} {o : Oper} {a : Act} {Q : Exit → Act → World → Prop} (hgd : o.guard = none) (s t : Operand)
    (ho : o.op = .call { callee := .builtin .append, args := #[s, t], argTypes := #[45, 45] }) (v : Value) (T : List (Int × Int)) (hs : a.eval s = v) {f : Nat → Nat} {k : Nat} (hown : Tk f k w0 v T) (p : Int × Int)
    (hw : w = w0.alloc (.cells #[.int .i64 p.1, .int .i64 p.2] 43)) (ht : a.eval t = .slice (some ⟨w0.heap.size, 0, none⟩) 1 1) (hk : T.length < 8796093021952)
    (h : ∀ v' w', Tk (give f w0 k) k w' v' (T ++ [p]) → Chg f k w0 w' → wpList Try.prog ops Q rest (a.put o.dst v') w') : wpList Try.prog ops Q (o :: rest) a w := by
  obtain ⟨i0, hi, hz0, hz1, hz2⟩ := info_parts info43
  have hac : Away [] w0 w := by rw [hw]; exact (Away.refl [] w0).alloc _
  have hL : Lv 43 2 w v T.length (T.flatMap encT) := hown.1.away hac (by simp)
  obtain ⟨v', w', hrun, r1, r2, r3⟩ := run_appN 45 o.type 43 i0 _ 16 2 Try.underlying45 hi hz0 hz1 hz2 rfl (by decide) w v T.length (T.flatMap encT) hL ⟨w0.heap.size, 0, none⟩ 1 1 (encT p) rfl (fun j u hj => by
    rw [hw, new_cells]; simpa [encT] using hj) (by simp [encT, Value.oneCell']) (by unfold maxLen; omega) (by omega)
  refine wpList_plain hgd fun _ hK => ?_
  unfold Oper.wp
  simp [execOp, ho, resolve, invoke, builtin, hs, ht, hrun, Result.andThen]
  have ha : Away v.ownBlock.toList w0 w' := (hac.mono (by simp)).trans (Away.grow r2)
  refine hK _ _ (h v' w' ⟨?_, fun x hx => ?_⟩ ⟨_, ha, fun x hx => hown.2 x (by simpa using hx)⟩)
  · rw [List.length_append, List.flatMap_append]
    simpa [Lv] using r1
  · rcases r3 x hx with h1 | h1
    · rw [give_old (hown.1.lt x h1)]; exact hown.2 x h1
    · exact give_new (Nat.le_trans hac.size h1)
end Go.Proofs.Ytdgkkbiodhbmeaa
