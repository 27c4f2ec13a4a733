/-
  Lists of packets in memory.
-/
import Derived.Test.YtkccpidgeecemaaGreatDoorOwnP
import Derived.Test.YtkccpidgeecemaaGreatDoorF6A
namespace Go.Proofs.YtkccpidgeecemaaGreatDoor
open Go.ChangeShapes Go.WideShapes Go.ChangeAt Go.RowKit Num
set_option linter.unusedVariables false
set_option maxHeartbeats 4000000
set_option maxRecDepth 100000
theorem Away.on {a b c : World} (h : Away [] a b) (k : Away [] b c) : Away [] a c := h.next k (by simp)
theorem Row.on {w w' : World} {a : Option Addr} {l : List Int} (h : Row w a l) (hw : Away [] w w') : Row w' a l := h.away hw (by simp)
theorem Owns.on {w w' : World} {v : Value} {l : List Int} (h : Owns w v l) (hw : Away [] w w') : Owns w' v l := h.away hw (by simp)
theorem Pkt.dv {w : World} {p : Pk} {ov dv : Value} (h : Pkt w p ov dv) : dv.oneCell' = true := h.d.one
theorem Pkt.six {w : World} {p : Pk} {ov dv : Value} (h : Pkt w p ov dv) : S6.Pkt w p ov dv := ⟨h.wf, h.o, h.d⟩
theorem Owns.one {w : World} {v : Value} {l : List Int} (h : Owns w v l) : v.oneCell' = true := by
  obtain ⟨a, n, c, rfl⟩ := h.shp; rfl
theorem wpList_new28 {ops : Array Oper} {rest : List Oper} {o o2 : Oper} {a : Act} {w : World} {Q : Exit → Act → World → Prop} (hg : o.guard = none) (ho : o.op = .alloc 39) (hg2 : o2.guard = none) (x y : Operand) (ho2 : o2.op = .store 39 x y)
    (p : Pk) (ov dv : Value) (hx : ∀ g, (a.put o.dst (.pointer (some ⟨g, 0, none⟩))).eval x = .pointer (some ⟨g, 0, none⟩)) (hy : ∀ g, (a.put o.dst (.pointer (some ⟨g, 0, none⟩))).eval y = .agg (csP p ov dv)) (ha : Ad p) (h1 : ov.oneCell' = true) (h2 : dv.oneCell' = true)
    (h : ∀ g w1, w.heap.size ≤ g → BoxP w1 g p ov dv → Away [] w w1 → wpList Tryz.prog ops Q rest ((a.put o.dst (.pointer (some ⟨g, 0, none⟩))).put o2.dst undef) w1) : wpList Tryz.prog ops Q (o :: o2 :: rest) a w :=
  wpList_alloc28 hg ho fun g w1 hg1 hb1 ha1 => wpList_store28 (by simp [Region.wanted, hg2]) x y ho2 g (hx g) p ov dv (hy g) zeroPk _ _ hb1 ha ⟨rfl, rfl⟩ h1 h2 fun w2 hb2 ha2 => h g w2 hg1 hb2 (ha1.next ha2 (fun x hx => .inr (by simp at hx; omega)))
theorem zero_wf : Wf zeroPk := by
  have hz : Bytes z16 := by unfold Bytes z16; decide
  exact ⟨by simp [zeroPk, i64ok], by simp [zeroPk, i64ok], by simp [zeroPk, i64ok], by simp [zeroPk, i64ok], rfl, hz, by simp [zeroPk, i64ok], rfl, hz, by simp [zeroPk, i64ok], by simp [zeroPk, i64ok], by simp [zeroPk], by simp [zeroPk], by simp [zeroPk, i64ok], Bytes.nil, by simp [zeroPk], Bytes.nil, by simp [zeroPk]⟩
structure X where
  p : Pk
  o : Value
  d : Value
def X.cells (x : X) : List Value := listP x.p x.o x.d
def X.ok (w : World) (x : X) : Prop := Pkt w x.p x.o x.d
theorem X.ok.on {w w' : World} {x : X} (h : x.ok w) (hw : Away [] w w') : x.ok w' := Pkt.on h hw
def Pks (w : World) (a : Option Addr) (xs : List X) : Prop :=
  xs.length ≤ 500000000000 ∧ (∀ x ∈ xs, x.ok w) ∧ (xs = [] ∨ ∃ b off, a = some ⟨b, off, none⟩ ∧ ∀ i x, xs[i]? = some x → w.rangeAt b (off + i * 46) x.cells)
theorem range_away {S : List Nat} {w w' : World} (hw : Away S w w') {b o : Nat} {cs : List Value} (hb : b ∉ S) (h : w.rangeAt b o cs) : w'.rangeAt b o cs := fun j v hj => hw.cell hb (h j v hj)
theorem Pks.on {w w' : World} {a : Option Addr} {xs : List X} (h : Pks w a xs) (hw : Away [] w w') : Pks w' a xs := by
  obtain ⟨h1, h2, h3⟩ := h
  refine ⟨h1, fun x hx => (h2 x hx).on hw, ?_⟩
  rcases h3 with h3 | ⟨b, off, rfl, hc⟩
  · exact .inl h3
  · exact .inr ⟨b, off, rfl, fun i x hx => range_away hw (by simp) (hc i x hx)⟩
theorem Pks.nil (w : World) (a : Option Addr) : Pks w a [] := ⟨by simp, by simp, .inl rfl⟩
theorem get_of {α : Type} {xs : List α} {k : Nat} (h : k < xs.length) : ∃ x, xs[k]? = some x ∧ x ∈ xs := ⟨xs[k], List.getElem?_eq_getElem h, List.getElem_mem h⟩
theorem lt_of_get {α : Type} {xs : List α} {k : Nat} {x : α} (h : xs[k]? = some x) : k < xs.length := by
  rcases Nat.lt_or_ge k xs.length with h' | h'
  · exact h'
  · rw [List.getElem?_eq_none h'] at h; simp at h
theorem Pks.at {w : World} {a : Option Addr} {xs : List X} (h : Pks w a xs) {i : Nat} {x : X} (hx : xs[i]? = some x) : ∃ b off, a = some ⟨b, off, none⟩ ∧ w.rangeAt b (off + i * 46) x.cells ∧ x.ok w := by
  rcases h.2.2 with h0 | ⟨b, off, rfl, hc⟩
  · rw [h0] at hx; simp at hx
  · exact ⟨b, off, rfl, hc i x hx, h.2.1 x (List.mem_of_getElem? hx)⟩
def LstP (w : World) (v : Value) (xs : List X) : Prop := w.ownsRow 0 39 46 v xs.length (xs.flatMap X.cells)
theorem flatP_get : ∀ (xs : List X) (i : Nat) (x : X), (∀ x ∈ xs, Ad x.p) → xs[i]? = some x → ∀ j v, x.cells[j]? = some v → (xs.flatMap X.cells)[i * 46 + j]? = some v
  | y :: r, 0, x, hA, h, j, v, hj => by
    simp at h; subst h
    rw [List.flatMap_cons, Nat.zero_mul, Nat.zero_add, List.getElem?_append_left (lt_of_get hj), hj]
  | y :: r, i + 1, x, hA, h, j, v, hj => by
    have := flatP_get r i x (fun z hz => hA z (by simp [hz])) (by simpa using h) j v hj
    have hl : y.cells.length = 46 := listP_len (hA y (by simp)) _ _
    rw [List.flatMap_cons, List.getElem?_append_right (by omega), hl, show (i + 1) * 46 + j - 46 = i * 46 + j from by omega, this]
theorem LstP.away {S : List Nat} {w w' : World} {v : Value} {xs : List X} (h : LstP w v xs) (hw : Away S w w') (ha : ∀ k, v.ownBlock = some k → k ∉ S) : LstP w' v xs := by
  obtain ⟨h1, h2⟩ := h
  refine ⟨h1, ?_⟩
  rcases h2 with h2 | ⟨g, cap, cur, rfl, hg, hh, r⟩
  · exact .inl h2
  · exact .inr ⟨g, cap, cur, rfl, hg, hw.keep (ha g rfl) hh, r⟩
theorem LstP.on {w w' : World} {v : Value} {xs : List X} (h : LstP w v xs) (hw : Away [] w w') : LstP w' v xs := h.away hw (by simp)
theorem LstP.nil (w : World) : LstP w (.slice none 0 0) [] := World.ownsRow_nil _ _ _ _
theorem LstP.lt {w : World} {v : Value} {xs : List X} (h : LstP w v xs) : ∀ k, v.ownBlock = some k → k < w.heap.size := fun k hk => (World.ownsRow.lt h k hk).2
theorem LstP.pks {w : World} {v : Value} {xs : List X} (h : LstP w v xs) (hl : xs.length ≤ 500000000000) (hok : ∀ x ∈ xs, x.ok w) :
    ∃ a cap, v = .slice a xs.length cap ∧ xs.length ≤ cap ∧ (a = none → cap = 0) ∧ Pks w a xs ∧ (∀ p, a = some p → v.ownBlock = some p.block ∧ p.off = 0 ∧ p.spot = none) := by
  have h0 := h
  have hA : ∀ x ∈ xs, Ad x.p := fun x hx => (hok x hx).wf.ad
  rcases h.2 with ⟨rfl, h2⟩ | ⟨g, cap, cur, rfl, hg, hh, hn, hc, hs, ht⟩
  · have : xs = [] := by simpa using h2
    subst this
    exact ⟨none, 0, rfl, Nat.le_refl _, fun _ => rfl, Pks.nil _ _, by simp⟩
  · refine ⟨some ⟨g, 0, none⟩, cap, rfl, hn, by simp, ⟨hl, hok, .inr ⟨g, 0, rfl, fun i x hx j v hj => ?_⟩⟩, by simp [Value.ownBlock]⟩
    have hi := lt_of_get hx
    have hj' : j < 46 := by have := lt_of_get hj; rwa [X.cells, listP_len (hA x (List.mem_of_getElem? hx))] at this
    rw [Nat.zero_add, World.ownsRow.cellAt h0 (i * 46 + j) (by omega)]
    exact flatP_get xs i x hA hx j v hj
theorem flatP_snoc (xs : List X) (x : X) : (xs ++ [x]).flatMap X.cells = xs.flatMap X.cells ++ x.cells := by simp
structure Cuts (w : World) (B : Nat) (v : Value) (xs : List X) : Prop where
  lst : LstP w v xs
  new : New B v
  each : ∀ x ∈ xs, Wf x.p ∧ Mine w B x.p x.o x.d
  far : ∀ x ∈ xs, ∀ k, x.o.ownBlock = some k ∨ x.d.ownBlock = some k → v.ownBlock ≠ some k
  apart : xs.Pairwise (fun x y => ∀ k, x.o.ownBlock = some k ∨ x.d.ownBlock = some k → y.o.ownBlock ≠ some k ∧ y.d.ownBlock ≠ some k)
theorem Cuts.nil (w : World) (B : Nat) : Cuts w B (.slice none 0 0) [] := ⟨LstP.nil w, New.nil B, by simp, by simp, .nil⟩
theorem Cuts.on {w w' : World} {B : Nat} {v : Value} {xs : List X} (h : Cuts w B v xs) (hw : Away [] w w') : Cuts w' B v xs :=
  ⟨h.lst.on hw, h.new, fun x hx => ⟨(h.each x hx).1, (h.each x hx).2.on hw⟩, h.far, h.apart⟩
theorem Cuts.mono {w : World} {B C : Nat} {v : Value} {xs : List X} (h : Cuts w B v xs) (hc : C ≤ B) : Cuts w C v xs :=
  ⟨h.lst, h.new.mono hc, fun x hx => ⟨(h.each x hx).1, (h.each x hx).2.mono hc⟩, h.far, h.apart⟩
theorem Cuts.ok {w : World} {B : Nat} {v : Value} {xs : List X} (h : Cuts w B v xs) : ∀ x ∈ xs, x.ok w := fun x hx => (h.each x hx).2.pkt (h.each x hx).1
theorem Cuts.pks {w : World} {B : Nat} {v : Value} {xs : List X} (h : Cuts w B v xs) (hl : xs.length ≤ 500000000000) :
    ∃ a cap, v = .slice a xs.length cap ∧ xs.length ≤ cap ∧ (a = none → cap = 0) ∧ Pks w a xs ∧ (∀ p, a = some p → v.ownBlock = some p.block ∧ p.off = 0 ∧ p.spot = none) := h.lst.pks hl h.ok
theorem Mine.lto {w : World} {B : Nat} {p : Pk} {ov dv : Value} (h : Mine w B p ov dv) : ∀ k, ov.ownBlock = some k ∨ dv.ownBlock = some k → k < w.heap.size ∧ B ≤ k := fun k hk => by
  rcases hk with hk | hk
  · exact ⟨h.o.lt k hk, h.no k hk⟩
  · exact ⟨h.d.lt k hk, h.nd k hk⟩
theorem Mine.away {S : List Nat} {w w' : World} {B : Nat} {p : Pk} {ov dv : Value} (h : Mine w B p ov dv) (hw : Away S w w') (hS : ∀ k, ov.ownBlock = some k ∨ dv.ownBlock = some k → k ∉ S) : Mine w' B p ov dv :=
  ⟨h.o.away hw (fun k hk => hS k (.inl hk)), h.d.away hw (fun k hk => hS k (.inr hk)), h.no, h.nd, h.ap⟩
/-! Steps. -/
theorem size28 (wx : World) : (sizeOf 39).run Tryz.prog wx = .ok 46 wx := by kernel_rfl
theorem zeros28 (wx : World) : (zeroValue 39).run Tryz.prog wx = .ok (.agg (csP zeroPk (.slice none 0 0) (.slice none 0 0))) wx := by
  have := zero28
  cases hi : Tryz.prog.info? 39 with
  | none => rw [hi] at this; simp at this
  | some i => rw [hi] at this; simp at this; simp [zeroValue, typeInfo, hi, this]
theorem fold_set : ∀ (l : List Value) (k : Nat) (z : List Value), k + l.length = z.length → (l.zipIdx k).foldl (fun (cs : Array Value) (x : Value × Nat) => cs.setIfInBounds (0 * 46 + x.2) x.1) z.toArray = (z.take k ++ l).toArray
  | [], k, z, h => by simp at h; simp [h]
  | c :: l, k, z, h => by
    simp only [List.length_cons] at h
    rw [List.zipIdx_cons, List.foldl_cons]
    have e : z.toArray.setIfInBounds (0 * 46 + k) c = (z.set k c).toArray := by simp
    rw [e, fold_set l (k + 1) (z.set k c) (by rw [List.length_set]; omega)]
    have e2 : (z.set k c).take (k + 1) = z.take k ++ [c] := by
      rw [List.take_succ_eq_append_getElem (by rw [List.length_set]; omega), List.getElem_set_self, List.take_set_of_le (Nat.le_refl _)]
    rw [e2]; simp
theorem fill28 (p : Pk) (ov dv : Value) (ha : Ad p) (z : Array Value) (hz : z.size = 46) : Instr.fill (fun i => some (i * 46, 46)) z [(0, .agg (csP p ov dv))] = some (csP p ov dv) := by
  have hs := csP_size ha ov dv
  have hc : (Value.agg (csP p ov dv)).cells = csP p ov dv := rfl
  unfold Instr.fill
  rw [hc]
  simp only [hs, hz]
  rw [if_neg (by decide)]
  unfold Instr.fill
  obtain ⟨l⟩ := z
  have := fold_set (listP p ov dv) 0 l (by rw [listP_len ha]; simpa using hz.symm)
  simp only [List.take_zero, List.nil_append] at this
  unfold csP
  rw [← Array.foldl_toList, Array.toList_zipIdx]
  exact congrArg some this
theorem run_build28 (w : World) (p : Pk) (ov dv : Value) (ha : Ad p) : (Instr.buildSlice 42 1 #[(0, .agg (csP p ov dv))]).run Tryz.prog w = .ok (.slice (some ⟨w.heap.size, 0, none⟩) 1 1) (w.alloc (.cells (csP p ov dv) 39)) := by
  have hu : Tryz.prog.underlying 42 = some (.slice 39) := Tryz.underlying42
  unfold Instr.buildSlice
  simp only [Sem.run_bind, run_underlying hu, Result.andThen_ok, size28]
  rw [if_neg (by decide), if_neg (by decide)]
  simp only [Sem.run_bind, Result.andThen_ok, zeros28, Sem.run_pure]
  rw [fill28 p ov dv ha _ (by simp)]
  simp only [newRow, Sem.run_bind, run_newObj_alloc, Sem.run_pure, Result.andThen_ok]
theorem wp_build28 {o : Oper} {a : Act} {w : World} {K : Act → World → Prop} {Q : Exit → Act → World → Prop} (x : Operand) (ho : o.op = .buildSlice 42 1 #[(0, x)]) (p : Pk) (ov dv : Value) (hx : a.eval x = .agg (csP p ov dv)) (ha : Ad p)
    (h : ∀ g w1, w.heap.size ≤ g → BoxP w1 g p ov dv → Away [] w w1 → w1 = w.alloc (.cells (csP p ov dv) 39) → g = w.heap.size → K (a.put o.dst (.slice (some ⟨g, 0, none⟩) 1 1)) w1) : Oper.wp Tryz.prog o a w K Q := by
  unfold Oper.wp execOp
  simp only [ho, List.map_toArray, List.map_cons, List.map_nil, hx, run_build28 w p ov dv ha, Sem.run_bind, Result.andThen_ok, Sem.run_pure]
  exact h w.heap.size _ (Nat.le_refl _) (block_new _ _) ((Away.refl [] w).alloc _) rfl rfl
theorem wpList_build28 {ops : Array Oper} {rest : List Oper} {o : Oper} {a : Act} {w : World} {Q : Exit → Act → World → Prop} (hg : o.guard = none) (x : Operand) (ho : o.op = .buildSlice 42 1 #[(0, x)]) (p : Pk) (ov dv : Value) (hx : a.eval x = .agg (csP p ov dv)) (ha : Ad p)
    (h : ∀ g w1, w.heap.size ≤ g → BoxP w1 g p ov dv → Away [] w w1 → wpList Tryz.prog ops Q rest (a.put o.dst (.slice (some ⟨g, 0, none⟩) 1 1)) w1) : wpList Tryz.prog ops Q (o :: rest) a w :=
  wpList_plain hg fun K hK => wp_build28 x ho p ov dv hx ha fun g w1 h1 h2 h3 _ _ => hK _ _ (h g w1 h1 h2 h3)
theorem info28b : (Tryz.prog.info? 39).map (fun i => (i.zero, i.size, i.bytes)) = some (some (.agg (csP zeroPk (.slice none 0 0) (.slice none 0 0))), 46, 152) := by kernel_rfl
theorem run_appP (ty : TypeId) (w : World) (v : Value) (xs : List X) (hown : LstP w v xs) (g c : Nat) (p : Pk) (ov dv : Value) (hb : BoxP w g p ov dv) (ha : Ad p) (h1 : ov.oneCell' = true) (h2 : dv.oneCell' = true) (hk : xs.length < 500000000000) :
    ∃ v' w', (Builtin.append_ #[42, 42] ty #[v, .slice (some ⟨g, 0, none⟩) 1 c]).run Tryz.prog w = .ok v' w' ∧ LstP w' v' (xs ++ [⟨p, ov, dv⟩]) ∧ w.grownBy w' v.ownBlock ∧ Moved w v v' := by
  obtain ⟨i0, hi, hz0, hz1, hz2⟩ := info_parts info28b
  obtain ⟨v', w', r1, r2, r3, r4⟩ := run_appN 42 ty 39 i0 _ 152 46 Tryz.underlying42 hi hz0 hz1 hz2 (csP_size ⟨rfl, rfl⟩ _ _) (by decide) w v xs.length (xs.flatMap X.cells) hown ⟨g, 0, none⟩ 1 c (listP p ov dv) (by rw [listP_len ha]) (fun j u hj => by
    rw [add_plain, Nat.zero_add, cell_of_block hb]; simpa [csP] using hj) (fun u hu => listP_one p ov dv h1 h2 u hu) (by unfold maxLen; omega) (by omega)
  refine ⟨v', w', r1, ?_, r3, r4⟩
  unfold LstP
  rw [flatP_snoc, List.length_append]
  exact r2
theorem wp_appP {o : Oper} {a : Act} {w : World} {K : Act → World → Prop} {Q : Exit → Act → World → Prop} (s t : Operand)
    (ho : o.op = .call { callee := .builtin .append, args := #[s, t], argTypes := #[42, 42] }) (v : Value) (xs : List X) (hs : a.eval s = v) (hown : LstP w v xs) (g c : Nat) (ht : a.eval t = .slice (some ⟨g, 0, none⟩) 1 c) (p : Pk) (ov dv : Value) (hb : BoxP w g p ov dv) (ha : Ad p) (h1 : ov.oneCell' = true) (h2 : dv.oneCell' = true) (hk : xs.length < 500000000000)
    (h : ∀ v' w', LstP w' v' (xs ++ [⟨p, ov, dv⟩]) → w.grownBy w' v.ownBlock → Moved w v v' → K (a.put o.dst v') w') : Oper.wp Tryz.prog o a w K Q := by
  obtain ⟨v', w', hrun, r1, r2, r3⟩ := run_appP o.type w v xs hown g c p ov dv hb ha h1 h2 hk
  unfold Oper.wp
  simp [execOp, ho, resolve, invoke, builtin, hs, ht, hrun, Result.andThen]
  exact h v' w' r1 r2 r3
theorem wpList_appP {ops : Array Oper} {rest : List Oper} {o : Oper} {a : Act} {w : World} {Q : Exit → Act → World → Prop} (hgd : o.guard = none) (s t : Operand)
    (ho : o.op = .call { callee := .builtin .append, args := #[s, t], argTypes := #[42, 42] }) (v : Value) (xs : List X) (hs : a.eval s = v) (hown : LstP w v xs) (g c : Nat) (ht : a.eval t = .slice (some ⟨g, 0, none⟩) 1 c) (p : Pk) (ov dv : Value) (hb : BoxP w g p ov dv) (ha : Ad p) (h1 : ov.oneCell' = true) (h2 : dv.oneCell' = true) (hk : xs.length < 500000000000)
    (h : ∀ v' w', LstP w' v' (xs ++ [⟨p, ov, dv⟩]) → w.grownBy w' v.ownBlock → Moved w v v' → wpList Tryz.prog ops Q rest (a.put o.dst v') w') : wpList Tryz.prog ops Q (o :: rest) a w :=
  wpList_plain hgd fun K hK => wp_appP s t ho v xs hs hown g c ht p ov dv hb ha h1 h2 hk fun v' w' r1 r2 r3 => hK _ _ (h v' w' r1 r2 r3)
theorem wpList_load28m {ops : Array Oper} {rest : List Oper} {o : Oper} {a : Act} {w : World} {Q : Exit → Act → World → Prop} (hw : Region.wanted o (yielded ops a.tmps) = true) (x : Operand) (ho : o.op = .load 39 x)
    (g k : Nat) (hx : a.eval x = .pointer (some ⟨g, k, none⟩)) (p : Pk) (ov dv : Value) (hc : w.rangeAt g k (listP p ov dv)) (ha : Ad p) (h : wpList Tryz.prog ops Q rest (a.put o.dst (.agg (csP p ov dv))) w) : wpList Tryz.prog ops Q (o :: rest) a w :=
  BigFrame.wpList_want hw fun K hK => wp_load_mid 39 x ho g k hx (listP p ov dv) _ hc Tryz.underlying39 rfl (by rw [listP_len ha]; exact info28) (hK _ _ h)
theorem load28m_run {w : World} {g k : Nat} {p : Pk} {ov dv : Value} (hc : w.rangeAt g k (listP p ov dv)) (ha : Ad p) : (Instr.loadAt 39 (.pointer (some ⟨g, k, none⟩))).run Tryz.prog w = .ok (.agg (csP p ov dv)) w :=
  run_loadAt_mid w g k 39 (listP p ov dv) _ hc Tryz.underlying39 rfl (by rw [listP_len ha]; exact info28)
end Go.Proofs.YtkccpidgeecemaaGreatDoor
