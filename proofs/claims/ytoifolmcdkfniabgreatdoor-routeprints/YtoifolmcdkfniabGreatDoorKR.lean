/-
  Lists of routes in memory.
-/
import Derived.Test.YtoifolmcdkfniabGreatDoorPl
import Derived.Test.YtoifolmcdkfniabGreatDoorBase
import Derived.Laws.CopyRow
import Derived.Laws.MakeOwn
import Derived.Deep.WholeRow
import Derived.Laws.AppendOwnNone
namespace Go.Proofs.YtoifolmcdkfniabGreatDoor
open Go.ChangeShapes Go.WideShapes Go.ChangeAt Go.RowKit
set_option linter.unusedVariables false
set_option linter.unusedSimpArgs false
set_option maxRecDepth 100000

def listD (x : Rt) : List Value := cellsA x.v x.l ++ [Value.int .i64 x.b, Value.int .i64 x.k]
def csD (x : Rt) : Array Value := (listD x).toArray
theorem listD_len {x : Rt} (h : Okr x) : (listD x).length = 19 := by have := h.1; simp [listD, cellsA, this]
theorem listD_one {x : Rt} (h : Okr x) : ∀ u ∈ listD x, u.oneCell' = true := fun u hu => by
  simp only [listD, cellsA, List.mem_cons, List.mem_append, List.mem_map, List.not_mem_nil, or_false] at hu
  rcases hu with (rfl | ⟨n, _, rfl⟩) | rfl | rfl <;> rfl
theorem csD_one {x : Rt} (h : Okr x) : (csD x).all (·.oneCell') = true := by
  simp only [Array.all_eq_true_iff_forall_mem]
  intro u hu
  exact listD_one h u (by simpa [csD] using hu)
theorem csD_size {x : Rt} (h : Okr x) : (csD x).size = 19 := by simpa [csD] using listD_len h
def zeroD : Rt := ⟨0, z16, 0, 0⟩
def zD : Array Value := csD zeroD
theorem zeroD_ok : Okr zeroD := ⟨rfl, by unfold Byt zeroD z16; simp⟩
theorem listD_b {x : Rt} (h : Okr x) : (listD x)[17]? = some (.int .i64 x.b) := by
  obtain ⟨b0, b1, b2, b3, b4, b5, b6, b7, b8, b9, b10, b11, b12, b13, b14, b15, e⟩ := list16 h.1
  simp [listD, cellsA, e]
theorem listD_k {x : Rt} (h : Okr x) : (listD x)[18]? = some (.int .i64 x.k) := by
  obtain ⟨b0, b1, b2, b3, b4, b5, b6, b7, b8, b9, b10, b11, b12, b13, b14, b15, e⟩ := list16 h.1
  simp [listD, cellsA, e]
theorem listD_a {x : Rt} (h : Okr x) : (listD x).take 17 = cellsA x.v x.l := by
  have := h.1
  simp [listD, cellsA, this]
theorem Rt_inj {x y : Rt} (hx : Okr x) (hy : Okr y) (h : listD x = listD y) : x = y := by
  obtain ⟨v, l, b, k⟩ := x
  obtain ⟨v', l', b', k'⟩ := y
  obtain ⟨b0, b1, b2, b3, b4, b5, b6, b7, b8, b9, b10, b11, b12, b13, b14, b15, rfl⟩ := list16 hx.1
  obtain ⟨c0, c1, c2, c3, c4, c5, c6, c7, c8, c9, c10, c11, c12, c13, c14, c15, rfl⟩ := list16 hy.1
  simp [listD, cellsA] at h
  obtain ⟨rfl, rfl, rfl, rfl, rfl, rfl, rfl, rfl, rfl, rfl, rfl, rfl, rfl, rfl, rfl, rfl, rfl, rfl, rfl⟩ := h
  rfl
theorem lt_of_get {α : Type} {xs : List α} {k : Nat} {x : α} (h : xs[k]? = some x) : k < xs.length := (List.getElem?_eq_some_iff.1 h).1
/-- A list of its own. -/
def LstD (w : World) (v : Value) (ks : List Rt) : Prop := w.ownsRow 0 39 19 v ks.length (ks.flatMap listD)
theorem flatD_len : ∀ ks : List Rt, (∀ x ∈ ks, Okr x) → (ks.flatMap listD).length = ks.length * 19
  | [], _ => rfl
  | x :: r, h => by rw [List.flatMap_cons, List.length_append, flatD_len r (fun y hy => h y (by simp [hy])), listD_len (h x (by simp)), List.length_cons]; omega
theorem flatD_get (xs : List Rt) : ∀ (i : Nat) (x : Rt), (∀ x ∈ xs, Okr x) → xs[i]? = some x → ∀ j v, (listD x)[j]? = some v → (xs.flatMap listD)[i * 19 + j]? = some v := by
  induction xs with
  | nil => intro i x _ h; simp at h
  | cons y r ih =>
    intro i x hA h j v hj
    have hl : (listD y).length = 19 := listD_len (hA y (by simp))
    cases i with
    | zero =>
      simp only [List.getElem?_cons_zero, Option.some.injEq] at h
      subst h
      rw [List.flatMap_cons, Nat.zero_mul, Nat.zero_add, List.getElem?_append_left (lt_of_get hj), hj]
    | succ i =>
      have := ih i x (fun z hz => hA z (by simp [hz])) (by simpa using h) j v hj
      rw [List.flatMap_cons, List.getElem?_append_right (by omega), hl, show (i + 1) * 19 + j - 19 = i * 19 + j from by omega, this]
theorem flatD_one (l : List Rt) (hA : ∀ x ∈ l, Okr x) : ∀ u ∈ l.flatMap listD, u.oneCell' = true := fun u hu => by
  obtain ⟨p, hm, hp⟩ := List.mem_flatMap.1 hu
  exact listD_one (hA p hm) u hp
theorem LstD.away {S : List Nat} {w w' : World} {v : Value} {xs : List Rt} (h : LstD w v xs) (hw : Away S w w') (ha : ∀ k, v.ownBlock = some k → k ∉ S) : LstD w' v xs := by
  obtain ⟨h1, h2⟩ := h
  refine ⟨h1, ?_⟩
  rcases h2 with h2 | ⟨g, cap, cur, rfl, hg, hh, r⟩
  · exact .inl h2
  · exact .inr ⟨g, cap, cur, rfl, hg, hw.keep (ha g rfl) hh, r⟩
theorem LstD.on {w w' : World} {v : Value} {xs : List Rt} (h : LstD w v xs) (hw : Away [] w w') : LstD w' v xs := h.away hw (by simp)
theorem LstD.nil (w : World) : LstD w (.slice none 0 0) [] := World.ownsRow_nil _ _ _ _
theorem LstD.lt {w : World} {v : Value} {xs : List Rt} (h : LstD w v xs) : ∀ k, v.ownBlock = some k → k < w.heap.size := fun k hk => (World.ownsRow.lt h k hk).2
theorem LstD.shp {w : World} {v : Value} {xs : List Rt} (h : LstD w v xs) : (v = .slice none 0 0 ∧ xs = []) ∨ ∃ g cap, v = .slice (some ⟨g, 0, none⟩) xs.length cap := by
  rcases h.2 with ⟨rfl, h2⟩ | ⟨g, cap, cur, rfl, -⟩
  · exact .inl ⟨rfl, by simpa using h2⟩
  · exact .inr ⟨g, cap, rfl⟩
/-- One key of it. -/
theorem LstD.at {w : World} {g cap : Nat} {xs : List Rt} (h : LstD w (.slice (some ⟨g, 0, none⟩) xs.length cap) xs) (hA : ∀ x ∈ xs, Okr x) {i : Nat} {x : Rt} (hx : xs[i]? = some x) : w.rangeAt g (0 + i * 19) (listD x) := fun j v hj => by
  have hi := lt_of_get hx
  have hj' : j < 19 := by have := lt_of_get hj; rwa [listD_len (hA x (List.mem_of_getElem? hx))] at this
  rw [Nat.zero_add, World.ownsRow.cellAt h (i * 19 + j) (by omega)]
  exact flatD_get xs i x hA hx j v hj
theorem sizeK (wx : World) : (sizeOf (Tryz.prog.elem 22)).run Tryz.prog wx = .ok 19 wx := by kernel_rfl
theorem underK : Tryz.prog.underlying 22 = some (.slice (Tryz.prog.elem 22)) := by kernel_rfl
theorem infoK : (Tryz.prog.info? 39).map (fun i => (i.zero, i.size, i.bytes)) = some (some (.agg zD), 19, 40) := by kernel_rfl
theorem slice_lh (a A : Option Addr) (len cap k m : Nat) (lo hi : Int) (hA : A = if cap = k then a else a.map (·.add (k * 19))) (hlo : lo = k) (hhi : hi = k + m) (hm : k + m ≤ cap) (wx : World) :
    (Instr.sliceAt 22 (.slice a len cap) (some (.int .i64 lo)) (some (.int .i64 hi)) none).run Tryz.prog wx = .ok (.slice A m (cap - k)) wx := by
  subst hlo; subst hhi; subst hA
  rw [run_sliceAt_slice (h := underK), run_slice_lh (ht := underK) (h0 := by omega) (h1 := by omega) (h2 := by omega), sizeK]
  simp only [Result.andThen, sliced]
  rw [show (k : Int).toNat = k from by omega, show ((k : Int) + m).toNat = k + m from by omega, show k + m - k = m from by omega]
theorem slice_l (a A : Option Addr) (len cap k : Nat) (lo : Int) (hA : A = if cap = k then a else a.map (·.add (k * 19))) (hlo : lo = k) (hm : k ≤ len) (wx : World) :
    (Instr.sliceAt 22 (.slice a len cap) (some (.int .i64 lo)) none none).run Tryz.prog wx = .ok (.slice A (len - k) (cap - k)) wx := by
  subst hlo; subst hA
  rw [run_sliceAt_slice (h := underK), run_slice_l (ht := underK) (h0 := by omega) (h1 := by omega), sizeK]
  simp only [Result.andThen, sliced]
  rw [show (k : Int).toNat = k from by omega]
theorem slice_h (a : Option Addr) (len cap m : Nat) (hi : Int) (hhi : hi = m) (hm : m ≤ cap) (wx : World) :
    (Instr.sliceAt 22 (.slice a len cap) none (some (.int .i64 hi)) none).run Tryz.prog wx = .ok (.slice a m cap) wx := by
  subst hhi
  rw [run_sliceAt_slice (h := underK), run_slice_h (ht := underK) (h0 := by omega) (h2 := by omega), sizeK]
  simp only [Result.andThen, sliced]
  rw [show (m : Int).toNat = m from by omega]
  simp [Addr.add]

/-- A block for cap keys, as its cells. -/
def Blk (w : World) (g cap : Nat) (cur : List Value) : Prop := w.heap[g]? = some (.cells cur.toArray 39 (0, 0)) ∧ cur.length = cap * 19
theorem Blk.away {S : List Nat} {w w' : World} {g cap : Nat} {cur : List Value} (h : Blk w g cap cur) (hw : Away S w w') (hg : g ∉ S) : Blk w' g cap cur := ⟨hw.keep hg h.1, h.2⟩
theorem Blk.lst {w : World} {g n cap : Nat} {l : List Rt} {cur : List Value} (h : Blk w g cap cur) (hA : ∀ x ∈ l, Okr x) (hc : cap ≤ maxLen) (hn : l.length = n) (hnc : n ≤ cap) (ht : cur.take (n * 19) = l.flatMap listD) : LstD w (.slice (some ⟨g, 0, none⟩) n cap) l := by
  subst hn
  exact ⟨flatD_len l hA, .inr ⟨g, cap, cur.toArray, rfl, Nat.zero_le _, h.1, hnc, hc, by simpa using h.2, by simpa using ht⟩⟩
theorem LstD.blk {w : World} {g n cap : Nat} {l : List Rt} (h : LstD w (.slice (some ⟨g, 0, none⟩) n cap) l) : ∃ cur, Blk w g cap cur ∧ cap ≤ maxLen ∧ n ≤ cap ∧ cur.take (n * 19) = l.flatMap listD ∧ l.length = n := by
  rcases h.2 with ⟨h2, _⟩ | ⟨g', cap', cur, he, hg, hh, hn, hc, hs, ht⟩
  · simp at h2
  · simp only [Value.slice.injEq, Option.some.injEq, Addr.mk.injEq] at he
    obtain ⟨⟨rfl, -, -⟩, rfl, rfl⟩ := he
    exact ⟨cur.toList, ⟨by simpa using hh, by simpa using hs⟩, hc, hn, ht, rfl⟩
theorem Blk.cell {w : World} {g cap : Nat} {cur : List Value} (h : Blk w g cap cur) (i : Nat) : w.cell? ⟨g, i, none⟩ = cur[i]? := by rw [cell_of_block h.1]; simp
/-- Where a reslice from o on begins. -/
def fromA (g cap o : Nat) : Option Addr := if cap = o then some ⟨g, 0, none⟩ else some ⟨g, o * 19, none⟩
theorem fromA_eq (g cap o : Nat) : fromA g cap o = if cap = o then some ⟨g, 0, none⟩ else (some (⟨g, 0, none⟩ : Addr)).map (·.add (o * 19)) := by
  unfold fromA; simp [add_plain]
/-- What was written at place o. -/
def over (cur : List Value) (o : Nat) (xs : List Value) : List Value := cur.take (o * 19) ++ xs ++ cur.drop (o * 19 + xs.length)
theorem over_len {cur xs : List Value} {o : Nat} (h : o * 19 + xs.length ≤ cur.length) : (over cur o xs).length = cur.length := by
  unfold over; simp; omega
theorem over_nil (cur : List Value) (o : Nat) : over cur o [] = cur := by simp [over]
theorem over_get {cur xs : List Value} {o : Nat} (h : o * 19 + xs.length ≤ cur.length) (i : Nat) : (over cur o xs)[i]? = if i < o * 19 then cur[i]? else if i < o * 19 + xs.length then xs[i - o * 19]? else cur[i]? := by
  unfold over
  have hl : (cur.take (o * 19)).length = o * 19 := by simp; omega
  by_cases h1 : i < o * 19
  · rw [if_pos h1, List.append_assoc, List.getElem?_append_left (by omega), List.getElem?_take, if_pos h1]
  · rw [if_neg h1, List.append_assoc, List.getElem?_append_right (by omega), hl]
    by_cases h2 : i < o * 19 + xs.length
    · rw [if_pos h2, List.getElem?_append_left (by omega)]
    · rw [if_neg h2, List.getElem?_append_right (by omega), List.getElem?_drop]
      congr 1; omega
theorem Blk.set {w : World} {g cap o : Nat} {cur xs : List Value} (h : Blk w g cap cur) (hf : o * 19 + xs.length ≤ cur.length) (h1 : ∀ v ∈ xs, v.oneCell' = true) :
    (storeCells ⟨g, o * 19, none⟩ xs 0).run Tryz.prog w = .ok () (w.setRow g (over cur o xs).toArray) ∧ Blk (w.setRow g (over cur o xs).toArray) g cap (over cur o xs) := by
  have := run_storeCells_at Tryz.prog g (o * 19) 39 xs 0 cur.toArray w h.1 (by simpa using hf) h1
  refine ⟨by simpa [over] using this, setRow_heap w g _ _ 39 _ h.1, by rw [over_len hf]; exact h.2⟩
def noughts (n : Nat) : List Value := (Builtin.zeroCells (Value.agg zD).cells n).toList
theorem zD_size : zD.size = 19 := by kernel_rfl
theorem noughts_len (n : Nat) : (noughts n).length = n * 19 := by simp [noughts, Builtin.zeroCells, Value.cells, zD_size]
theorem zD_one : zD.all (·.oneCell') = true := by kernel_rfl
theorem noughts_one (n : Nat) : ∀ v ∈ noughts n, v.oneCell' = true := by
  intro v hv
  simp only [noughts, Builtin.zeroCells, Value.cells, Array.toList_map, List.mem_map] at hv
  obtain ⟨i, -, rfl⟩ := hv
  have h1 : i % zD.size < zD.size := Nat.mod_lt _ (by rw [zD_size]; omega)
  have h2 := Array.all_eq_true.1 zD_one (i % zD.size) h1
  rw [getElem!_pos zD _ h1]
  exact h2
theorem run_clearB (w : World) (ty : TypeId) (g cap o n c : Nat) (cur : List Value) (D : Option Addr) (hD : D = fromA g cap o) (hb : Blk w g cap cur) (hn : o + n ≤ cap) :
    ∃ w', (Builtin.clear_ #[22] ty #[.slice D n c]).run Tryz.prog w = .ok (.tuple #[]) w' ∧ Blk w' g cap (over cur o (noughts n)) ∧ Away [g] w w' := by
  obtain ⟨i0, hi, hz0, hz1, hz2⟩ := info_parts infoK
  subst hD
  rcases n with _ | n
  · refine ⟨w, ?_, by rw [show noughts 0 = [] from List.eq_nil_of_length_eq_zero (by rw [noughts_len]), over_nil]; exact hb, Away.refl _ _⟩
    unfold fromA
    split <;> simp [Builtin.clear_, run_underlying Tryz.underlying22]
  · obtain ⟨r1, r2⟩ := hb.set (o := o) (xs := noughts (n + 1)) (by have := hb.2; rw [noughts_len]; omega) (noughts_one _)
    refine ⟨_, ?_, r2, (Away.refl _ _).setRow (.inl (by simp)) _⟩
    unfold fromA
    rw [if_neg (by omega)]
    unfold noughts at r1
    simp [Builtin.clear_, run_underlying Tryz.underlying22, zeroValue, typeInfo, hi, hz0, r1, noughts]
theorem slice_lhm (a : Option Addr) (len cap k m c : Nat) (lo hi mx : Int) (hlo : lo = k) (hhi : hi = k + m) (hmx : mx = c) (hm : k + m ≤ c) (hc : c ≤ cap) (wx : World) :
    ∃ v, (Instr.sliceAt 22 (.slice a len cap) (some (.int .i64 lo)) (some (.int .i64 hi)) (some (.int .i64 mx))).run Tryz.prog wx = .ok v wx := by
  subst hlo; subst hhi; subst hmx
  rw [run_sliceAt_slice (h := underK), run_slice_lhm (ht := underK) (h0 := by omega) (h1 := by omega) (h2 := by omega) (h3 := by omega), sizeK]
  exact ⟨_, rfl⟩
/-- An append where there is room, of what lies in the same block. -/
theorem run_appB (w : World) (ty : TypeId) (g cap i m c : Nat) (cur xs : List Value) (ad : Addr) (hb : Blk w g cap cur) (hr : i + m ≤ cap) (hl : xs.length = m * 19) (hs : ∀ j u, xs[j]? = some u → w.cell? (ad.add j) = some u) (h1 : ∀ u ∈ xs, u.oneCell' = true) :
    ∃ w', (Builtin.append_ #[22, 22] ty #[.slice (some ⟨g, 0, none⟩) i cap, .slice (some ad) m c]).run Tryz.prog w = .ok (.slice (some ⟨g, 0, none⟩) (i + m) cap) w' ∧ Blk w' g cap (over cur i xs) ∧ Away [g] w w' := by
  obtain ⟨i0, hi, hz0, hz1, hz2⟩ := info_parts infoK
  obtain ⟨r1, r2⟩ := hb.set (o := i) (xs := xs) (by have := hb.2; omega) h1
  refine ⟨_, ?_, r2, (Away.refl _ _).setRow (.inl (by simp)) _⟩
  have hfc := run_firstCells_some (P := Tryz.prog) w 19 m ad m c xs hl hs
  simp [Builtin.append_, run_underlying Tryz.underlying22, sizeOf, typeInfo, hi, hz1, Builtin.lenOf, hr, hfc, Addr.add_lit, r1]
theorem LstD.sl {w : World} {v : Value} {L : List Rt} (h : LstD w v L) : ∃ a cap, v = .slice a L.length cap ∧ L.length ≤ cap := by
  rcases h.shp with ⟨rfl, rfl⟩ | ⟨g, cap, rfl⟩
  · exact ⟨none, 0, rfl, by simp⟩
  · exact ⟨_, cap, rfl, by obtain ⟨_, _, _, h1, _⟩ := h.blk; exact h1⟩
theorem flat_snoc (L : List Rt) (t : Rt) : (L ++ [t]).flatMap listD = L.flatMap listD ++ listD t := by simp
theorem run_appL (ty : TypeId) (w : World) (v : Value) (L : List Rt) (hown : LstD w v L) (ad : Addr) (m cp : Nat) (M : List Rt) (hM : M.length = m) (ht : ∀ x ∈ M, Okr x) (hc : ∀ j u, (M.flatMap listD)[j]? = some u → w.cell? (ad.add j) = some u) (hk : L.length + m ≤ 3518437208883) :
    ∃ v' w', (Builtin.append_ #[22, 22] ty #[v, .slice (some ad) m cp]).run Tryz.prog w = .ok v' w' ∧ LstD w' v' (L ++ M) ∧ w.grownBy w' v.ownBlock ∧ Moved w v v' := by
  obtain ⟨i0, hi, hz0, hz1, hz2⟩ := info_parts infoK
  obtain ⟨v', w', h1, h2, h3, h4⟩ := run_appN 22 ty 39 i0 _ 40 19 Tryz.underlying22 hi hz0 hz1 hz2 zD_size (by decide) w v L.length (L.flatMap listD) hown ad m cp (M.flatMap listD) (by rw [flatD_len M ht, hM]) hc (flatD_one M ht) (by unfold maxLen; omega) (by omega)
  refine ⟨v', w', h1, ?_, h3, h4⟩
  unfold LstD
  rw [List.length_append, List.flatMap_append, hM]
  exact h2
theorem wpList_appL {w : World} {ops : Array Oper} {rest : List Oper} {o : Oper} {a : Act} {Q : Exit → Act → World → Prop} (hgd : o.guard = none) (s t : Operand)
    (ho : o.op = .call { callee := .builtin .append, args := #[s, t], argTypes := #[22, 22] }) (v : Value) (L : List Rt) (hs : a.eval s = v) (hown : LstD w v L)
    (ad : Addr) (m cp : Nat) (ht : a.eval t = .slice (some ad) m cp) (M : List Rt) (hM : M.length = m) (hx : ∀ x ∈ M, Okr x) (hc : ∀ j u, (M.flatMap listD)[j]? = some u → w.cell? (ad.add j) = some u) (hk : L.length + m ≤ 3518437208883)
    (h : ∀ v' w', LstD w' v' (L ++ M) → w.grownBy w' v.ownBlock → Moved w v v' → wpList Tryz.prog ops Q rest (a.put o.dst v') w') : wpList Tryz.prog ops Q (o :: rest) a w := by
  obtain ⟨v', w', hrun, r1, r2, r3⟩ := run_appL o.type w v L hown ad m cp M hM hx hc hk
  refine wpList_plain hgd fun _ hK => ?_
  unfold Oper.wp
  simp [execOp, ho, resolve, invoke, builtin, hs, ht, hrun, Result.andThen]
  exact hK _ _ (h v' w' r1 r2 r3)
/-- The cells behind a key that goes. -/
theorem flat_split (ks : List Rt) (i : Nat) : ks.flatMap listD = (ks.take i).flatMap listD ++ (ks.drop i).flatMap listD := by
  rw [← List.flatMap_append, List.take_append_drop]
theorem flat_take {ks : List Rt} (hA : ∀ x ∈ ks, Okr x) {i : Nat} (hi : i ≤ ks.length) : (ks.flatMap listD).take (i * 19) = (ks.take i).flatMap listD := by
  have hl : ((ks.take i).flatMap listD).length = i * 19 := by rw [flatD_len _ (fun x hx => hA x (List.mem_of_mem_take hx)), List.length_take]; rw [Nat.min_eq_left hi]
  rw [flat_split ks i, List.take_append_of_le_length (by omega), List.take_of_length_le (by omega)]
theorem flat_drop {ks : List Rt} (hA : ∀ x ∈ ks, Okr x) {i : Nat} (hi : i ≤ ks.length) : (ks.flatMap listD).drop (i * 19) = (ks.drop i).flatMap listD := by
  have hl : ((ks.take i).flatMap listD).length = i * 19 := by rw [flatD_len _ (fun x hx => hA x (List.mem_of_mem_take hx)), List.length_take]; rw [Nat.min_eq_left hi]
  rw [flat_split ks i, List.drop_append, List.drop_of_length_le (by omega), hl, Nat.sub_self]; simp
end Go.Proofs.YtoifolmcdkfniabGreatDoor
