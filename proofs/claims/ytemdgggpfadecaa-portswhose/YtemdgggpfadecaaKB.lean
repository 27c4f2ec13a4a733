/-
  Lists of sockets in memory (KB).
-/
import Derived.Test.YtemdgggpfadecaaBd
namespace Go.Proofs.Ytemdgggpfadecaa.KB
open Go.ChangeShapes Go.WideShapes Go.ChangeAt Go.RowKit
set_option linter.unusedVariables false
set_option linter.unusedSimpArgs false
set_option maxRecDepth 100000

theorem lt_of_get {α : Type} {xs : List α} {k : Nat} {x : α} (h : xs[k]? = some x) : k < xs.length := (List.getElem?_eq_some_iff.1 h).1
/-- A list of its own. -/
def LstD (w : World) (v : Value) (ks : List Bd) : Prop := w.ownsRow 0 64 19 v ks.length (ks.flatMap listD)
theorem flatD_len : ∀ ks : List Bd, (∀ x ∈ ks, Okd x) → (ks.flatMap listD).length = ks.length * 19
  | [], _ => rfl
  | x :: r, h => by rw [List.flatMap_cons, List.length_append, flatD_len r (fun y hy => h y (by simp [hy])), listD_len (h x (by simp)), List.length_cons]; omega
theorem flatD_get (xs : List Bd) : ∀ (i : Nat) (x : Bd), (∀ x ∈ xs, Okd x) → xs[i]? = some x → ∀ j v, (listD x)[j]? = some v → (xs.flatMap listD)[i * 19 + j]? = some v := by
  induction xs with
  | nil => intro i x _ h; simp at h
  | cons y r ih =>
    intro i x hA h j v hj
    have hl : (listD y).length = 19 := listD_len (hA y (by simp))
    cases i with
    | zero =>
      simp only [List.getElem?_cons_zero, Option.some.injEq] at h
      subst h
      rw [List.flatMap_cons, Nat.zero_mul, Nat.zero_add, List.getElem?_append_left (lt_of_get hj), hj]
    | succ i =>
      have := ih i x (fun z hz => hA z (by simp [hz])) (by simpa using h) j v hj
      rw [List.flatMap_cons, List.getElem?_append_right (by omega), hl, show (i + 1) * 19 + j - 19 = i * 19 + j from by omega, this]
theorem flatD_one (l : List Bd) (hA : ∀ x ∈ l, Okd x) : ∀ u ∈ l.flatMap listD, u.oneCell' = true := fun u hu => by
  obtain ⟨p, hm, hp⟩ := List.mem_flatMap.1 hu
  exact listD_one (hA p hm) u hp
theorem LstD.away {S : List Nat} {w w' : World} {v : Value} {xs : List Bd} (h : LstD w v xs) (hw : Away S w w') (ha : ∀ k, v.ownBlock = some k → k ∉ S) : LstD w' v xs := by
  obtain ⟨h1, h2⟩ := h
  refine ⟨h1, ?_⟩
  rcases h2 with h2 | ⟨g, cap, cur, rfl, hg, hh, r⟩
  · exact .inl h2
  · exact .inr ⟨g, cap, cur, rfl, hg, hw.keep (ha g rfl) hh, r⟩
theorem LstD.on {w w' : World} {v : Value} {xs : List Bd} (h : LstD w v xs) (hw : Away [] w w') : LstD w' v xs := h.away hw (by simp)
theorem LstD.nil (w : World) : LstD w (.slice none 0 0) [] := World.ownsRow_nil _ _ _ _
theorem LstD.lt {w : World} {v : Value} {xs : List Bd} (h : LstD w v xs) : ∀ k, v.ownBlock = some k → k < w.heap.size := fun k hk => (World.ownsRow.lt h k hk).2
theorem LstD.shp {w : World} {v : Value} {xs : List Bd} (h : LstD w v xs) : (v = .slice none 0 0 ∧ xs = []) ∨ ∃ g cap, v = .slice (some ⟨g, 0, none⟩) xs.length cap := by
  rcases h.2 with ⟨rfl, h2⟩ | ⟨g, cap, cur, rfl, -⟩
  · exact .inl ⟨rfl, by simpa using h2⟩
  · exact .inr ⟨g, cap, rfl⟩
/-- One key of it. -/
theorem LstD.at {w : World} {g cap : Nat} {xs : List Bd} (h : LstD w (.slice (some ⟨g, 0, none⟩) xs.length cap) xs) (hA : ∀ x ∈ xs, Okd x) {i : Nat} {x : Bd} (hx : xs[i]? = some x) : w.rangeAt g (0 + i * 19) (listD x) := fun j v hj => by
  have hi := lt_of_get hx
  have hj' : j < 19 := by have := lt_of_get hj; rwa [listD_len (hA x (List.mem_of_getElem? hx))] at this
  rw [Nat.zero_add, World.ownsRow.cellAt h (i * 19 + j) (by omega)]
  exact flatD_get xs i x hA hx j v hj
theorem sizeK (wx : World) : (sizeOf (Try.prog.elem 59)).run Try.prog wx = .ok 19 wx := by kernel_rfl
theorem underK : Try.prog.underlying 59 = some (.slice (Try.prog.elem 59)) := by kernel_rfl
theorem infoK : (Try.prog.info? 64).map (fun i => (i.zero, i.size, i.bytes)) = some (some (.agg zD), 19, 40) := by kernel_rfl
theorem slice_lh (a A : Option Addr) (len cap k m : Nat) (lo hi : Int) (hA : A = if cap = k then a else a.map (·.add (k * 19))) (hlo : lo = k) (hhi : hi = k + m) (hm : k + m ≤ cap) (wx : World) :
    (Instr.sliceAt 59 (.slice a len cap) (some (.int .i64 lo)) (some (.int .i64 hi)) none).run Try.prog wx = .ok (.slice A m (cap - k)) wx := by
  subst hlo; subst hhi; subst hA
  rw [run_sliceAt_slice (h := underK), run_slice_lh (ht := underK) (h0 := by omega) (h1 := by omega) (h2 := by omega), sizeK]
  simp only [Result.andThen, sliced]
  rw [show (k : Int).toNat = k from by omega, show ((k : Int) + m).toNat = k + m from by omega, show k + m - k = m from by omega]
theorem slice_l (a A : Option Addr) (len cap k : Nat) (lo : Int) (hA : A = if cap = k then a else a.map (·.add (k * 19))) (hlo : lo = k) (hm : k ≤ len) (wx : World) :
    (Instr.sliceAt 59 (.slice a len cap) (some (.int .i64 lo)) none none).run Try.prog wx = .ok (.slice A (len - k) (cap - k)) wx := by
  subst hlo; subst hA
  rw [run_sliceAt_slice (h := underK), run_slice_l (ht := underK) (h0 := by omega) (h1 := by omega), sizeK]
  simp only [Result.andThen, sliced]
  rw [show (k : Int).toNat = k from by omega]
theorem slice_h (a : Option Addr) (len cap m : Nat) (hi : Int) (hhi : hi = m) (hm : m ≤ cap) (wx : World) :
    (Instr.sliceAt 59 (.slice a len cap) none (some (.int .i64 hi)) none).run Try.prog wx = .ok (.slice a m cap) wx := by
  subst hhi
  rw [run_sliceAt_slice (h := underK), run_slice_h (ht := underK) (h0 := by omega) (h2 := by omega), sizeK]
  simp only [Result.andThen, sliced]
  rw [show (m : Int).toNat = m from by omega]
  simp [Addr.add]

/-- A block for cap keys, as its cells. -/
def Blk (w : World) (g cap : Nat) (cur : List Value) : Prop := w.heap[g]? = some (.cells cur.toArray 64 (0, 0)) ∧ cur.length = cap * 19
theorem Blk.away {S : List Nat} {w w' : World} {g cap : Nat} {cur : List Value} (h : Blk w g cap cur) (hw : Away S w w') (hg : g ∉ S) : Blk w' g cap cur := ⟨hw.keep hg h.1, h.2⟩
theorem Blk.lst {w : World} {g n cap : Nat} {l : List Bd} {cur : List Value} (h : Blk w g cap cur) (hA : ∀ x ∈ l, Okd x) (hc : cap ≤ maxLen) (hn : l.length = n) (hnc : n ≤ cap) (ht : cur.take (n * 19) = l.flatMap listD) : LstD w (.slice (some ⟨g, 0, none⟩) n cap) l := by
  subst hn
  exact ⟨flatD_len l hA, .inr ⟨g, cap, cur.toArray, rfl, Nat.zero_le _, h.1, hnc, hc, by simpa using h.2, by simpa using ht⟩⟩
theorem LstD.blk {w : World} {g n cap : Nat} {l : List Bd} (h : LstD w (.slice (some ⟨g, 0, none⟩) n cap) l) : ∃ cur, Blk w g cap cur ∧ cap ≤ maxLen ∧ n ≤ cap ∧ cur.take (n * 19) = l.flatMap listD ∧ l.length = n := by
  rcases h.2 with ⟨h2, _⟩ | ⟨g', cap', cur, he, hg, hh, hn, hc, hs, ht⟩
  · simp at h2
  · simp only [Value.slice.injEq, Option.some.injEq, Addr.mk.injEq] at he
    obtain ⟨⟨rfl, -, -⟩, rfl, rfl⟩ := he
    exact ⟨cur.toList, ⟨by simpa using hh, by simpa using hs⟩, hc, hn, ht, rfl⟩
theorem Blk.cell {w : World} {g cap : Nat} {cur : List Value} (h : Blk w g cap cur) (i : Nat) : w.cell? ⟨g, i, none⟩ = cur[i]? := by rw [cell_of_block h.1]; simp
/-- Where a reslice from o on begins. -/
def fromA (g cap o : Nat) : Option Addr := if cap = o then some ⟨g, 0, none⟩ else some ⟨g, o * 19, none⟩
theorem fromA_eq (g cap o : Nat) : fromA g cap o = if cap = o then some ⟨g, 0, none⟩ else (some (⟨g, 0, none⟩ : Addr)).map (·.add (o * 19)) := by
  unfold fromA; simp [add_plain]
/-- What was written at place o. -/
def over (cur : List Value) (o : Nat) (xs : List Value) : List Value := cur.take (o * 19) ++ xs ++ cur.drop (o * 19 + xs.length)
theorem over_len {cur xs : List Value} {o : Nat} (h : o * 19 + xs.length ≤ cur.length) : (over cur o xs).length = cur.length := by
  unfold over; simp; omega
theorem over_nil (cur : List Value) (o : Nat) : over cur o [] = cur := by simp [over]
theorem over_get {cur xs : List Value} {o : Nat} (h : o * 19 + xs.length ≤ cur.length) (i : Nat) : (over cur o xs)[i]? = if i < o * 19 then cur[i]? else if i < o * 19 + xs.length then xs[i - o * 19]? else cur[i]? := by
  unfold over
  have hl : (cur.take (o * 19)).length = o * 19 := by simp; omega
  by_cases h1 : i < o * 19
  · rw [if_pos h1, List.append_assoc, List.getElem?_append_left (by omega), List.getElem?_take, if_pos h1]
  · rw [if_neg h1, List.append_assoc, List.getElem?_append_right (by omega), hl]
    by_cases h2 : i < o * 19 + xs.length
    · rw [if_pos h2, List.getElem?_append_left (by omega)]
    · rw [if_neg h2, List.getElem?_append_right (by omega), List.getElem?_drop]
      congr 1; omega
theorem Blk.set {w : World} {g cap o : Nat} {cur xs : List Value} (h : Blk w g cap cur) (hf : o * 19 + xs.length ≤ cur.length) (h1 : ∀ v ∈ xs, v.oneCell' = true) :
    (storeCells ⟨g, o * 19, none⟩ xs 0).run Try.prog w = .ok () (w.setRow g (over cur o xs).toArray) ∧ Blk (w.setRow g (over cur o xs).toArray) g cap (over cur o xs) := by
  have := run_storeCells_at Try.prog g (o * 19) 64 xs 0 cur.toArray w h.1 (by simpa using hf) h1
  refine ⟨by simpa [over] using this, setRow_heap w g _ _ 64 _ h.1, by rw [over_len hf]; exact h.2⟩
def noughts (n : Nat) : List Value := (Builtin.zeroCells (Value.agg zD).cells n).toList
theorem zD_size : zD.size = 19 := by kernel_rfl
theorem noughts_len (n : Nat) : (noughts n).length = n * 19 := by simp [noughts, Builtin.zeroCells, Value.cells, zD_size]
theorem zD_one : zD.all (·.oneCell') = true := by kernel_rfl
theorem noughts_one (n : Nat) : ∀ v ∈ noughts n, v.oneCell' = true := by
  intro v hv
  simp only [noughts, Builtin.zeroCells, Value.cells, Array.toList_map, List.mem_map] at hv
  obtain ⟨i, -, rfl⟩ := hv
  have h1 : i % zD.size < zD.size := Nat.mod_lt _ (by rw [zD_size]; omega)
  have h2 := Array.all_eq_true.1 zD_one (i % zD.size) h1
  rw [getElem!_pos zD _ h1]
  exact h2
theorem run_clearB (w : World) (ty : TypeId) (g cap o n c : Nat) (cur : List Value) (D : Option Addr) (hD : D = fromA g cap o) (hb : Blk w g cap cur) (hn : o + n ≤ cap) :
    ∃ w', (Builtin.clear_ #[59] ty #[.slice D n c]).run Try.prog w = .ok (.tuple #[]) w' ∧ Blk w' g cap (over cur o (noughts n)) ∧ Away [g] w w' := by
  obtain ⟨i0, hi, hz0, hz1, hz2⟩ := info_parts infoK
  subst hD
  rcases n with _ | n
  · refine ⟨w, ?_, by rw [show noughts 0 = [] from List.eq_nil_of_length_eq_zero (by rw [noughts_len]), over_nil]; exact hb, Away.refl _ _⟩
    unfold fromA
    split <;> simp [Builtin.clear_, run_underlying Try.underlying59]
  · obtain ⟨r1, r2⟩ := hb.set (o := o) (xs := noughts (n + 1)) (by have := hb.2; rw [noughts_len]; omega) (noughts_one _)
    refine ⟨_, ?_, r2, (Away.refl _ _).setRow (.inl (by simp)) _⟩
    unfold fromA
    rw [if_neg (by omega)]
    unfold noughts at r1
    simp [Builtin.clear_, run_underlying Try.underlying59, zeroValue, typeInfo, hi, hz0, r1, noughts]
theorem slice_lhm (a : Option Addr) (len cap k m c : Nat) (lo hi mx : Int) (hlo : lo = k) (hhi : hi = k + m) (hmx : mx = c) (hm : k + m ≤ c) (hc : c ≤ cap) (wx : World) :
    ∃ v, (Instr.sliceAt 59 (.slice a len cap) (some (.int .i64 lo)) (some (.int .i64 hi)) (some (.int .i64 mx))).run Try.prog wx = .ok v wx := by
  subst hlo; subst hhi; subst hmx
  rw [run_sliceAt_slice (h := underK), run_slice_lhm (ht := underK) (h0 := by omega) (h1 := by omega) (h2 := by omega) (h3 := by omega), sizeK]
  exact ⟨_, rfl⟩
/-- An append where there is room, of what lies in the same block. -/
theorem run_appB (w : World) (ty : TypeId) (g cap i m c : Nat) (cur xs : List Value) (ad : Addr) (hb : Blk w g cap cur) (hr : i + m ≤ cap) (hl : xs.length = m * 19) (hs : ∀ j u, xs[j]? = some u → w.cell? (ad.add j) = some u) (h1 : ∀ u ∈ xs, u.oneCell' = true) :
    ∃ w', (Builtin.append_ #[59, 59] ty #[.slice (some ⟨g, 0, none⟩) i cap, .slice (some ad) m c]).run Try.prog w = .ok (.slice (some ⟨g, 0, none⟩) (i + m) cap) w' ∧ Blk w' g cap (over cur i xs) ∧ Away [g] w w' := by
  obtain ⟨i0, hi, hz0, hz1, hz2⟩ := info_parts infoK
  obtain ⟨r1, r2⟩ := hb.set (o := i) (xs := xs) (by have := hb.2; omega) h1
  refine ⟨_, ?_, r2, (Away.refl _ _).setRow (.inl (by simp)) _⟩
  have hfc := run_firstCells_some (P := Try.prog) w 19 m ad m c xs hl hs
  simp [Builtin.append_, run_underlying Try.underlying59, sizeOf, typeInfo, hi, hz1, Builtin.lenOf, hr, hfc, Addr.add_lit, r1]
theorem LstD.sl {w : World} {v : Value} {L : List Bd} (h : LstD w v L) : ∃ a cap, v = .slice a L.length cap ∧ L.length ≤ cap := by
  rcases h.shp with ⟨rfl, rfl⟩ | ⟨g, cap, rfl⟩
  · exact ⟨none, 0, rfl, by simp⟩
  · exact ⟨_, cap, rfl, by obtain ⟨_, _, _, h1, _⟩ := h.blk; exact h1⟩
theorem flat_snoc (L : List Bd) (t : Bd) : (L ++ [t]).flatMap listD = L.flatMap listD ++ listD t := by simp
theorem run_appL (ty : TypeId) (w : World) (v : Value) (L : List Bd) (hown : LstD w v L) (ad : Addr) (m cp : Nat) (M : List Bd) (hM : M.length = m) (ht : ∀ x ∈ M, Okd x) (hc : ∀ j u, (M.flatMap listD)[j]? = some u → w.cell? (ad.add j) = some u) (hk : L.length + m ≤ 64) :
    ∃ v' w', (Builtin.append_ #[59, 59] ty #[v, .slice (some ad) m cp]).run Try.prog w = .ok v' w' ∧ LstD w' v' (L ++ M) ∧ w.grownBy w' v.ownBlock ∧ Moved w v v' := by
  obtain ⟨i0, hi, hz0, hz1, hz2⟩ := info_parts infoK
  obtain ⟨v', w', h1, h2, h3, h4⟩ := run_appN 59 ty 64 i0 _ 40 19 Try.underlying59 hi hz0 hz1 hz2 zD_size (by decide) w v L.length (L.flatMap listD) hown ad m cp (M.flatMap listD) (by rw [flatD_len M ht, hM]) hc (flatD_one M ht) (by unfold maxLen; omega) (by omega)
  refine ⟨v', w', h1, ?_, h3, h4⟩
  unfold LstD
  rw [List.length_append, List.flatMap_append, hM]
  exact h2
theorem wpList_appL {w : World} {ops : Array Oper} {rest : List Oper} {o : Oper} {a : Act} {Q : Exit → Act → World → Prop} (hgd : o.guard = none) (s t : Operand)
    (ho : o.op = .call { callee := .builtin .append, args := #[s, t], argTypes := #[59, 59] }) (v : Value) (L : List Bd) (hs : a.eval s = v) (hown : LstD w v L)
    (ad : Addr) (m cp : Nat) (ht : a.eval t = .slice (some ad) m cp) (M : List Bd) (hM : M.length = m) (hx : ∀ x ∈ M, Okd x) (hc : ∀ j u, (M.flatMap listD)[j]? = some u → w.cell? (ad.add j) = some u) (hk : L.length + m ≤ 64)
    (h : ∀ v' w', LstD w' v' (L ++ M) → w.grownBy w' v.ownBlock → Moved w v v' → wpList Try.prog ops Q rest (a.put o.dst v') w') : wpList Try.prog ops Q (o :: rest) a w := by
  obtain ⟨v', w', hrun, r1, r2, r3⟩ := run_appL o.type w v L hown ad m cp M hM hx hc hk
  refine wpList_plain hgd fun _ hK => ?_
  unfold Oper.wp
  simp [execOp, ho, resolve, invoke, builtin, hs, ht, hrun, Result.andThen]
  exact hK _ _ (h v' w' r1 r2 r3)
/-- The cells behind a key that goes. -/
theorem flat_split (ks : List Bd) (i : Nat) : ks.flatMap listD = (ks.take i).flatMap listD ++ (ks.drop i).flatMap listD := by
  rw [← List.flatMap_append, List.take_append_drop]
theorem flat_take {ks : List Bd} (hA : ∀ x ∈ ks, Okd x) {i : Nat} (hi : i ≤ ks.length) : (ks.flatMap listD).take (i * 19) = (ks.take i).flatMap listD := by
  have hl : ((ks.take i).flatMap listD).length = i * 19 := by rw [flatD_len _ (fun x hx => hA x (List.mem_of_mem_take hx)), List.length_take]; rw [Nat.min_eq_left hi]
  rw [flat_split ks i, List.take_append_of_le_length (by omega), List.take_of_length_le (by omega)]
theorem flat_drop {ks : List Bd} (hA : ∀ x ∈ ks, Okd x) {i : Nat} (hi : i ≤ ks.length) : (ks.flatMap listD).drop (i * 19) = (ks.drop i).flatMap listD := by
  have hl : ((ks.take i).flatMap listD).length = i * 19 := by rw [flatD_len _ (fun x hx => hA x (List.mem_of_mem_take hx)), List.length_take]; rw [Nat.min_eq_left hi]
  rw [flat_split ks i, List.drop_append, List.drop_of_length_le (by omega), hl, Nat.sub_self]; simp
theorem erase_flat (ks : List Bd) (i : Nat) : (ks.eraseIdx i).flatMap listD = (ks.take i).flatMap listD ++ (ks.drop (i + 1)).flatMap listD := by
  rw [List.eraseIdx_eq_take_drop_succ, List.flatMap_append]
theorem step_appB {ops : Array Oper} {o : Oper} {a : Act} {w : World} {K : Act → World → Prop} {Q : Exit → Act → World → Prop} {E : Prop} (hg : o.guard = none) (s x : Operand) (ho : o.op = .call { callee := .builtin .append, args := #[s, x], argTypes := #[59, 59] })
    (g cap i m c : Nat) (cur xs : List Value) (ad : Addr) (hs : a.eval s = .slice (some ⟨g, 0, none⟩) i cap) (hx : a.eval x = .slice (some ad) m c) (hb : Blk w g cap cur) (hr : i + m ≤ cap) (hl : xs.length = m * 19) (hsr : ∀ j u, xs[j]? = some u → w.cell? (ad.add j) = some u) (h1 : ∀ u ∈ xs, u.oneCell' = true)
    (h : ∀ w', Blk w' g cap (over cur i xs) → Away [g] w w' → K (a.put o.dst (.slice (some ⟨g, 0, none⟩) (i + m) cap)) w') : if Region.wanted o (yielded ops a.tmps) = true then Oper.wp Try.prog o a w K Q else E := by
  have hw : Region.wanted o (yielded ops a.tmps) = true := by simp [Region.wanted, hg]
  rw [if_pos hw]
  obtain ⟨w', hrun, r1, r2⟩ := run_appB w o.type g cap i m c cur xs ad hb hr hl hsr h1
  unfold Oper.wp
  simp [execOp, ho, resolve, invoke, builtin, hs, hx, hrun, Result.andThen]
  exact h w' r1 r2
theorem wpList_clearB {ops : Array Oper} {rest : List Oper} {o : Oper} {a : Act} {w : World} {Q : Exit → Act → World → Prop} (hgd : o.guard = none) (s : Operand) (ho : o.op = .call { callee := .builtin .clear, args := #[s], argTypes := #[59] })
    (g cap o' n c : Nat) (cur : List Value) (D : Option Addr) (hs : a.eval s = .slice D n c) (hD : D = fromA g cap o') (hb : Blk w g cap cur) (hn : o' + n ≤ cap)
    (h : ∀ w', Blk w' g cap (over cur o' (noughts n)) → Away [g] w w' → wpList Try.prog ops Q rest (a.put o.dst (.tuple #[])) w') : wpList Try.prog ops Q (o :: rest) a w :=
  wpList_plain hgd fun K hK => by
    obtain ⟨w', hrun, r1, r2⟩ := run_clearB w o.type g cap o' n c cur D hD hb hn
    unfold Oper.wp
    simp [execOp, ho, resolve, invoke, builtin, hs, hrun, Result.andThen]
    exact hK _ _ (h w' r1 r2)
/-- What the block holds behind it. -/
theorem del_cells {ks : List Bd} {cur : List Value} {cap i m : Nat} (hA : ∀ x ∈ ks, Okd x) (hn : ks.length = i + 1 + m) (hc : cur.length = cap * 19) (hnc : i + 1 + m ≤ cap) (ht : cur.take ((i + 1 + m) * 19) = ks.flatMap listD) :
    (over (over cur i ((ks.drop (i + 1)).flatMap listD)) (i + m) (noughts 1)).take ((i + m) * 19) = (ks.eraseIdx i).flatMap listD := by
  have hl : ((ks.drop (i + 1)).flatMap listD).length = m * 19 := by rw [flatD_len _ (fun x hx => hA x (List.mem_of_mem_drop hx)), List.length_drop, hn, show i + 1 + m - (i + 1) = m from by omega]
  have h1 : cur.take (i * 19) = (ks.take i).flatMap listD := by
    rw [← flat_take hA (by omega), ← ht, List.take_take]; congr 1; omega
  have h2 : ((ks.take i).flatMap listD).length = i * 19 := by rw [← h1, List.length_take]; omega
  rw [erase_flat]
  unfold over
  rw [h1]
  have h3 : ((ks.take i).flatMap listD ++ (ks.drop (i + 1)).flatMap listD ++ cur.drop (i * 19 + ((ks.drop (i + 1)).flatMap listD).length)).take ((i + m) * 19) = (ks.take i).flatMap listD ++ (ks.drop (i + 1)).flatMap listD := by
    rw [List.take_append_of_le_length (by rw [List.length_append, h2, hl]; omega), List.take_of_length_le (by rw [List.length_append, h2, hl]; omega)]
  rw [h3, List.append_assoc, List.take_append_of_le_length (by rw [List.length_append, h2, hl]; omega), List.take_of_length_le (by rw [List.length_append, h2, hl]; omega)]
set_option maxHeartbeats 8000000 in
theorem delete_c (w : World) (g cap : Nat) (ks : List Bd) (i m : Nat) (h : LstD w (.slice (some ⟨g, 0, none⟩) ks.length cap) ks) (hA : ∀ x ∈ ks, Okd x) (hl : ks.length ≤ 1000) (hm : ks.length = i + 1 + m) :
    Calls Try.prog 25 #[.slice (some ⟨g, 0, none⟩) ks.length cap, .int .i64 (i : Int), .int .i64 ((i + 1 : Nat) : Int)] w fun E w' => E = .returned (.slice (some ⟨g, 0, none⟩) (i + m) cap) ∧ LstD w' (.slice (some ⟨g, 0, none⟩) (i + m) cap) (ks.eraseIdx i) ∧ Away [g] w w' := by
  obtain ⟨cur, hb, hcm, hnc, htk, -⟩ := h.blk
  rw [hm] at hnc htk hl ⊢
  have HA := Lib.hid hA
  have HB := Lib.hid hb
  have HTK := Lib.hid htk
  have HCM := Lib.hid hcm
  have HM := Lib.hid hm
  have HXL : Hid (((ks.drop (i + 1)).flatMap listD).length = m * 19) := by show _ = _; rw [flatD_len _ (fun x hx => HA.out x (List.mem_of_mem_drop hx)), List.length_drop, hm, show i + 1 + m - (i + 1) = m from by omega]
  clear h hA hb hcm htk hm
  obtain ⟨j, hj⟩ : ∃ j, j = i + 1 := ⟨_, rfl⟩
  obtain ⟨n, hn⟩ : ∃ n, n = i + 1 + m := ⟨_, rfl⟩
  rw [← hn] at hnc hl HTK HM ⊢
  rw [← hj] at HXL ⊢
  have HJ := Lib.hid hj
  have HN := Lib.hid hn
  have f0 : n - j = m := by omega
  have f1 : 0 ≤ (i : Int) := by omega
  have f2 : (i : Int) ≤ (cap : Int) := by omega
  have f3 : (i : Int) ≤ (j : Int) := by omega
  have f4 : (j : Int) ≤ (n : Int) := by omega
  have f5 : (n : Int) ≤ (cap : Int) := by omega
  have f6 : 0 ≤ (j : Int) := by omega
  have f7 : i + m ≤ cap := by omega
  have f8 : ((i + m : Nat) : Int) ≤ (n : Int) := by omega
  have f9 : n - (i + m) = 1 := by omega
  have f10 : ¬ (cap = i + m) := by omega
  have e1b : ((i : Int) == (j : Int)) = false := by simp; omega
  have HSR : Hid (∀ k u, ((ks.drop j).flatMap listD)[k]? = some u → w.drew.cell? ⟨g, j * 19 + k, none⟩ = some u) := fun k u hk => by
    have hk' : k < m * 19 := by have := (List.getElem?_eq_some_iff.1 hk).1; rw [HXL.out] at this; exact this
    show w.cell? _ = _
    rw [HB.out.cell]
    rw [← flat_drop HA.out (by rw [HM.out]; omega), ← HTK.out, List.getElem?_drop, List.getElem?_take] at hk
    rw [if_pos (by omega)] at hk
    exact hk
  have HB' : Hid (Blk w.drew g cap cur) := HB.out
  have HONE : Hid (∀ u ∈ (ks.drop j).flatMap listD, u.oneCell' = true) := flatD_one _ (fun x hx => HA.out x (List.mem_of_mem_drop hx))
  have HDC : Hid ((over (over cur i ((ks.drop j).flatMap listD)) (i + m) (noughts 1)).take ((i + m) * 19) = (ks.eraseIdx i).flatMap listD) := by
    rw [hj]
    exact del_cells HA.out (by rw [HM.out, hn]) HB.out.2 (by omega) (by rw [← hn]; exact HTK.out)
  clear hj hn
  go_enter Try.func25, Try.ntmps25
  go_wp2_with fail
  by_cases hce : cap = j
  · have HX0 : Hid ((ks.drop j).flatMap listD = []) := List.eq_nil_of_length_eq_zero (by rw [HXL.out]; have h1 := HJ.out; have h2 := HN.out; omega)
    subst hce
    refine wp_region_held_drew (S := fun _ => True) (by kernel_rfl) trivial (fun hHeld => ?_)
    refine wpAnyH_take (i := 0) (v := ?_) (by simp only [List.getElem?_toArray, List.getElem?_cons_zero]; rfl) (by kernel_rfl) (by kernel_rfl) (by kernel_rfl) (by exact fun _ _ _ h => h) (Or.inl ⟨by rfl, ?_⟩) (by assumption) ?_
    rotate_left
    · intro wq hSw
      (try dsimp only at hSw)
      go_simp
      all_goals (with_reducible rfl)
    try simp only [Act.put, List.setIfInBounds_toArray, List.set_cons_zero, List.set_cons_succ]
    refine wpAnyH_take (i := 1) (v := ?_) (by simp only [List.getElem?_toArray, List.getElem?_cons_succ, List.getElem?_cons_zero]; rfl) (by kernel_rfl) (by kernel_rfl) (by kernel_rfl) (by exact fun _ _ _ h => h) (Or.inl ⟨by rfl, ?_⟩) (by assumption) ?_
    rotate_left
    · intro wq hSw
      (try dsimp only at hSw)
      go_simp
      all_goals (with_reducible rfl)
    try simp only [Act.put, List.setIfInBounds_toArray, List.set_cons_zero, List.set_cons_succ]
    refine wpAnyH_take (i := 2) (v := ?_) (by simp only [List.getElem?_toArray, List.getElem?_cons_succ, List.getElem?_cons_zero]; rfl) (by kernel_rfl) (by kernel_rfl) (by kernel_rfl) (by exact fun _ _ _ h => h) (Or.inl ⟨by rfl, ?_⟩) (by assumption) ?_
    rotate_left
    · intro wq hSw
      (try dsimp only at hSw)
      go_simp
      all_goals (with_reducible rfl)
    try simp only [Act.put, List.setIfInBounds_toArray, List.set_cons_zero, List.set_cons_succ]
    refine wpAnyH_take (i := 3) (v := ?_) (by simp only [List.getElem?_toArray, List.getElem?_cons_succ, List.getElem?_cons_zero]; rfl) (by kernel_rfl) (by kernel_rfl) (by kernel_rfl) (by exact fun _ _ _ h => h) (Or.inl ⟨by rfl, ?_⟩) (by assumption) ?_
    rotate_left
    · intro wq hSw
      (try dsimp only at hSw)
      go_simp
      all_goals (with_reducible rfl)
    try simp only [Act.put, List.setIfInBounds_toArray, List.set_cons_zero, List.set_cons_succ]
    refine wpAnyH_take (i := 4) (v := ?_) (by simp only [List.getElem?_toArray, List.getElem?_cons_succ, List.getElem?_cons_zero]; rfl) (by kernel_rfl) (by kernel_rfl) (by kernel_rfl) (by exact fun _ _ _ h => h) (Or.inl ⟨by rfl, ?_⟩) (by assumption) ?_
    rotate_left
    · intro wq hSw
      (try dsimp only at hSw)
      go_simp
      all_goals (with_reducible rfl)
    try simp only [Act.put, List.setIfInBounds_toArray, List.set_cons_zero, List.set_cons_succ]
    refine wpAnyH_take (i := 5) (v := ?_) (by simp only [List.getElem?_toArray, List.getElem?_cons_succ, List.getElem?_cons_zero]; rfl) (by kernel_rfl) (by kernel_rfl) (by kernel_rfl) (by exact fun _ _ _ h => h) (Or.inl ⟨by rfl, ?_⟩) (by assumption) ?_
    rotate_left
    · intro wq hSw
      (try dsimp only at hSw)
      go_simp
      all_goals (with_reducible rfl)
    try simp only [Act.put, List.setIfInBounds_toArray, List.set_cons_zero, List.set_cons_succ]
    refine wpAnyH_ready (rs := [6]) (by kernel_rfl) (by simp) ?_
    refine AllReadyH.cons (by simp only [List.getElem?_toArray, List.getElem?_cons_succ, List.getElem?_cons_zero]; rfl) (fun K hK => ?_) AllReadyH.nil
    refine step_appB rfl _ _ rfl g cap i m _ cur ((ks.drop cap).flatMap listD) ⟨g, 0, none⟩ rfl rfl (by exact HB'.out) (by omega) (by exact HXL.out) (fun k u hk => by rw [HX0.out] at hk; simp at hk) (by exact HONE.out) ?_
    intro w2 hb2 haw2
    have HB2 := Lib.hid hb2
    have HA2 : Hid (Away [g] w w2) := ⟨haw2.os, haw2.tape, haw2.output, haw2.size, haw2.block⟩
    clear hb2 haw2
    refine hK.out _ _ trivial (fun hHeld => ?_)
    clear hK K
    try simp only [Act.put, List.setIfInBounds_toArray, List.set_cons_zero, List.set_cons_succ]
    refine wpAnyH_take (i := 7) (v := ?_) (by simp only [List.getElem?_toArray, List.getElem?_cons_succ, List.getElem?_cons_zero]; rfl) (by kernel_rfl) (by kernel_rfl) (by kernel_rfl) (by exact fun _ _ _ h => h) (Or.inl ⟨by rfl, ?_⟩) (by assumption) ?_
    rotate_left
    · intro wq hSw
      (try dsimp only at hSw)
      go_simp
      all_goals (with_reducible rfl)
    try simp only [Act.put, List.setIfInBounds_toArray, List.set_cons_zero, List.set_cons_succ]
    refine wpAnyH_done (by kernel_rfl) ?_ _
    go_wp2_with (refine wpList_clearB rfl _ rfl g cap (i + m) (n - (i + m)) (cap - (i + m)) (over cur i ((ks.drop cap).flatMap listD)) (some ⟨g, (i + m) * 19, none⟩) rfl (by unfold fromA; rw [if_neg (by omega)]) (by exact HB2.out) (by omega) ?_; refine Hid.out ?_)
    refine Lib.hid ?_
    intro w3 hb3 haw3
    have HB3 := Lib.hid hb3
    replace HA2 := Lib.hid (HA2.out.trans haw3)
    clear hb3 haw3
    go_wp2_with fail
    go_ret
    exact ⟨rfl, HB3.out.lst (fun x hx => HA.out x (List.mem_of_mem_eraseIdx hx)) HCM.out (by rw [List.length_eraseIdx, if_pos (by rw [HM.out]; have h1 := HN.out; omega), HM.out]; have h1 := HN.out; omega) (by omega) HDC.out, HA2.out⟩
  · have hce2 := hce
    refine wp_region_held_drew (S := fun _ => True) (by kernel_rfl) trivial (fun hHeld => ?_)
    refine wpAnyH_take (i := 0) (v := ?_) (by simp only [List.getElem?_toArray, List.getElem?_cons_zero]; rfl) (by kernel_rfl) (by kernel_rfl) (by kernel_rfl) (by exact fun _ _ _ h => h) (Or.inl ⟨by rfl, ?_⟩) (by assumption) ?_
    rotate_left
    · intro wq hSw
      (try dsimp only at hSw)
      go_simp
      all_goals (with_reducible rfl)
    try simp only [Act.put, List.setIfInBounds_toArray, List.set_cons_zero, List.set_cons_succ]
    refine wpAnyH_take (i := 1) (v := ?_) (by simp only [List.getElem?_toArray, List.getElem?_cons_succ, List.getElem?_cons_zero]; rfl) (by kernel_rfl) (by kernel_rfl) (by kernel_rfl) (by exact fun _ _ _ h => h) (Or.inl ⟨by rfl, ?_⟩) (by assumption) ?_
    rotate_left
    · intro wq hSw
      (try dsimp only at hSw)
      go_simp
      all_goals (with_reducible rfl)
    try simp only [Act.put, List.setIfInBounds_toArray, List.set_cons_zero, List.set_cons_succ]
    refine wpAnyH_take (i := 2) (v := ?_) (by simp only [List.getElem?_toArray, List.getElem?_cons_succ, List.getElem?_cons_zero]; rfl) (by kernel_rfl) (by kernel_rfl) (by kernel_rfl) (by exact fun _ _ _ h => h) (Or.inl ⟨by rfl, ?_⟩) (by assumption) ?_
    rotate_left
    · intro wq hSw
      (try dsimp only at hSw)
      go_simp
      all_goals (with_reducible rfl)
    try simp only [Act.put, List.setIfInBounds_toArray, List.set_cons_zero, List.set_cons_succ]
    refine wpAnyH_take (i := 3) (v := ?_) (by simp only [List.getElem?_toArray, List.getElem?_cons_succ, List.getElem?_cons_zero]; rfl) (by kernel_rfl) (by kernel_rfl) (by kernel_rfl) (by exact fun _ _ _ h => h) (Or.inl ⟨by rfl, ?_⟩) (by assumption) ?_
    rotate_left
    · intro wq hSw
      (try dsimp only at hSw)
      go_simp
      all_goals (with_reducible rfl)
    try simp only [Act.put, List.setIfInBounds_toArray, List.set_cons_zero, List.set_cons_succ]
    refine wpAnyH_take (i := 4) (v := ?_) (by simp only [List.getElem?_toArray, List.getElem?_cons_succ, List.getElem?_cons_zero]; rfl) (by kernel_rfl) (by kernel_rfl) (by kernel_rfl) (by exact fun _ _ _ h => h) (Or.inl ⟨by rfl, ?_⟩) (by assumption) ?_
    rotate_left
    · intro wq hSw
      (try dsimp only at hSw)
      go_simp
      all_goals (with_reducible rfl)
    try simp only [Act.put, List.setIfInBounds_toArray, List.set_cons_zero, List.set_cons_succ]
    refine wpAnyH_take (i := 5) (v := ?_) (by simp only [List.getElem?_toArray, List.getElem?_cons_succ, List.getElem?_cons_zero]; rfl) (by kernel_rfl) (by kernel_rfl) (by kernel_rfl) (by exact fun _ _ _ h => h) (Or.inl ⟨by rfl, ?_⟩) (by assumption) ?_
    rotate_left
    · intro wq hSw
      (try dsimp only at hSw)
      go_simp
      all_goals (with_reducible rfl)
    try simp only [Act.put, List.setIfInBounds_toArray, List.set_cons_zero, List.set_cons_succ]
    refine wpAnyH_ready (rs := [6]) (by kernel_rfl) (by simp) ?_
    refine AllReadyH.cons (by simp only [List.getElem?_toArray, List.getElem?_cons_succ, List.getElem?_cons_zero]; rfl) (fun K hK => ?_) AllReadyH.nil
    refine step_appB rfl _ _ rfl g cap i m _ cur ((ks.drop j).flatMap listD) ⟨g, j * 19, none⟩ rfl rfl (by exact HB'.out) (by omega) (by exact HXL.out) (fun k u hk => by rw [add_plain]; exact HSR.out k u hk) (by exact HONE.out) ?_
    intro w2 hb2 haw2
    have HB2 := Lib.hid hb2
    have HA2 : Hid (Away [g] w w2) := ⟨haw2.os, haw2.tape, haw2.output, haw2.size, haw2.block⟩
    clear hb2 haw2
    refine hK.out _ _ trivial (fun hHeld => ?_)
    clear hK K
    try simp only [Act.put, List.setIfInBounds_toArray, List.set_cons_zero, List.set_cons_succ]
    refine wpAnyH_take (i := 7) (v := ?_) (by simp only [List.getElem?_toArray, List.getElem?_cons_succ, List.getElem?_cons_zero]; rfl) (by kernel_rfl) (by kernel_rfl) (by kernel_rfl) (by exact fun _ _ _ h => h) (Or.inl ⟨by rfl, ?_⟩) (by assumption) ?_
    rotate_left
    · intro wq hSw
      (try dsimp only at hSw)
      go_simp
      all_goals (with_reducible rfl)
    try simp only [Act.put, List.setIfInBounds_toArray, List.set_cons_zero, List.set_cons_succ]
    refine wpAnyH_done (by kernel_rfl) ?_ _
    go_wp2_with (refine wpList_clearB rfl _ rfl g cap (i + m) (n - (i + m)) (cap - (i + m)) (over cur i ((ks.drop j).flatMap listD)) (some ⟨g, (i + m) * 19, none⟩) rfl (by unfold fromA; rw [if_neg (by omega)]) (by exact HB2.out) (by omega) ?_; refine Hid.out ?_)
    refine Lib.hid ?_
    intro w3 hb3 haw3
    have HB3 := Lib.hid hb3
    replace HA2 := Lib.hid (HA2.out.trans haw3)
    clear hb3 haw3
    go_wp2_with fail
    go_ret
    exact ⟨rfl, HB3.out.lst (fun x hx => HA.out x (List.mem_of_mem_eraseIdx hx)) HCM.out (by rw [List.length_eraseIdx, if_pos (by rw [HM.out]; have h1 := HN.out; omega), HM.out]; have h1 := HN.out; omega) (by omega) HDC.out, HA2.out⟩
end Go.Proofs.Ytemdgggpfadecaa.KB
