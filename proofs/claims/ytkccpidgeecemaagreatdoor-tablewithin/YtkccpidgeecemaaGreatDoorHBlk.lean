/-
  Blocks of spans: reslices, copy, clear, an append of make; slices.overlaps.
-/
import Derived.Test.YtkccpidgeecemaaGreatDoorHFn4
import Derived.Lib.Overlaps
import Derived.Lib.AppendZerosOnto
import Derived.Laws.CopyRow
import Derived.Laws.Externs
namespace Go.Proofs.YtkccpidgeecemaaGreatDoor.H
open Go.ChangeShapes Go.WideShapes Go.ChangeAt Go.RowKit
set_option linter.unusedVariables false
set_option maxRecDepth 20000
set_option linter.unusedSimpArgs false

theorem size50 (wx : World) : (sizeOf (Tryz.prog.elem 102)).run Tryz.prog wx = .ok 2 wx := by kernel_rfl
theorem under27 : Tryz.prog.underlying 102 = some (.slice (Tryz.prog.elem 102)) := by kernel_rfl
theorem slice_lh (a A : Option Addr) (len cap k m : Nat) (lo hi : Int) (hA : A = if cap = k then a else a.map (·.add (k * 2))) (hlo : lo = k) (hhi : hi = k + m) (hm : k + m ≤ cap) (wx : World) :
    (Instr.sliceAt 102 (.slice a len cap) (some (.int .i64 lo)) (some (.int .i64 hi)) none).run Tryz.prog wx = .ok (.slice A m (cap - k)) wx := by
  subst hlo; subst hhi; subst hA
  rw [run_sliceAt_slice (h := under27), run_slice_lh (ht := under27) (h0 := by omega) (h1 := by omega) (h2 := by omega), size50]
  simp only [Result.andThen, sliced]
  rw [show (k : Int).toNat = k from by omega, show ((k : Int) + m).toNat = k + m from by omega, show k + m - k = m from by omega]
theorem slice_l (a A : Option Addr) (len cap k : Nat) (lo : Int) (hA : A = if cap = k then a else a.map (·.add (k * 2))) (hlo : lo = k) (hm : k ≤ len) (wx : World) :
    (Instr.sliceAt 102 (.slice a len cap) (some (.int .i64 lo)) none none).run Tryz.prog wx = .ok (.slice A (len - k) (cap - k)) wx := by
  subst hlo; subst hA
  rw [run_sliceAt_slice (h := under27), run_slice_l (ht := under27) (h0 := by omega) (h1 := by omega), size50]
  simp only [Result.andThen, sliced]
  rw [show (k : Int).toNat = k from by omega]
theorem slice_h (a : Option Addr) (len cap m : Nat) (hi : Int) (hhi : hi = m) (hm : m ≤ cap) (wx : World) :
    (Instr.sliceAt 102 (.slice a len cap) none (some (.int .i64 hi)) none).run Tryz.prog wx = .ok (.slice a m cap) wx := by
  subst hhi
  rw [run_sliceAt_slice (h := under27), run_slice_h (ht := under27) (h0 := by omega) (h2 := by omega), size50]
  simp only [Result.andThen, sliced]
  rw [show (m : Int).toNat = m from by omega]
  simp [Addr.add]

/-- A block for cap spans, as its cells. -/
def Blk (w : World) (g cap : Nat) (cur : List Value) : Prop := w.heap[g]? = some (.cells cur.toArray 112 (0, 0)) ∧ cur.length = cap * 2
theorem Blk.away {S : List Nat} {w w' : World} {g cap : Nat} {cur : List Value} (h : Blk w g cap cur) (hw : Away S w w') (hg : g ∉ S) : Blk w' g cap cur := ⟨hw.keep hg h.1, h.2⟩
theorem Blk.lst {w : World} {g n cap : Nat} {l : List Sp} {cur : List Value} (h : Blk w g cap cur) (hc : cap ≤ maxLen) (hn : l.length = n) (hnc : n ≤ cap) (ht : cur.take (n * 2) = l.flatMap encS) : Lst w (.slice (some ⟨g, 0, none⟩) n cap) l := by
  subst hn
  exact ⟨flat_two l, .inr ⟨g, cap, cur.toArray, rfl, Nat.zero_le _, h.1, hnc, hc, by simpa using h.2, by simpa using ht⟩⟩
theorem Lst.blk {w : World} {g n cap : Nat} {l : List Sp} (h : Lst w (.slice (some ⟨g, 0, none⟩) n cap) l) : ∃ cur, Blk w g cap cur ∧ cap ≤ maxLen ∧ n ≤ cap ∧ cur.take (n * 2) = l.flatMap encS ∧ l.length = n := by
  rcases h.2 with ⟨h2, _⟩ | ⟨g', cap', cur, he, hg, hh, hn, hc, hs, ht⟩
  · simp at h2
  · simp only [Value.slice.injEq, Option.some.injEq, Addr.mk.injEq] at he
    obtain ⟨⟨rfl, -, -⟩, rfl, rfl⟩ := he
    exact ⟨cur.toList, ⟨by simpa using hh, by simpa using hs⟩, hc, hn, ht, rfl⟩
theorem Blk.cell {w : World} {g cap : Nat} {cur : List Value} (h : Blk w g cap cur) (i : Nat) : w.cell? ⟨g, i, none⟩ = cur[i]? := by rw [cell_of_block h.1]; simp
/-- Where a reslice from o on begins. -/
def fromA (g cap o : Nat) : Option Addr := if cap = o then some ⟨g, 0, none⟩ else some ⟨g, o * 2, none⟩
theorem fromA_eq (g cap o : Nat) : fromA g cap o = if cap = o then some ⟨g, 0, none⟩ else (some (⟨g, 0, none⟩ : Addr)).map (·.add (o * 2)) := by
  unfold fromA; simp [add_plain]
/-- What was written at place o. -/
def over (cur : List Value) (o : Nat) (xs : List Value) : List Value := cur.take (o * 2) ++ xs ++ cur.drop (o * 2 + xs.length)
theorem over_len {cur xs : List Value} {o : Nat} (h : o * 2 + xs.length ≤ cur.length) : (over cur o xs).length = cur.length := by
  unfold over; simp; omega
theorem over_nil (cur : List Value) (o : Nat) : over cur o [] = cur := by simp [over]
theorem over_get {cur xs : List Value} {o : Nat} (h : o * 2 + xs.length ≤ cur.length) (i : Nat) : (over cur o xs)[i]? = if i < o * 2 then cur[i]? else if i < o * 2 + xs.length then xs[i - o * 2]? else cur[i]? := by
  unfold over
  have hl : (cur.take (o * 2)).length = o * 2 := by simp; omega
  by_cases h1 : i < o * 2
  · rw [if_pos h1, List.append_assoc, List.getElem?_append_left (by omega), List.getElem?_take, if_pos h1]
  · rw [if_neg h1, List.append_assoc, List.getElem?_append_right (by omega), hl]
    by_cases h2 : i < o * 2 + xs.length
    · rw [if_pos h2, List.getElem?_append_left (by omega)]
    · rw [if_neg h2, List.getElem?_append_right (by omega), List.getElem?_drop]
      congr 1; omega
theorem Blk.set {w : World} {g cap o : Nat} {cur xs : List Value} (h : Blk w g cap cur) (hf : o * 2 + xs.length ≤ cur.length) (h1 : ∀ v ∈ xs, v.oneCell' = true) :
    (storeCells ⟨g, o * 2, none⟩ xs 0).run Tryz.prog w = .ok () (w.setRow g (over cur o xs).toArray) ∧ Blk (w.setRow g (over cur o xs).toArray) g cap (over cur o xs) := by
  have := run_storeCells_at Tryz.prog g (o * 2) 112 xs 0 cur.toArray w h.1 (by simpa using hf) h1
  refine ⟨by simpa [over] using this, setRow_heap w g _ _ 112 _ h.1, by rw [over_len hf]; exact h.2⟩
/-- What a slice's first k spans hold, as cells. -/
def Src (w : World) (ad : Option Addr) (xs : List Value) : Prop := xs = [] ∨ ∃ p, ad = some p ∧ ∀ j u, xs[j]? = some u → w.cell? (p.add j) = some u
theorem run_copyB (w : World) (ty : TypeId) (g cap o n c k sc : Nat) (cur xs : List Value) (D ad : Option Addr) (hD : D = fromA g cap o) (hb : Blk w g cap cur) (hn : o + n ≤ cap) (hk : xs.length = k * 2) (hkn : k ≤ n) (hs : Src w ad xs) (hnil : ad = none → k = 0)
    (h1 : ∀ v ∈ xs, v.oneCell' = true) :
    ∃ w', (Builtin.copy_ #[102, 102] ty #[.slice D n c, .slice ad k sc]).run Tryz.prog w = .ok (goInt k) w' ∧ Blk w' g cap (over cur o xs) ∧ Away [g] w w' := by
  obtain ⟨i0, hi, hz0, hz1, hz2⟩ := info_parts info50
  have hmin : Nat.min k n = k := Nat.min_eq_left hkn
  subst hD
  rcases Nat.eq_zero_or_pos k with rfl | hpos
  · obtain rfl : xs = [] := List.eq_nil_of_length_eq_zero (by simpa using hk)
    refine ⟨w, ?_, by rw [over_nil]; exact hb, Away.refl _ _⟩
    have hl : ∀ p : Addr, (loadCells p 0).run Tryz.prog w = .ok #[] w := fun p => by
      have := run_loadCells_list (P := Tryz.prog) w p [] (by simp)
      simpa using this
    have hm : Nat.min 0 n = 0 := Nat.zero_min n
    unfold fromA
    rcases ad with _ | ad <;> (split <;> simp [Builtin.copy_, run_underlying Tryz.underlying102, Builtin.lenOf, Builtin.firstCells, sizeOf, typeInfo, hi, hm, hl, storeCells])
  · have hx : xs ≠ [] := fun e => by rw [e] at hk; simp at hk; omega
    rcases hs with rfl | ⟨p, rfl, hsrc⟩
    · exact absurd rfl hx
    · have hl := run_loadCells_list (P := Tryz.prog) w p xs hsrc
      rw [hk] at hl
      obtain ⟨r1, r2⟩ := hb.set (o := o) (xs := xs) (by have := hb.2; omega) h1
      refine ⟨_, ?_, r2, (Away.refl _ _).setRow (.inl (by simp)) _⟩
      unfold fromA
      rw [if_neg (by omega)]
      simp [Builtin.copy_, run_underlying Tryz.underlying102, Builtin.lenOf, Builtin.firstCells, sizeOf, typeInfo, hi, hz1, hmin, hl, r1]
def noughts (n : Nat) : List Value := (Builtin.zeroCells (Value.agg #[.int .i64 0, .int .i64 0]).cells n).toList
theorem noughts_len (n : Nat) : (noughts n).length = n * 2 := by simp [noughts, Builtin.zeroCells, Value.cells]
theorem noughts_one (n : Nat) : ∀ v ∈ noughts n, v.oneCell' = true := by
  intro v hv
  simp only [noughts, Builtin.zeroCells, Value.cells, Array.toList_map, List.mem_map] at hv
  obtain ⟨i, -, rfl⟩ := hv
  have h2 : i % 2 = 0 ∨ i % 2 = 1 := by omega
  rcases h2 with h | h <;> simp [h, Value.oneCell']
theorem run_clearB (w : World) (ty : TypeId) (g cap o n c : Nat) (cur : List Value) (D : Option Addr) (hD : D = fromA g cap o) (hb : Blk w g cap cur) (hn : o + n ≤ cap) :
    ∃ w', (Builtin.clear_ #[102] ty #[.slice D n c]).run Tryz.prog w = .ok (.tuple #[]) w' ∧ Blk w' g cap (over cur o (noughts n)) ∧ Away [g] w w' := by
  obtain ⟨i0, hi, hz0, hz1, hz2⟩ := info_parts info50
  subst hD
  rcases n with _ | n
  · refine ⟨w, ?_, by rw [show noughts 0 = [] from List.eq_nil_of_length_eq_zero (by rw [noughts_len]), over_nil]; exact hb, Away.refl _ _⟩
    unfold fromA
    split <;> simp [Builtin.clear_, run_underlying Tryz.underlying102]
  · obtain ⟨r1, r2⟩ := hb.set (o := o) (xs := noughts (n + 1)) (by have := hb.2; rw [noughts_len]; omega) (noughts_one _)
    refine ⟨_, ?_, r2, (Away.refl _ _).setRow (.inl (by simp)) _⟩
    unfold fromA
    rw [if_neg (by omega)]
    unfold noughts at r1
    simp [Builtin.clear_, run_underlying Tryz.underlying102, zeroValue, typeInfo, hi, hz0, r1, noughts]
/-- append(s[:i], make(S, k)...), where s has no room for it. -/
theorem run_makeB (w : World) (ty : TypeId) (g cap i k : Nat) (cur : List Value) (hb : Blk w g cap cur) (hi' : i ≤ cap) (hk : 0 < k) (hg : cap < i + k) (hs : i + k ≤ 8796093022208) :
    ∃ w' cap', (∀ K : Int, K = k → (Builtin.append_ #[102, 3] ty #[.slice (some ⟨g, 0, none⟩) i cap, .int .i64 K]).run Tryz.prog w = .ok (.slice (some ⟨w.heap.size, 0, none⟩) (i + k) cap') w') ∧
      Blk w' w.heap.size cap' (cur.take (i * 2) ++ noughts (cap' - i)) ∧ i + k ≤ cap' ∧ cap' ≤ maxLen ∧ Away [] w w' := by
  obtain ⟨i0, hi, hz0, hz1, hz2⟩ := info_parts info50
  have htn : Tryz.prog.underlying 3 = some (.int .i64) := by kernel_rfl
  have hlen : (cur.take (i * 2)).length = i * 2 := by have := hb.2; simp; omega
  have hold : (Builtin.firstCells i0.size i (.slice (some ⟨g, 0, none⟩) i cap)).run Tryz.prog w.drew = .ok (cur.take (i * 2)).toArray w.drew := by
    have := run_loadCells_list (P := Tryz.prog) w.drew ⟨g, 0, none⟩ (cur.take (i * 2)) (fun j u hj => by
      rw [add_plain, Nat.zero_add]
      have hc := hb.cell j
      show w.cell? _ = _
      rw [hc]
      rw [List.getElem?_take] at hj
      split at hj
      · exact hj
      · simp at hj)
    rw [hlen] at this
    simpa [Builtin.firstCells, hz1] using this
  have hge := grownCap_ge w (i + k) cap 112
  have hr := Lib.run_append_grow_zeros (P := Tryz.prog) w 102 3 ty 112 i0 _ .i64 .i64 Tryz.underlying102 htn hi hz0 (some ⟨g, 0, none⟩) i cap (cur.take (i * 2)) hold k hk (by rw [hz1]; omega) hg (by omega) (by rw [hz2]; omega) (by rw [hz2]; exact growslice_fits hg (by omega))
  refine ⟨_, _, fun K hK => by rw [hK]; exact hr, ⟨?_, ?_⟩, hge, grownCap_le_maxLen w (i + k) cap 112 (by unfold maxLen; omega), ((Away.refl _ _).drew).alloc _⟩
  · have e : (cur.take (i * 2)).toArray ++ Builtin.zeroCells (Value.agg #[.int .i64 0, .int .i64 0]).cells k ++ Builtin.zeroCells (Value.agg #[.int .i64 0, .int .i64 0]).cells (grownCap w (i + k) cap 112 - (i + k)) = (cur.take (i * 2) ++ noughts (grownCap w (i + k) cap 112 - i)).toArray := by
      apply Array.toList_inj.1
      simp only [Array.toList_append, List.append_assoc]
      congr 1
      have e2 : grownCap w (i + k) cap 112 - i = k + (grownCap w (i + k) cap 112 - (i + k)) := by omega
      rw [e2]
      generalize grownCap w (i + k) cap 112 - (i + k) = q
      unfold noughts Builtin.zeroCells
      simp only [Value.cells, Array.toList_map, Array.toList_range, List.size_toArray, List.length_cons, List.length_nil]
      rw [show (k + q) * (0 + 1 + 1) = k * (0 + 1 + 1) + q * (0 + 1 + 1) from by omega, List.range_add, List.map_append]
      congr 1
      rw [List.map_map]
      apply List.map_congr_left
      intro x _
      simp only [Function.comp_apply]
      congr 1
      omega
    rw [← e]
    exact heap_alloc_new w.drew _
  · rw [List.length_append, hlen, noughts_len]; omega
/-- v does not meet what lies in another block. -/
theorem overlaps_c (w : World) (g cap o n c : Nat) (cur cur' : List Value) (D : Option Addr) (hD : D = fromA g cap o) (hb : Blk w g cap cur) (g' cap' m : Nat) (hb' : Blk w g' cap' cur') (hne : g ≠ g') (hc : cap' ≠ 0) :
    (callFunc 108 #[.slice D n c, .slice (some ⟨g', 0, none⟩) m cap']).run Tryz.prog w = .ok (.value (.bool false)) w := by
  subst hD
  rw [run_callFunc_extern Tryz.func108 (by kernel_rfl) (by kernel_rfl) (by kernel_rfl) (e := Extern.SlicesOverlaps.overlaps #[102, 102] #[4]) (by kernel_rfl)]
  have hsh : w.shape? g = some (112, cur.length) := by simp [World.shape?, hb.1]
  have hsh' : w.shape? g' = some (112, cur'.length) := by simp [World.shape?, hb'.1]
  have hz : ∀ w, (Go.sizeOf 112).run Tryz.prog w = .ok 2 w := fun w => by kernel_rfl
  have key : ∀ p : Addr, p.block = g → w.frozen? p = false → (Extern.SlicesOverlaps.overlaps #[102, 102] #[4] #[.slice (some p) n c, .slice (some ⟨g', 0, none⟩) m cap']).run Tryz.prog w = .ok (.bool false) w := fun p hp hf => by
    exact Lib.run_overlaps_apart w 102 4 112 Tryz.underlying102 2 hz p ⟨g', 0, none⟩ n c m cap' (by rw [hp]; exact hne) 112 112 cur.length cur'.length (by rw [hp]; exact hsh) hsh' (by have := hb'.2; omega) hf (by rw [hp]; exact free_of_block hb.1 _)
  unfold fromA
  split
  · rw [key _ rfl (free_of_block hb.1 _)]; rfl
  · rw [key _ rfl (free_of_block hb.1 _)]; rfl
end Go.Proofs.YtkccpidgeecemaaGreatDoor.H
