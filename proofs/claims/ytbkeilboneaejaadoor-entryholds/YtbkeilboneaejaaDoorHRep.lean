/-
  slices.Insert of nothing, slices.Replace.
-/
import Derived.Test.YtbkeilboneaejaaDoorHBlk
namespace Go.Proofs.YtbkeilboneaejaaDoor.H
open Go.ChangeShapes Go.WideShapes Go.ChangeAt Go.RowKit
set_option linter.unusedVariables false
set_option linter.unusedSimpArgs false

theorem run_appB (w : World) (ty : TypeId) (g cap i k sc : Nat) (cur xs : List Value) (ad : Option Addr) (hb : Blk w g cap cur) (hk : xs.length = k * 2) (hroom : i + k ≤ cap) (hs : Src w ad xs) (hnil : ad = none → k = 0)
    (h1 : ∀ v ∈ xs, v.oneCell' = true) :
    ∃ w', (Builtin.append_ #[63, 63] ty #[.slice (some ⟨g, 0, none⟩) i cap, .slice ad k sc]).run Tryd.prog w = .ok (.slice (some ⟨g, 0, none⟩) (i + k) cap) w' ∧ Blk w' g cap (over cur i xs) ∧ Away [g] w w' := by
  obtain ⟨i0, hi, hz0, hz1, hz2⟩ := info_parts info50
  rcases Nat.eq_zero_or_pos k with rfl | hpos
  · obtain rfl : xs = [] := List.eq_nil_of_length_eq_zero (by simpa using hk)
    refine ⟨w, ?_, by rw [over_nil]; exact hb, Away.refl _ _⟩
    have hl : ∀ p : Addr, (loadCells p 0).run Tryd.prog w = .ok #[] w := fun p => by
      have := run_loadCells_list (P := Tryd.prog) w p [] (by simp)
      simpa using this
    have hr : i ≤ cap := by omega
    rcases ad with _ | ad <;> simp [Builtin.append_, run_underlying Tryd.underlying63, Builtin.lenOf, Builtin.firstCells, sizeOf, typeInfo, hi, hz1, hl, hr, storeCells]
  · have hx : xs ≠ [] := fun e => by rw [e] at hk; simp at hk; omega
    rcases hs with rfl | ⟨p, rfl, hsrc⟩
    · exact absurd rfl hx
    · have hl := run_loadCells_list (P := Tryd.prog) w p xs hsrc
      rw [hk] at hl
      obtain ⟨r1, r2⟩ := hb.set (o := i) (xs := xs) (by have := hb.2; omega) h1
      refine ⟨_, ?_, r2, (Away.refl _ _).setRow (.inl (by simp)) _⟩
      simp [Builtin.append_, run_underlying Tryd.underlying63, Builtin.lenOf, Builtin.firstCells, sizeOf, typeInfo, hi, hz1, hl, hroom, add_plain, r1]
theorem Src.away {S : List Nat} {w w' : World} {ad : Option Addr} {xs : List Value} (h : Src w ad xs) (hw : Away S w w') (hn : ∀ p, ad = some p → p.block ∉ S ∧ p.spot = none) : Src w' ad xs := by
  rcases h with h | ⟨p, rfl, h⟩
  · exact .inl h
  · refine .inr ⟨p, rfl, fun j u hj => ?_⟩
    obtain ⟨h1, h2⟩ := hn p rfl
    obtain ⟨b, o, s⟩ := p
    simp only at h1 h2
    subst h2
    have := h j u hj
    rw [add_plain] at this ⊢
    exact hw.cell h1 this
/-- The last cells of a block, as a source. -/
theorem Blk.src {w : World} {g cap j n : Nat} {cur : List Value} (h : Blk w g cap cur) (hn : n ≤ cap) (hj : j ≤ n) : Src w (fromA g cap j) ((cur.take (n * 2)).drop (j * 2)) := by
  unfold fromA
  by_cases e : cap = j
  · left
    have : n = j := by omega
    subst this
    simp
  · right
    rw [if_neg e]
    refine ⟨_, rfl, fun t u ht => ?_⟩
    rw [add_plain, h.cell]
    rw [List.getElem?_drop, List.getElem?_take] at ht
    split at ht
    · exact ht
    · simp at ht
theorem Lst.src {w : World} {ua : Option Addr} {k uc : Nat} {x : List Sp} (h : Lst w (.slice ua k uc) x) : Src w ua (x.flatMap encS) ∧ (ua = none → k = 0) ∧ x.length = k ∧ (∀ p, ua = some p → p.spot = none) := by
  rcases h.2 with ⟨h2, h3⟩ | ⟨g', cap', cur, he, hg, hh, hn, hc, hs, ht⟩
  · obtain rfl : x = [] := by simpa using h3
    simp only [Value.slice.injEq] at h2
    obtain ⟨rfl, rfl, rfl⟩ := h2
    exact ⟨.inl rfl, fun _ => rfl, rfl, by simp⟩
  · simp only [Value.slice.injEq] at he
    obtain ⟨rfl, rfl, rfl⟩ := he
    refine ⟨.inr ⟨_, rfl, fun j u hj => ?_⟩, by simp, rfl, by simp⟩
    rw [add_plain, Nat.zero_add, cell_of_block hh]
    rw [← ht, List.getElem?_take] at hj
    split at hj
    · simpa using hj
    · simp at hj
theorem flat_take (l : List Sp) (k : Nat) : (l.take k).flatMap encS = (l.flatMap encS).take (k * 2) := by
  induction l generalizing k with
  | nil => simp
  | cons x r ih =>
    cases k with
    | zero => simp
    | succ k =>
      rw [List.take_succ_cons, List.flatMap_cons, List.flatMap_cons, ih]
      rw [show (k + 1) * 2 = k * 2 + 1 + 1 from by omega]
      simp [encS]
theorem flat_drop (l : List Sp) (k : Nat) : (l.drop k).flatMap encS = (l.flatMap encS).drop (k * 2) := by
  induction l generalizing k with
  | nil => simp
  | cons x r ih =>
    cases k with
    | zero => simp
    | succ k =>
      rw [List.drop_succ_cons, List.flatMap_cons, ih]
      rw [show (k + 1) * 2 = k * 2 + 1 + 1 from by omega]
      simp [encS]
theorem one_sub {l : List Sp} {n : Nat} {cur : List Value} (ht : cur.take (n * 2) = l.flatMap encS) (j : Nat) : ∀ v ∈ (cur.take (n * 2)).drop (j * 2), v.oneCell' = true := fun v hv => by
  rw [ht] at hv; exact flat_one l v (List.mem_of_mem_drop hv)

set_option maxHeartbeats 1000000 in
theorem insert_c (a : Option Addr) (n cap i : Nat) (ua : Option Addr) (uc : Nat) (w : World) (hi : i ≤ n) (hn : n ≤ cap) :
    Calls Tryd.prog 80 #[.slice a n cap, .int .i64 i, .slice ua 0 uc] w fun E w' => E = .returned (.slice a n cap) ∧ w' = w := by
  obtain ⟨A1, hA1⟩ : ∃ A1, A1 = if cap = i then a else a.map (·.add (i * 2)) := ⟨_, rfl⟩
  have hs := slice_l a A1 n cap i (i : Int) hA1 rfl hi
  clear hA1
  go_enter Tryd.func80, Tryd.ntmps80
  go_wp2_with fail
  go_ret
  exact ⟨rfl, rfl⟩

/-! What stands in the block at the end. -/
theorem get_take {α : Type} {l : List α} {n i : Nat} (h : i < n) : (l.take n)[i]? = l[i]? := by rw [List.getElem?_take, if_pos h]
/-- The cells of the new list. -/
def newC (l x : List Sp) (i j : Nat) : List Sp := l.take i ++ x ++ l.drop j
theorem newC_len {l x : List Sp} {i j n k : Nat} (hn : l.length = n) (hk : x.length = k) (hi : i ≤ n) (hj : j ≤ n) : (newC l x i j).length = i + k + (n - j) := by
  unfold newC; simp [hn, hk]; omega
theorem newC_flat {l x : List Sp} {i j n : Nat} {cur : List Value} (ht : cur.take (n * 2) = l.flatMap encS) (hi : i ≤ n) : (newC l x i j).flatMap encS = cur.take (i * 2) ++ x.flatMap encS ++ (cur.take (n * 2)).drop (j * 2) := by
  unfold newC
  rw [List.flatMap_append, List.flatMap_append, flat_take, flat_drop, ← ht, List.take_take, show min (i * 2) (n * 2) = i * 2 from by omega]
/-- By the cells: first i spans as they were, then x, then the last. -/
theorem fin_take {cur fin xs ys : List Value} {i k q : Nat} (hx : xs.length = k * 2) (hy : ys.length = q * 2) (hc : i * 2 ≤ cur.length) (hf : i * 2 + k * 2 + q * 2 ≤ fin.length)
    (h1 : ∀ t, t < i * 2 → fin[t]? = cur[t]?) (h2 : ∀ t, t < k * 2 → fin[i * 2 + t]? = xs[t]?) (h3 : ∀ t, t < q * 2 → fin[i * 2 + k * 2 + t]? = ys[t]?) :
    fin.take ((i + k + q) * 2) = cur.take (i * 2) ++ xs ++ ys := by
  apply List.ext_getElem?
  intro t
  have hl : (cur.take (i * 2)).length = i * 2 := by simp; omega
  by_cases c1 : t < i * 2
  · rw [get_take (by omega), h1 t c1, List.append_assoc, List.getElem?_append_left (by omega), get_take c1]
  · by_cases c2 : t < i * 2 + k * 2
    · rw [get_take (by omega), List.append_assoc, List.getElem?_append_right (by omega), hl, List.getElem?_append_left (by omega), ← h2 (t - i * 2) (by omega)]
      congr 1; omega
    · by_cases c3 : t < i * 2 + k * 2 + q * 2
      · have hl2 : (cur.take (i * 2) ++ xs).length = i * 2 + k * 2 := by rw [List.length_append, hl, hx]
        rw [get_take (by omega), List.getElem?_append_right (by omega), hl2]
        have := h3 (t - (i * 2 + k * 2)) (by omega)
        rw [show i * 2 + k * 2 + (t - (i * 2 + k * 2)) = t from by omega] at this
        exact this
      · rw [List.getElem?_eq_none (by simp; omega), List.getElem?_eq_none (by simp; omega)]
end Go.Proofs.YtbkeilboneaejaaDoor.H
