/-
  slices.Replace, the three ways in the middle.
-/
import Derived.Test.YtkccpidgeecemaaGreatDoorHfA
namespace Go.Proofs.YtkccpidgeecemaaGreatDoor.H
open Go.ChangeShapes Go.WideShapes Go.ChangeAt Go.RowKit
set_option linter.unusedVariables false
set_option linter.unusedSimpArgs false
theorem run_appB (w : World) (ty : TypeId) (g cap i k sc : Nat) (cur xs : List Value) (ad : Option Addr) (hb : Blk w g cap cur) (hk : xs.length = k * 2) (hroom : i + k ≤ cap) (hs : Src w ad xs) (hnil : ad = none → k = 0)
    (h1 : ∀ v ∈ xs, v.oneCell' = true) :
    ∃ w', (Builtin.append_ #[102, 102] ty #[.slice (some ⟨g, 0, none⟩) i cap, .slice ad k sc]).run Tryz.prog w = .ok (.slice (some ⟨g, 0, none⟩) (i + k) cap) w' ∧ Blk w' g cap (over cur i xs) ∧ Away [g] w w' := by
  obtain ⟨i0, hi, hz0, hz1, hz2⟩ := info_parts info50
  rcases Nat.eq_zero_or_pos k with rfl | hpos
  · obtain rfl : xs = [] := List.eq_nil_of_length_eq_zero (by simpa using hk)
    refine ⟨w, ?_, by rw [over_nil]; exact hb, Away.refl _ _⟩
    have hl : ∀ p : Addr, (loadCells p 0).run Tryz.prog w = .ok #[] w := fun p => by
      have := run_loadCells_list (P := Tryz.prog) w p [] (by simp)
      simpa using this
    have hr : i ≤ cap := by omega
    rcases ad with _ | ad <;> simp [Builtin.append_, run_underlying Tryz.underlying102, Builtin.lenOf, Builtin.firstCells, sizeOf, typeInfo, hi, hz1, hl, hr, storeCells]
  · have hx : xs ≠ [] := fun e => by rw [e] at hk; simp at hk; omega
    rcases hs with rfl | ⟨p, rfl, hsrc⟩
    · exact absurd rfl hx
    · have hl := run_loadCells_list (P := Tryz.prog) w p xs hsrc
      rw [hk] at hl
      obtain ⟨r1, r2⟩ := hb.set (o := i) (xs := xs) (by have := hb.2; omega) h1
      refine ⟨_, ?_, r2, (Away.refl _ _).setRow (.inl (by simp)) _⟩
      simp [Builtin.append_, run_underlying Tryz.underlying102, Builtin.lenOf, Builtin.firstCells, sizeOf, typeInfo, hi, hz1, hl, hroom, add_plain, r1]
theorem Src.away {S : List Nat} {w w' : World} {ad : Option Addr} {xs : List Value} (h : Src w ad xs) (hw : Away S w w') (hn : ∀ p, ad = some p → p.block ∉ S ∧ p.spot = none) : Src w' ad xs := by
  rcases h with h | ⟨p, rfl, h⟩
  · exact .inl h
  · refine .inr ⟨p, rfl, fun j u hj => ?_⟩
    obtain ⟨h1, h2⟩ := hn p rfl
    obtain ⟨b, o, s⟩ := p
    simp only at h1 h2
    subst h2
    have := h j u hj
    rw [add_plain] at this ⊢
    exact hw.cell h1 this
theorem Blk.src {w : World} {g cap j n : Nat} {cur : List Value} (h : Blk w g cap cur) (hn : n ≤ cap) (hj : j ≤ n) : Src w (fromA g cap j) ((cur.take (n * 2)).drop (j * 2)) := by
  unfold fromA
  by_cases e : cap = j
  · left
    have : n = j := by omega
    subst this
    simp
  · right
    rw [if_neg e]
    refine ⟨_, rfl, fun t u ht => ?_⟩
    rw [add_plain, h.cell]
    rw [List.getElem?_drop, List.getElem?_take] at ht
    split at ht
    · exact ht
    · simp at ht
theorem Lst.src {w : World} {ua : Option Addr} {k uc : Nat} {x : List Sp} (h : Lst w (.slice ua k uc) x) : Src w ua (x.flatMap encS) ∧ (ua = none → k = 0) ∧ x.length = k ∧ (∀ p, ua = some p → p.spot = none) := by
  rcases h.2 with ⟨h2, h3⟩ | ⟨g', cap', cur, he, hg, hh, hn, hc, hs, ht⟩
  · obtain rfl : x = [] := by simpa using h3
    simp only [Value.slice.injEq] at h2
    obtain ⟨rfl, rfl, rfl⟩ := h2
    exact ⟨.inl rfl, fun _ => rfl, rfl, by simp⟩
  · simp only [Value.slice.injEq] at he
    obtain ⟨rfl, rfl, rfl⟩ := he
    refine ⟨.inr ⟨_, rfl, fun j u hj => ?_⟩, by simp, rfl, by simp⟩
    rw [add_plain, Nat.zero_add, cell_of_block hh]
    rw [← ht, List.getElem?_take] at hj
    split at hj
    · simpa using hj
    · simp at hj
theorem flat_take (l : List Sp) (k : Nat) : (l.take k).flatMap encS = (l.flatMap encS).take (k * 2) := by
  induction l generalizing k with
  | nil => simp
  | cons x r ih =>
    cases k with
    | zero => simp
    | succ k =>
      rw [List.take_succ_cons, List.flatMap_cons, List.flatMap_cons, ih]
      rw [show (k + 1) * 2 = k * 2 + 1 + 1 from by omega]
      simp [encS]
theorem flat_drop (l : List Sp) (k : Nat) : (l.drop k).flatMap encS = (l.flatMap encS).drop (k * 2) := by
  induction l generalizing k with
  | nil => simp
  | cons x r ih =>
    cases k with
    | zero => simp
    | succ k =>
      rw [List.drop_succ_cons, List.flatMap_cons, ih]
      rw [show (k + 1) * 2 = k * 2 + 1 + 1 from by omega]
      simp [encS]
theorem one_sub {l : List Sp} {n : Nat} {cur : List Value} (ht : cur.take (n * 2) = l.flatMap encS) (j : Nat) : ∀ v ∈ (cur.take (n * 2)).drop (j * 2), v.oneCell' = true := fun v hv => by
  rw [ht] at hv; exact flat_one l v (List.mem_of_mem_drop hv)
set_option maxHeartbeats 1000000 in
theorem insert_c (a : Option Addr) (n cap i : Nat) (ua : Option Addr) (uc : Nat) (w : World) (hi : i ≤ n) (hn : n ≤ cap) :
    Calls Tryz.prog 107 #[.slice a n cap, .int .i64 i, .slice ua 0 uc] w fun E w' => E = .returned (.slice a n cap) ∧ w' = w := by
  obtain ⟨A1, hA1⟩ : ∃ A1, A1 = if cap = i then a else a.map (·.add (i * 2)) := ⟨_, rfl⟩
  have hs := slice_l a A1 n cap i (i : Int) hA1 rfl hi
  clear hA1
  go_enter Tryz.func107, Tryz.ntmps107
  go_wp2_with fail
  go_ret
  exact ⟨rfl, rfl⟩
/-! What stands in the block at the end. -/
theorem get_take {α : Type} {l : List α} {n i : Nat} (h : i < n) : (l.take n)[i]? = l[i]? := by rw [List.getElem?_take, if_pos h]
def newC (l x : List Sp) (i j : Nat) : List Sp := l.take i ++ x ++ l.drop j
theorem newC_len {l x : List Sp} {i j n k : Nat} (hn : l.length = n) (hk : x.length = k) (hi : i ≤ n) (hj : j ≤ n) : (newC l x i j).length = i + k + (n - j) := by
  unfold newC; simp [hn, hk]; omega
theorem newC_flat {l x : List Sp} {i j n : Nat} {cur : List Value} (ht : cur.take (n * 2) = l.flatMap encS) (hi : i ≤ n) : (newC l x i j).flatMap encS = cur.take (i * 2) ++ x.flatMap encS ++ (cur.take (n * 2)).drop (j * 2) := by
  unfold newC
  rw [List.flatMap_append, List.flatMap_append, flat_take, flat_drop, ← ht, List.take_take, show min (i * 2) (n * 2) = i * 2 from by omega]
theorem fin_take {cur fin xs ys : List Value} {i k q : Nat} (hx : xs.length = k * 2) (hy : ys.length = q * 2) (hc : i * 2 ≤ cur.length) (hf : i * 2 + k * 2 + q * 2 ≤ fin.length)
    (h1 : ∀ t, t < i * 2 → fin[t]? = cur[t]?) (h2 : ∀ t, t < k * 2 → fin[i * 2 + t]? = xs[t]?) (h3 : ∀ t, t < q * 2 → fin[i * 2 + k * 2 + t]? = ys[t]?) :
    fin.take ((i + k + q) * 2) = cur.take (i * 2) ++ xs ++ ys := by
  apply List.ext_getElem?
  intro t
  have hl : (cur.take (i * 2)).length = i * 2 := by simp; omega
  by_cases c1 : t < i * 2
  · rw [get_take (by omega), h1 t c1, List.append_assoc, List.getElem?_append_left (by omega), get_take c1]
  · by_cases c2 : t < i * 2 + k * 2
    · rw [get_take (by omega), List.append_assoc, List.getElem?_append_right (by omega), hl, List.getElem?_append_left (by omega), ← h2 (t - i * 2) (by omega)]
      congr 1; omega
    · by_cases c3 : t < i * 2 + k * 2 + q * 2
      · have hl2 : (cur.take (i * 2) ++ xs).length = i * 2 + k * 2 := by rw [List.length_append, hl, hx]
        rw [get_take (by omega), List.getElem?_append_right (by omega), hl2]
        have := h3 (t - (i * 2 + k * 2)) (by omega)
        rw [show i * 2 + k * 2 + (t - (i * 2 + k * 2)) = t from by omega] at this
        exact this
      · rw [List.getElem?_eq_none (by simp; omega), List.getElem?_eq_none (by simp; omega)]
end Go.Proofs.YtkccpidgeecemaaGreatDoor.H
namespace Go.Proofs.YtkccpidgeecemaaGreatDoor.H
open Go.ChangeShapes Go.WideShapes Go.ChangeAt Go.RowKit
set_option linter.unusedVariables false
set_option linter.unusedSimpArgs false
set_option maxRecDepth 100000
theorem sl_l (g n cap k : Nat) (lo : Int) (hlo : lo = k) (hk : k ≤ n) : ∃ A, A = fromA g cap k ∧ ∀ wx, (Instr.sliceAt 102 (.slice (some ⟨g, 0, none⟩) n cap) (some (.int .i64 lo)) none none).run Tryz.prog wx = .ok (.slice A (n - k) (cap - k)) wx :=
  ⟨_, rfl, fun wx => slice_l _ _ n cap k _ (fromA_eq g cap k) hlo hk wx⟩
def RepOut (w : World) (v : Value) (r : List Sp) (E : Ending) (w' : World) : Prop := ∃ v', E = .returned v' ∧ Grew w w' v v' r
set_option maxHeartbeats 4000000 in
theorem rep_same (a : Option Addr) (n cap i : Nat) (l : List Sp) (ua : Option Addr) (uc : Nat) (w : World) (hl : Lst w (.slice a n cap) l) (hn : n ≤ cap) (hi : i ≤ n) (hlen : l.length = n) :
    Calls Tryz.prog 99 #[.slice a n cap, .int .i64 i, .int .i64 i, .slice ua 0 uc] w fun E w' => RepOut w (.slice a n cap) (newC l [] i i) E w' := by
  have HL : Hid (Lst w (.slice a n cap) l) := hl
  clear hl
  obtain ⟨A1, hA1⟩ : ∃ A1, A1 = if cap = i then a else a.map (·.add (i * 2)) := ⟨_, rfl⟩
  have hs := slice_lh a A1 n cap i 0 (i : Int) (i : Int) hA1 rfl (by omega) (by omega)
  clear hA1
  go_enter Tryz.func99, Tryz.ntmps99
  go_wp2_with fail
  refine (insert_c a n cap i ua uc _ hi hn).mono ?_
  rintro E _ ⟨rfl, rfl⟩
  go_wp2_with fail
  go_ret
  refine ⟨_, rfl, ?_, Moved.refl _ _, Away.refl _ _⟩
  have e : newC l [] i i = l := by unfold newC; simp
  rw [e]; exact HL.out
set_option maxHeartbeats 8000000 in
theorem rep_end (g n cap i k uc : Nat) (l x : List Sp) (ua : Option Addr) (w : World) (hl : Lst w (.slice (some ⟨g, 0, none⟩) n cap) l) (hu : Lst w (.slice ua k uc) x) (hne : ∀ p, ua = some p → p.block ≠ g) (hi : i < n) (hsm : n + k ≤ 1000000) :
    Calls Tryz.prog 99 #[.slice (some ⟨g, 0, none⟩) n cap, .int .i64 i, .int .i64 n, .slice ua k uc] w fun E w' => RepOut w (.slice (some ⟨g, 0, none⟩) n cap) (newC l x i n) E w' := by
  obtain ⟨cur, hb, hcm, hnc, ht, hln⟩ := hl.blk
  obtain ⟨hsrc, hnil, hxk, hsp⟩ := hu.src
  unfold maxLen at hcm
  obtain ⟨A1, hA1⟩ : ∃ A1, A1 = if cap = i then (some (⟨g, 0, none⟩ : Addr)) else (some (⟨g, 0, none⟩ : Addr)).map (·.add (i * 2)) := ⟨_, rfl⟩
  have hs1 := slice_lh _ A1 n cap i (n - i) (i : Int) (n : Int) hA1 rfl (by omega) (by omega)
  have hs2 := slice_h (some ⟨g, 0, none⟩) n cap i (i : Int) rfl (by omega)
  have hfl := newC_flat (x := x) (j := n) ht (Nat.le_of_lt hi)
  have hnl := newC_len (i := i) (j := n) hln hxk (Nat.le_of_lt hi) (Nat.le_refl _)
  clear hA1
  have hij : ¬ ((i : Int) = (n : Int)) := by omega
  by_cases hroom : i + k ≤ cap
  · obtain ⟨w2, hap, hb2, haw2⟩ := run_appB w 102 g cap i k uc cur (x.flatMap encS) ua hb (by rw [flat_two, hxk]) hroom hsrc hnil (flat_one x)
    by_cases hsh : i + k < n
    · obtain ⟨A3, hA3, hs3⟩ := sl_l g n cap (i + k) ((i : Int) + k) (by omega) (by omega)
      obtain ⟨w3, hcl, hb3, haw3⟩ := run_clearB w2 0 g cap (i + k) (n - (i + k)) (cap - (i + k)) _ A3 hA3 hb2 (by omega)
      have HF : Hid (RepOut w (.slice (some ⟨g, 0, none⟩) n cap) (newC l x i n) (.returned (.slice (some ⟨g, 0, none⟩) (i + k) cap)) w3) := by
        have hc1 : i * 2 + (x.flatMap encS).length ≤ cur.length := by have := hb.2; rw [flat_two, hxk]; omega
        have hc2 : (i + k) * 2 + (noughts (n - (i + k))).length ≤ (over cur i (x.flatMap encS)).length := by rw [over_len hc1, noughts_len]; have := hb.2; omega
        refine ⟨_, rfl, hb3.lst (by unfold maxLen; omega) (by rw [hnl]; omega) hroom ?_, Moved.refl _ _, ?_⟩
        · rw [hfl]
          have := fin_take (cur := cur) (fin := over (over cur i (x.flatMap encS)) (i + k) (noughts (n - (i + k)))) (xs := x.flatMap encS) (ys := []) (i := i) (k := k) (q := 0) (by rw [flat_two, hxk]) rfl (by have := hb.2; omega) (by rw [over_len hc2, over_len hc1]; have := hb.2; omega)
            (fun t ht => by rw [over_get hc2, if_pos (by omega), over_get hc1, if_pos ht])
            (fun t ht => by rw [over_get hc2, if_pos (by omega), over_get hc1, if_neg (by omega), if_pos (by rw [flat_two, hxk]; omega)]; congr 1; omega) (by simp)
          rw [Nat.add_zero] at this
          rw [this, List.drop_of_length_le (by simp; omega), List.append_nil]
        · exact (haw2.trans haw3).mono (fun z hz => by simpa [Value.ownBlock] using hz)
      have hlt1 : ((i : Int) + k) < n := by omega
      clear hb hb2 hb3 haw2 haw3 hl hu hsrc hnil hne hfl hnl ht hA3
      go_enter Tryz.func99, Tryz.ntmps99
      go_wp2_with (at_builtin; refine Lib.wpList_append_run _ rfl _ _ _ _ rfl _ _ rfl rfl _ _ hap ?_)
      go_wp2_with fail
      go_ret
      exact HF.out
    · have HF : Hid (RepOut w (.slice (some ⟨g, 0, none⟩) n cap) (newC l x i n) (.returned (.slice (some ⟨g, 0, none⟩) (i + k) cap)) w2) := by
        have hc1 : i * 2 + (x.flatMap encS).length ≤ cur.length := by have := hb.2; rw [flat_two, hxk]; omega
        refine ⟨_, rfl, hb2.lst (by unfold maxLen; omega) (by rw [hnl]; omega) hroom ?_, Moved.refl _ _, ?_⟩
        · rw [hfl]
          have := fin_take (cur := cur) (fin := over cur i (x.flatMap encS)) (xs := x.flatMap encS) (ys := []) (i := i) (k := k) (q := 0) (by rw [flat_two, hxk]) rfl (by have := hb.2; omega) (by rw [over_len hc1]; have := hb.2; omega)
            (fun t ht => by rw [over_get hc1, if_pos ht])
            (fun t ht => by rw [over_get hc1, if_neg (by omega), if_pos (by rw [flat_two, hxk]; omega)]; congr 1; omega) (by simp)
          rw [Nat.add_zero] at this
          rw [this, List.drop_of_length_le (by simp; omega), List.append_nil]
        · exact haw2.mono (fun z hz => by simpa [Value.ownBlock] using hz)
      have hlt1 : ¬ (((i : Int) + k) < n) := by omega
      clear hb hb2 haw2 hl hu hsrc hnil hne hfl hnl ht
      go_enter Tryz.func99, Tryz.ntmps99
      go_wp2_with (at_builtin; refine Lib.wpList_append_run _ rfl _ _ _ _ rfl _ _ rfl rfl _ _ hap ?_)
      go_wp2_with fail
      go_ret
      exact HF.out
  · have hx0 : x ≠ [] := fun e => by rw [e] at hxk; simp at hxk; omega
    obtain ⟨p, rfl⟩ : ∃ p, ua = some p := by
      rcases ua with _ | p
      · have := hnil rfl; omega
      · exact ⟨p, rfl⟩
    obtain ⟨i0, hi0, hz0, hz1, hz2⟩ := info_parts info50
    obtain ⟨v2, w2, hap, ho2, hg2⟩ := run_append_arg_grows (P := Tryz.prog) w 102 102 112 i0 _ 2 16 Tryz.underlying102 hi0 hz0 hz1 hz2 rfl (by decide) ⟨g, 0, none⟩ i cap (cur.take (i * 2)) (by have := hb.2; simp; omega)
      (fun j u hj => by
        rw [add_plain, Nat.zero_add, hb.cell]
        rw [List.getElem?_take] at hj
        split at hj
        · exact hj
        · simp at hj) p k uc (x.flatMap encS) (by rw [flat_two, hxk])
      (fun j u hj => by
        rcases hsrc with h | ⟨q, hq, h⟩
        · rw [h] at hj; simp at hj
        · simp at hq; subst hq; exact h j u hj) (by omega) (by unfold maxLen; omega) (by omega)
    have hl2 : Lst w2 v2 (newC l x i n) := by
      unfold Lst
      rw [hfl, hnl, List.drop_of_length_le (by simp; omega), List.append_nil, Nat.sub_self, Nat.add_zero]
      obtain ⟨o1, o2⟩ := ho2
      refine ⟨o1, ?_⟩
      rcases o2 with o2 | ⟨g2, c2, cur2, he, hg, r⟩
      · exact .inl o2
      · exact .inr ⟨g2, c2, cur2, he, Nat.zero_le _, r⟩
    have hnew : New w.heap.size v2 := fun t ht => (World.ownsRow.lt ho2 t ht).1
    have haw2 : Away [] w w2 := (Away.refl _ _).grown hg2 (by simp)
    have HF : Hid (RepOut w (.slice (some ⟨g, 0, none⟩) n cap) (newC l x i n) (.returned v2) w2) :=
      ⟨_, rfl, hl2, fun t ht => .inr (hnew t ht), haw2.mono (by simp)⟩
    obtain ⟨g2, c2, he2⟩ : ∃ g2 c2, v2 = .slice (some ⟨g2, 0, none⟩) (i + k) c2 := by
      rcases ho2.2 with ⟨_, o2⟩ | ⟨g2, c2, cur2, he, r⟩
      · omega
      · exact ⟨g2, c2, he⟩
    subst he2
    have hlt1 : ¬ (((i : Int) + k) < n) := by omega
    clear hb haw2 hl hu hsrc hnil hne hfl hnl ht hl2 hnew hg2 ho2 hz0 hz1 hz2 hi0
    go_enter Tryz.func99, Tryz.ntmps99
    go_wp2_with (at_builtin; refine Lib.wpList_append_run _ rfl _ _ _ _ rfl _ _ rfl rfl _ _ hap ?_)
    go_wp2_with fail
    go_ret
    exact HF.out
end Go.Proofs.YtkccpidgeecemaaGreatDoor.H
namespace Go.Proofs.YtkccpidgeecemaaGreatDoor.H
open Go.ChangeShapes Go.WideShapes Go.ChangeAt Go.RowKit
set_option linter.unusedVariables false
set_option linter.unusedSimpArgs false
set_option maxRecDepth 100000
theorem Blk.drewN {w : World} {g cap : Nat} {cur : List Value} (h : Blk w g cap cur) (q : Nat) : Blk (w.drewN q) g cap cur := h
theorem Src.drewN {w : World} {ad : Option Addr} {xs : List Value} (h : Src w ad xs) (q : Nat) : Src (w.drewN q) ad xs := h
set_option maxHeartbeats 8000000 in
theorem rep_grow (g n cap i j k q uc : Nat) (l x : List Sp) (ua : Option Addr) (w : World) (hl : Lst w (.slice (some ⟨g, 0, none⟩) n cap) l) (hu : Lst w (.slice ua k uc) x) (hne : ∀ p, ua = some p → p.block ≠ g) (hi : i < j) (hj : j < n) (hq : n - j = q) (hsm : n + k ≤ 1000000)
    (htot : cap < i + k + q) :
    Calls Tryz.prog 99 #[.slice (some ⟨g, 0, none⟩) n cap, .int .i64 i, .int .i64 j, .slice ua k uc] w fun E w' => RepOut w (.slice (some ⟨g, 0, none⟩) n cap) (newC l x i j) E w' := by
  obtain ⟨cur, hb, hcm, hnc, ht, hln⟩ := hl.blk
  obtain ⟨hsrc, hnil, hxk, hsp⟩ := hu.src
  unfold maxLen at hcm
  obtain ⟨A1, hA1⟩ : ∃ A1, A1 = if cap = i then (some (⟨g, 0, none⟩ : Addr)) else (some (⟨g, 0, none⟩ : Addr)).map (·.add (i * 2)) := ⟨_, rfl⟩
  have hs1 := slice_lh _ A1 n cap i (j - i) (i : Int) (j : Int) hA1 rfl (by omega) (by omega)
  have hs2 := slice_h (some ⟨g, 0, none⟩) n cap i (i : Int) rfl (by omega)
  obtain ⟨A2, hA2, hs3⟩ := sl_l g n cap j (j : Int) rfl (by omega)
  have hsy : Src w A2 ((cur.take (n * 2)).drop (j * 2)) := by rw [hA2]; exact hb.src hnc (by omega)
  have hy1 := one_sub ht j
  have hfl := newC_flat (x := x) (j := j) ht (show i ≤ n by omega)
  have hnl := newC_len (i := i) (j := j) hln hxk (by omega) (by omega)
  have hyl : ((cur.take (n * 2)).drop (j * 2)).length = q * 2 := by have := hb.2; simp; omega
  rw [hq] at hs3 hnl
  have hx1 := flat_one x
  have hxl : (x.flatMap encS).length = k * 2 := by rw [flat_two, hxk]
  have hA2s : ∀ p, A2 = some p → p.block = g ∧ p.spot = none := by
    intro p hp; rw [hA2] at hp; unfold fromA at hp
    split at hp <;> (simp at hp; subst hp; exact ⟨rfl, rfl⟩)
  have hA2n : A2 = none → q = 0 := by
    intro h; rw [hA2] at h; unfold fromA at h; split at h <;> simp at h
  generalize hys : (cur.take (n * 2)).drop (j * 2) = ys at *
  generalize hxs : x.flatMap encS = xs at *
  clear hA1
  have hij : ¬ ((i : Int) = (j : Int)) := by omega
  have hjn : ¬ ((j : Int) = (n : Int)) := by omega
  have t1 : (cap : Int) < (i : Int) + k + q := by omega
  have hgl : g < w.heap.size := lt_of_block hb.1
  obtain ⟨w2, cap2, hap, hb2, hc2, hcm2, haw2⟩ := run_makeB w.drew 102 g cap i (k + q) cur hb (by omega) (by omega) (by omega) (by omega)
  obtain ⟨G, hG⟩ : ∃ G, G = w.heap.size := ⟨_, rfl⟩
  rw [show w.drew.heap.size = G from hG.symm] at hap hb2
  unfold maxLen at hcm2
  obtain ⟨A3, hA3, hs4⟩ := sl_l G (i + (k + q)) cap2 i (i : Int) rfl (by omega)
  obtain ⟨A4, hA4, hs5⟩ := sl_l G (i + (k + q)) cap2 (i + k) ((i : Int) + k) (by omega) (by omega)
  rw [show i + (k + q) - i = k + q from by omega] at hs4
  rw [show i + (k + q) - (i + k) = q from by omega] at hs5
  have haw02 : Away [] w w2 := ⟨haw2.os, haw2.tape, haw2.output, haw2.size, haw2.block⟩
  obtain ⟨w3, hcp, hb3, haw3⟩ := run_copyB w2 3 G cap2 i (k + q) (cap2 - i) k uc _ xs A3 ua hA3 hb2 (by omega) hxl (by omega) (hsrc.away haw02 (fun p hp => ⟨by simp, hsp p hp⟩)) hnil hx1
  have hsy3 : Src w3 A2 ys := (hsy.away haw02 (fun p hp => ⟨by simp, (hA2s p hp).2⟩)).away haw3 (fun p hp => ⟨by rw [(hA2s p hp).1]; simp; omega, (hA2s p hp).2⟩)
  obtain ⟨w4, hcp2, hb4, haw4⟩ := run_copyB w3.drew 3 G cap2 (i + k) q (cap2 - (i + k)) q (cap - j) _ ys A4 A2 hA4 hb3 (by omega) hyl (by omega) hsy3 hA2n hy1
  have HF : Hid (RepOut w (.slice (some ⟨g, 0, none⟩) n cap) (newC l x i j) (.returned (.slice (some ⟨G, 0, none⟩) (i + (k + q)) cap2)) w4) := by
    have hcur : (cur.take (i * 2)).length = i * 2 := by have := hb.2; simp; omega
    have hc1 : i * 2 + xs.length ≤ (cur.take (i * 2) ++ noughts (cap2 - i)).length := by rw [List.length_append, hcur, noughts_len]; omega
    have hl1 : (cur.take (i * 2) ++ noughts (cap2 - i)).length = cap2 * 2 := hb2.2
    have hc3 : (i + k) * 2 + ys.length ≤ (over (cur.take (i * 2) ++ noughts (cap2 - i)) i xs).length := by rw [over_len hc1]; omega
    refine ⟨_, rfl, hb4.lst (by unfold maxLen; omega) (by rw [hnl]; omega) hc2 ?_, fun t ht => .inr ?_, ?_⟩
    · rw [hfl, show i + (k + q) = i + k + q from by omega]
      refine fin_take hxl hyl (by have := hb.2; omega) (by rw [over_len hc3, over_len hc1]; omega) (fun t ht => ?_) (fun t ht => ?_) (fun t ht => ?_)
      · rw [over_get hc3, if_pos (by omega), over_get hc1, if_pos ht, List.getElem?_append_left (by omega), get_take ht]
      · rw [over_get hc3, if_pos (by omega), over_get hc1, if_neg (by omega), if_pos (by omega)]; congr 1; omega
      · rw [over_get hc3, if_neg (by omega), if_pos (by omega)]; congr 1; omega
    · simp [Value.ownBlock] at ht; omega
    · exact (haw02.next haw3 (fun z hz => .inr (by simp at hz; omega))).next (⟨haw4.os, haw4.tape, haw4.output, haw4.size, haw4.block⟩ : Away [G] w3 w4) (fun z hz => .inr (by simp at hz; omega)) |>.mono (by simp)
  clear hb hb2 hb3 hb4 haw2 haw02 haw3 haw4 hl hu hsrc hsy hsy3 hnil hne hfl hnl ht hA2s hA2n hsp hys hxs hx1 hy1 hG hA2 hA3 hA4
  go_enter Tryz.func99, Tryz.ntmps99
  go_wp2_with fail
  go_region
  all_goals
    go_wp2_with (at_builtin; refine Lib.wpList_append_run _ rfl _ _ _ _ rfl _ _ rfl rfl _ _ (hap _ (by omega)) ?_)
    go_wp2_with fail
    go_region
    all_goals
      go_wp2_with fail
      go_ret
      exact HF.out
set_option maxHeartbeats 8000000 in
theorem rep_fit (g n cap i j k q uc : Nat) (l x : List Sp) (ua : Option Addr) (w : World) (hl : Lst w (.slice (some ⟨g, 0, none⟩) n cap) l) (hu : Lst w (.slice ua k uc) x) (hne : ∀ p, ua = some p → p.block ≠ g) (hi : i < j) (hj : j < n) (hq : n - j = q) (hsm : n + k ≤ 1000000)
    (htot : i + k + q ≤ cap) (hfit : i + k ≤ j) :
    Calls Tryz.prog 99 #[.slice (some ⟨g, 0, none⟩) n cap, .int .i64 i, .int .i64 j, .slice ua k uc] w fun E w' => RepOut w (.slice (some ⟨g, 0, none⟩) n cap) (newC l x i j) E w' := by
  obtain ⟨cur, hb, hcm, hnc, ht, hln⟩ := hl.blk
  obtain ⟨hsrc, hnil, hxk, hsp⟩ := hu.src
  unfold maxLen at hcm
  obtain ⟨A1, hA1⟩ : ∃ A1, A1 = if cap = i then (some (⟨g, 0, none⟩ : Addr)) else (some (⟨g, 0, none⟩ : Addr)).map (·.add (i * 2)) := ⟨_, rfl⟩
  have hs1 := slice_lh _ A1 n cap i (j - i) (i : Int) (j : Int) hA1 rfl (by omega) (by omega)
  have hs2 := slice_h (some ⟨g, 0, none⟩) n cap i (i : Int) rfl (by omega)
  obtain ⟨A2, hA2, hs3⟩ := sl_l g n cap j (j : Int) rfl (by omega)
  have hsy : Src w A2 ((cur.take (n * 2)).drop (j * 2)) := by rw [hA2]; exact hb.src hnc (by omega)
  have hy1 := one_sub ht j
  have hfl := newC_flat (x := x) (j := j) ht (show i ≤ n by omega)
  have hnl := newC_len (i := i) (j := j) hln hxk (by omega) (by omega)
  have hyl : ((cur.take (n * 2)).drop (j * 2)).length = q * 2 := by have := hb.2; simp; omega
  rw [hq] at hs3 hnl
  have hx1 := flat_one x
  have hxl : (x.flatMap encS).length = k * 2 := by rw [flat_two, hxk]
  have hA2s : ∀ p, A2 = some p → p.block = g ∧ p.spot = none := by
    intro p hp; rw [hA2] at hp; unfold fromA at hp
    split at hp <;> (simp at hp; subst hp; exact ⟨rfl, rfl⟩)
  have hA2n : A2 = none → q = 0 := by
    intro h; rw [hA2] at h; unfold fromA at h; split at h <;> simp at h
  generalize hys : (cur.take (n * 2)).drop (j * 2) = ys at *
  generalize hxs : x.flatMap encS = xs at *
  clear hA1
  have hij : ¬ ((i : Int) = (j : Int)) := by omega
  have hjn : ¬ ((j : Int) = (n : Int)) := by omega
  have t1 : ¬ ((cap : Int) < (i : Int) + k + q) := by omega
  have t2 : (i : Int) + k ≤ j := by omega
  have hs4 := slice_h (some ⟨g, 0, none⟩) n cap (i + k + q) ((i : Int) + k + q) (by omega) (by omega)
  obtain ⟨A3, hA3, hs5⟩ := sl_l g (i + k + q) cap i (i : Int) rfl (by omega)
  obtain ⟨A4, hA4, hs6⟩ := sl_l g (i + k + q) cap (i + k) ((i : Int) + k) (by omega) (by omega)
  obtain ⟨A5, hA5, hs7⟩ := sl_l g n cap (i + k + q) ((i : Int) + k + q) (by omega) (by omega)
  rw [show i + k + q - (i + k) = q from by omega] at hs6
  obtain ⟨w2, hcp, hb2, haw2⟩ := run_copyB w.drew 3 g cap i (i + k + q - i) (cap - i) k uc cur xs A3 ua hA3 hb (by omega) hxl (by omega) hsrc hnil hx1
  have hc1 : i * 2 + xs.length ≤ cur.length := by have := hb.2; omega
  have hyc : ∀ t, t < q * 2 → ys[t]? = cur[j * 2 + t]? := fun t ht => by rw [← hys, List.getElem?_drop, get_take (by omega)]
  have hsy2 : Src w2 A2 ys := by
    have := hb2.src (j := j) (n := n) hnc (by omega)
    rw [← hA2] at this
    have e : ((over cur i xs).take (n * 2)).drop (j * 2) = ys := by
      apply List.ext_getElem?
      intro t
      by_cases c : t < q * 2
      · rw [List.getElem?_drop, get_take (by omega), over_get hc1, if_neg (by omega), if_neg (by omega), hyc t c]
      · rw [List.getElem?_eq_none (by simp; omega), List.getElem?_eq_none (by omega)]
    rw [e] at this
    exact this
  obtain ⟨w3, hcp2, hb3, haw3⟩ := run_copyB w2.drew 3 g cap (i + k) q (cap - (i + k)) q (cap - j) _ ys A4 A2 hA4 hb2 (by omega) hyl (by omega) hsy2 hA2n hy1
  obtain ⟨w4, hcl, hb4, haw4⟩ := run_clearB w3 0 g cap (i + k + q) (n - (i + k + q)) (cap - (i + k + q)) _ A5 hA5 hb3 (by omega)
  have HF : Hid (RepOut w (.slice (some ⟨g, 0, none⟩) n cap) (newC l x i j) (.returned (.slice (some ⟨g, 0, none⟩) (i + k + q) cap)) w4) := by
    have hc3 : (i + k) * 2 + ys.length ≤ (over cur i xs).length := by rw [over_len hc1]; have := hb.2; omega
    have hc4 : (i + k + q) * 2 + (noughts (n - (i + k + q))).length ≤ (over (over cur i xs) (i + k) ys).length := by rw [over_len hc3, over_len hc1, noughts_len]; have := hb.2; omega
    refine ⟨_, rfl, hb4.lst (by unfold maxLen; omega) (by rw [hnl]) htot ?_, Moved.refl _ _, ?_⟩
    · rw [hfl]
      refine fin_take hxl hyl (by have := hb.2; omega) (by rw [over_len hc4, over_len hc3, over_len hc1]; have := hb.2; omega) (fun t ht => ?_) (fun t ht => ?_) (fun t ht => ?_)
      · rw [over_get hc4, if_pos (by omega), over_get hc3, if_pos (by omega), over_get hc1, if_pos ht]
      · rw [over_get hc4, if_pos (by omega), over_get hc3, if_pos (by omega), over_get hc1, if_neg (by omega), if_pos (by omega)]; congr 1; omega
      · rw [over_get hc4, if_pos (by omega), over_get hc3, if_neg (by omega), if_pos (by omega)]; congr 1; omega
    · exact (((⟨haw2.os, haw2.tape, haw2.output, haw2.size, haw2.block⟩ : Away [g] w w2).trans (⟨haw3.os, haw3.tape, haw3.output, haw3.size, haw3.block⟩ : Away [g] w2 w3)).trans haw4).mono (fun z hz => by simpa [Value.ownBlock] using hz)
  rw [show i + k + q - i = k + q from by omega] at hs5 hcp
  clear hb hb2 hb3 hb4 haw2 haw3 haw4 hl hu hsrc hsy hsy2 hnil hne hfl hnl ht hA2s hA2n hsp hys hxs hx1 hy1 hA2 hA3 hA4 hA5 hyc hc1
  go_enter Tryz.func99, Tryz.ntmps99
  go_wp2_with fail
  go_region
  all_goals
    go_wp2_with fail
    go_region
    all_goals
      go_wp2_with fail
      go_ret
      exact HF.out
set_option maxHeartbeats 8000000 in
theorem rep_wide (g n cap i j k q uc : Nat) (l x : List Sp) (ua : Option Addr) (w : World) (hl : Lst w (.slice (some ⟨g, 0, none⟩) n cap) l) (hu : Lst w (.slice ua k uc) x) (hne : ∀ p, ua = some p → p.block ≠ g) (hi : i < j) (hj : j < n) (hq : n - j = q) (hsm : n + k ≤ 1000000)
    (htot : i + k + q ≤ cap) (hfit : j < i + k) :
    Calls Tryz.prog 99 #[.slice (some ⟨g, 0, none⟩) n cap, .int .i64 i, .int .i64 j, .slice ua k uc] w fun E w' => RepOut w (.slice (some ⟨g, 0, none⟩) n cap) (newC l x i j) E w' := by
  obtain ⟨cur, hb, hcm, hnc, ht, hln⟩ := hl.blk
  obtain ⟨hsrc, hnil, hxk, hsp⟩ := hu.src
  unfold maxLen at hcm
  obtain ⟨A1, hA1⟩ : ∃ A1, A1 = if cap = i then (some (⟨g, 0, none⟩ : Addr)) else (some (⟨g, 0, none⟩ : Addr)).map (·.add (i * 2)) := ⟨_, rfl⟩
  have hs1 := slice_lh _ A1 n cap i (j - i) (i : Int) (j : Int) hA1 rfl (by omega) (by omega)
  have hs2 := slice_h (some ⟨g, 0, none⟩) n cap i (i : Int) rfl (by omega)
  obtain ⟨A2, hA2, hs3⟩ := sl_l g n cap j (j : Int) rfl (by omega)
  have hsy : Src w A2 ((cur.take (n * 2)).drop (j * 2)) := by rw [hA2]; exact hb.src hnc (by omega)
  have hy1 := one_sub ht j
  have hfl := newC_flat (x := x) (j := j) ht (show i ≤ n by omega)
  have hnl := newC_len (i := i) (j := j) hln hxk (by omega) (by omega)
  have hyl : ((cur.take (n * 2)).drop (j * 2)).length = q * 2 := by have := hb.2; simp; omega
  rw [hq] at hs3 hnl
  have hx1 := flat_one x
  have hxl : (x.flatMap encS).length = k * 2 := by rw [flat_two, hxk]
  have hA2s : ∀ p, A2 = some p → p.block = g ∧ p.spot = none := by
    intro p hp; rw [hA2] at hp; unfold fromA at hp
    split at hp <;> (simp at hp; subst hp; exact ⟨rfl, rfl⟩)
  have hA2n : A2 = none → q = 0 := by
    intro h; rw [hA2] at h; unfold fromA at h; split at h <;> simp at h
  generalize hys : (cur.take (n * 2)).drop (j * 2) = ys at *
  generalize hxs : x.flatMap encS = xs at *
  clear hA1
  have hij : ¬ ((i : Int) = (j : Int)) := by omega
  have hjn : ¬ ((j : Int) = (n : Int)) := by omega
  have t1 : ¬ ((cap : Int) < (i : Int) + k + q) := by omega
  have t2 : ¬ ((i : Int) + k ≤ j) := by omega
  have hs4 := slice_h (some ⟨g, 0, none⟩) n cap (i + k + q) ((i : Int) + k + q) (by omega) (by omega)
  obtain ⟨A3, hA3, hs5⟩ := sl_l g (i + k + q) cap i (i : Int) rfl (by omega)
  obtain ⟨A4, hA4, hs6⟩ := sl_l g (i + k + q) cap (i + k) ((i : Int) + k) (by omega) (by omega)
  rw [show i + k + q - (i + k) = q from by omega] at hs6
  rw [show i + k + q - i = k + q from by omega] at hs5
  obtain ⟨g', rfl, hb', hg'⟩ : ∃ g', ua = some ⟨g', 0, none⟩ ∧ (∃ cur', Blk w g' uc cur') ∧ uc ≠ 0 := by
    rcases hu.2 with ⟨_, h3⟩ | ⟨g', cap', cur', he, hg, hh, hn, hc, hs, ht'⟩
    · omega
    · simp only [Value.slice.injEq] at he
      obtain ⟨rfl, h1, rfl⟩ := he
      exact ⟨g', rfl, ⟨cur'.toList, by simpa using hh, by simpa using hs⟩, by omega⟩
  obtain ⟨cur', hb'⟩ := hb'
  have hgg : g ≠ g' := fun e => hne _ rfl e.symm
  have hov := overlaps_c w.drew g cap (i + k) q (cap - (i + k)) cur cur' A4 hA4 hb g' uc k hb' hgg hg'
  have hc1 : (i + k) * 2 + ys.length ≤ cur.length := by have := hb.2; omega
  obtain ⟨w2, hcp, hb2, haw2⟩ := run_copyB w.drew.drew 3 g cap (i + k) q (cap - (i + k)) q (cap - j) cur ys A4 A2 hA4 hb (by omega) hyl (by omega) hsy hA2n hy1
  have haw02 : Away [g] w w2 := ⟨haw2.os, haw2.tape, haw2.output, haw2.size, haw2.block⟩
  obtain ⟨w3, hcp2, hb3, haw3⟩ := run_copyB w2 3 g cap i (k + q) (cap - i) k uc _ xs A3 _ hA3 hb2 (by omega) hxl (by omega) (hsrc.away haw02 (fun p hp => ⟨by simp at hp; subst hp; simp; omega, hsp p hp⟩)) hnil hx1
  have HF : Hid (RepOut w (.slice (some ⟨g, 0, none⟩) n cap) (newC l x i j) (.returned (.slice (some ⟨g, 0, none⟩) (i + k + q) cap)) w3) := by
    have hc3 : i * 2 + xs.length ≤ (over cur (i + k) ys).length := by rw [over_len hc1]; have := hb.2; omega
    refine ⟨_, rfl, hb3.lst (by unfold maxLen; omega) (by rw [hnl]) htot ?_, Moved.refl _ _, ?_⟩
    · rw [hfl]
      refine fin_take hxl hyl (by have := hb.2; omega) (by rw [over_len hc3, over_len hc1]; have := hb.2; omega) (fun t ht => ?_) (fun t ht => ?_) (fun t ht => ?_)
      · rw [over_get hc3, if_pos ht, over_get hc1, if_pos (by omega)]
      · rw [over_get hc3, if_neg (by omega), if_pos (by omega)]; congr 1; omega
      · rw [over_get hc3, if_neg (by omega), if_neg (by omega), over_get hc1, if_neg (by omega), if_pos (by omega)]; congr 1; omega
    · exact (haw02.trans haw3).mono (fun z hz => by simpa [Value.ownBlock] using hz)
  clear hb hb2 hb3 haw2 haw02 haw3 hl hu hsrc hsy hnil hne hfl hnl ht hA2s hA2n hsp hys hxs hx1 hy1 hA2 hA3 hA4 hc1 hb'
  go_enter Tryz.func99, Tryz.ntmps99
  go_wp2_with fail
  go_region
  all_goals
    go_wp2_with fail
    go_region
    all_goals
      go_wp2_with fail
      go_ret
      exact HF.out
end Go.Proofs.YtkccpidgeecemaaGreatDoor.H
