/-
  WireMemory: what holds from round to round.
-/
import Derived.Test.YtaiomhhndckccaaMark
namespace Go.Proofs.Ytaiomhhndckccaa
open Go.ChangeShapes Go.WideShapes Go.ChangeAt Go.RowKit
set_option linter.unusedVariables false

def vb (v : Value) : List Nat := v.ownBlock.toList
theorem vb_mem {v : Value} {k : Nat} : k ∈ vb v ↔ v.ownBlock = some k := by simp [vb]
structure MS (w wr : World) (gr dr gw : Nat) (v ua uw : Value) (lim : Int) (m : List Int) (pos : Nat) (P Pw : Lot) : Prop where
  aw : Away [] w wr
  rd : Rd wr gr dr (m.drop pos) 0
  wt : Wr wr gw v lim (m.take pos) 0
  oa : OwnsG 22 wr ua (P.map (·.1))
  ow : OwnsG 22 wr uw (Pw.map (·.1))
  con : ∀ (j : Nat) (p : Value × List Int), P[j]? = some p → Owns wr p.1 p.2 ∧ Bytes p.2 ∧ p.2.length ≤ 3000
  conw : ∀ (j : Nat) (p : Value × List Int), Pw[j]? = some p → Owns wr p.1 p.2 ∧ Bytes p.2 ∧ p.2.length ≤ 3000
  eq : P.map (·.2) = Pw.map (·.2)
  ap : Apart P
  s1 : ∀ x, x ∈ fp gw v ∨ x ∈ vb ua ∨ x ∈ vb uw ∨ x ∈ bl P ∨ x ∈ bl Pw → x ≠ gr ∧ x ≠ dr ∧ w.heap.size ≤ x
  s2 : ∀ x ∈ fp gw v, x ∉ vb ua ∧ x ∉ vb uw ∧ x ∉ bl P ∧ x ∉ bl Pw
  s3 : ∀ x ∈ vb ua, x ∉ vb uw ∧ x ∉ bl P ∧ x ∉ bl Pw
  s4 : ∀ x ∈ vb uw, x ∉ bl P ∧ x ∉ bl Pw
  old : w.heap.size ≤ gr
theorem bl_lt {w : World} {P : Lot} (h : ∀ (j : Nat) (p : Value × List Int), P[j]? = some p → Owns w p.1 p.2 ∧ Bytes p.2 ∧ p.2.length ≤ 3000) : ∀ x ∈ bl P, x < w.heap.size := by
  intro x hx
  obtain ⟨p, hp, hk⟩ := List.mem_filterMap.mp hx
  obtain ⟨j, hj, rfl⟩ := List.mem_iff_getElem.mp hp
  exact (h j _ (List.getElem?_eq_getElem hj)).1.lt x hk
theorem fp_split' {w : World} {g : Nat} {v v' : Value} (hm : Moved w v v') : ∀ k ∈ fp g v', k ∈ fp g v ∨ w.heap.size ≤ k := by
  intro k hk
  simp only [fp, List.mem_cons, Option.mem_toList] at hk
  rcases hk with rfl | hk
  · exact .inl (fp_self _ _)
  · rcases hm k hk with h | h
    · exact .inl (fp_own h)
    · exact .inr h
theorem bl_app (P Q : Lot) : bl (P ++ Q) = bl P ++ bl Q := by simp [bl]
theorem bl_three (x y z : Value) (X Y Z : List Int) : ∀ k ∈ bl [(x, X), (y, Y), (z, Z)], x.ownBlock = some k ∨ y.ownBlock = some k ∨ z.ownBlock = some k := by
  intro k hk
  obtain ⟨p, hp, hk⟩ := List.mem_filterMap.mp hk
  simp only [List.mem_cons, List.not_mem_nil, or_false] at hp
  rcases hp with rfl | rfl | rfl
  · exact .inl hk
  · exact .inr (.inl hk)
  · exact .inr (.inr hk)
/-- Three more that lie apart. -/
theorem con_three {w w' : World} {P : Lot} {x y z : Value} {X Y Z : List Int} {S : List Nat} (h : ∀ (j : Nat) (p : Value × List Int), P[j]? = some p → Owns w p.1 p.2 ∧ Bytes p.2 ∧ p.2.length ≤ 3000) (ha : Away S w w') (hS : ∀ k ∈ S, k ∉ bl P)
    (hx : Owns w' x X ∧ Bytes X ∧ X.length ≤ 3000) (hy : Owns w' y Y ∧ Bytes Y ∧ Y.length ≤ 3000) (hz : Owns w' z Z ∧ Bytes Z ∧ Z.length ≤ 3000) :
    ∀ (j : Nat) (p : Value × List Int), (P ++ [(x, X), (y, Y), (z, Z)])[j]? = some p → Owns w' p.1 p.2 ∧ Bytes p.2 ∧ p.2.length ≤ 3000 := by
  intro j p hp
  rcases List.mem_append.mp (List.mem_of_getElem? hp) with hm | hm
  · obtain ⟨i, hi, rfl⟩ := List.mem_iff_getElem.mp hm
    have hq := h i _ (List.getElem?_eq_getElem hi)
    exact ⟨hq.1.away ha (fun k hk hkS => hS k hkS (bl_mem (List.getElem?_eq_getElem hi) hk)), hq.2⟩
  · simp only [List.mem_cons, List.not_mem_nil, or_false] at hm
    rcases hm with rfl | rfl | rfl
    · exact hx
    · exact hy
    · exact hz
theorem apart_three {P : Lot} {x y z : Value} {X Y Z : List Int} (h : Apart P) (hx : ∀ k, x.ownBlock = some k → k ∉ bl P ∧ y.ownBlock ≠ some k ∧ z.ownBlock ≠ some k) (hy : ∀ k, y.ownBlock = some k → k ∉ bl P ∧ z.ownBlock ≠ some k) (hz : ∀ k, z.ownBlock = some k → k ∉ bl P) : Apart (P ++ [(x, X), (y, Y), (z, Z)]) := by
  have cases : ∀ (i : Nat) (p : Value × List Int), (P ++ [(x, X), (y, Y), (z, Z)])[i]? = some p → (i < P.length ∧ P[i]? = some p) ∨ (i = P.length ∧ p = (x, X)) ∨ (i = P.length + 1 ∧ p = (y, Y)) ∨ (i = P.length + 2 ∧ p = (z, Z)) := by
    intro i p hp
    rcases Nat.lt_or_ge i P.length with hi | hi
    · rw [List.getElem?_append_left hi] at hp; exact .inl ⟨hi, hp⟩
    · rw [List.getElem?_append_right hi] at hp
      have hlt : i - P.length < 3 := by
        rcases Nat.lt_or_ge (i - P.length) 3 with h | h
        · exact h
        · rw [List.getElem?_eq_none (by simpa using h)] at hp; simp at hp
      obtain ⟨d, hd⟩ : ∃ d, d = i - P.length := ⟨_, rfl⟩
      rw [← hd] at hp hlt
      match d, hlt with
      | 0, _ => simp at hp; exact .inr (.inl ⟨by omega, hp.symm⟩)
      | 1, _ => simp at hp; exact .inr (.inr (.inl ⟨by omega, hp.symm⟩))
      | 2, _ => simp at hp; exact .inr (.inr (.inr ⟨by omega, hp.symm⟩))
  constructor
  intro i j p q hij hp hq k hk hk2
  rcases cases i p hp with ⟨hi, hp'⟩ | ⟨hi, rfl⟩ | ⟨hi, rfl⟩ | ⟨hi, rfl⟩ <;> rcases cases j q hq with ⟨hj, hq'⟩ | ⟨hj, rfl⟩ | ⟨hj, rfl⟩ | ⟨hj, rfl⟩
  · exact h.ne i j p q hij hp' hq' k hk hk2
  · exact (hx k hk2).1 (bl_mem hp' hk)
  · exact (hy k hk2).1 (bl_mem hp' hk)
  · exact hz k hk2 (bl_mem hp' hk)
  · exact (hx k hk).1 (bl_mem hq' hk2)
  · omega
  · exact (hx k hk).2.1 hk2
  · exact (hx k hk).2.2 hk2
  · exact (hy k hk).1 (bl_mem hq' hk2)
  · exact (hx k hk2).2.1 hk
  · omega
  · exact (hy k hk).2 hk2
  · exact hz k hk (bl_mem hq' hk2)
  · exact (hx k hk2).2.2 hk
  · exact (hy k hk2).2 hk
  · omega
/-- One round, whole. -/
theorem MS.step {w wr w1 w2 w3 w4 w5 w6 w7 w8 w9 : World} {gr dr gw pos pos' : Nat} {v ua uw v' ua' uw' x y z x' y' z' : Value} {lim : Int} {m : List Int} {P Pw : Lot} {X Y Z : List Int} (h : MS w wr gr dr gw v ua uw lim m pos P Pw)
    (a1 : Away [gr] wr w1) (rd : Rd w1 gr dr (m.drop pos') 0) (ox : Owns w1 x X) (nx : New wr.heap.size x)
    (a2 : Away (fp gw v) w1 w2) (wt : Wr w2 gw v' lim (m.take pos') 0) (mv : Moved w1 v v')
    (a3 : Away [] w2 w3) (oy : Owns w3 y Y) (ny : New w2.heap.size y) (a4 : Away [] w3 w4) (oz : Owns w4 z Z) (nz : New w3.heap.size z)
    (a5 : Away (vb ua) w4 w5) (oa : OwnsG 22 w5 ua' (P.map (·.1) ++ [x, y, z])) (ma : Moved w4 ua ua')
    (a6 : Away [] w5 w6) (ox' : Owns w6 x' X) (nx' : New w5.heap.size x') (a7 : Away [] w6 w7) (oy' : Owns w7 y' Y) (ny' : New w6.heap.size y') (a8 : Away [] w7 w8) (oz' : Owns w8 z' Z) (nz' : New w7.heap.size z')
    (a9 : Away (vb uw) w8 w9) (ow : OwnsG 22 w9 uw' (Pw.map (·.1) ++ [x', y', z'])) (mw : Moved w8 uw uw')
    (hX : Bytes X ∧ X.length ≤ 3000) (hY : Bytes Y ∧ Y.length ≤ 3000) (hZ : Bytes Z ∧ Z.length ≤ 3000) :
    MS w w9 gr dr gw v' ua' uw' lim m pos' (P ++ [(x, X), (y, Y), (z, Z)]) (Pw ++ [(x', X), (y', Y), (z', Z)]) := by
  have z1 := a1.size
  have z2 := a2.size
  have z3 := a3.size
  have z4 := a4.size
  have z5 := a5.size
  have z6 := a6.size
  have z7 := a7.size
  have z8 := a8.size
  have z9 := a9.size
  have zw := h.aw.size
  -- all that may turn is old
  have lv : ∀ k ∈ fp gw v, k < wr.heap.size := fun k hk => by
    simp only [fp, List.mem_cons, Option.mem_toList] at hk
    rcases hk with rfl | hk
    · exact h.wt.lt.1
    · exact h.wt.lt.2 k hk
  have la : ∀ k ∈ vb ua, k < wr.heap.size := fun k hk => h.oa.lt k (vb_mem.mp hk)
  have lw : ∀ k ∈ vb uw, k < wr.heap.size := fun k hk => h.ow.lt k (vb_mem.mp hk)
  have lP := bl_lt h.con
  have lPw := bl_lt h.conw
  have lr := h.rd.lt
  obtain ⟨S, hS⟩ : ∃ S, S = [gr] ++ fp gw v ++ vb ua ++ vb uw := ⟨_, rfl⟩
  have memS : ∀ k, k ∈ S → k = gr ∨ k ∈ fp gw v ∨ k ∈ vb ua ∨ k ∈ vb uw := by intro k hk; rw [hS] at hk; simpa [or_assoc] using hk
  have Slt : ∀ k ∈ S, k < wr.heap.size := by
    intro k hk
    rcases memS k hk with h1 | h1 | h1 | h1
    · rw [h1]; exact lr.1
    · exact lv k h1
    · exact la k h1
    · exact lw k h1
  have b1 : Away S wr w1 := a1.mono (by rw [hS]; simp)
  have b2 : Away S w1 w2 := a2.mono (fun k hk => by rw [hS]; simp [hk])
  have b5 : Away S w4 w5 := a5.mono (fun k hk => by rw [hS]; simp [hk])
  have b9 : Away S w8 w9 := a9.mono (fun k hk => by rw [hS]; simp [hk])
  have b3 : Away S w2 w3 := a3.mono (by simp)
  have b4 : Away S w3 w4 := a4.mono (by simp)
  have b6 : Away S w5 w6 := a6.mono (by simp)
  have b7 : Away S w6 w7 := a7.mono (by simp)
  have b8 : Away S w7 w8 := a8.mono (by simp)
  have c8 := b9
  have c7 := b8.trans c8
  have c6 := b7.trans c7
  have c5 := b6.trans c6
  have c4 := b5.trans c5
  have c3 := b4.trans c4
  have c2 := b3.trans c3
  have c1 := b2.trans c2
  have c0 := b1.trans c1
  have nS : ∀ {u : Value} {n : Nat}, New n u → wr.heap.size ≤ n → ∀ k, u.ownBlock = some k → k ∉ S := fun hn hle k hk hm => by have := hn k hk; have := Slt k hm; omega
  -- where the new ones lie
  have iv : ∀ k ∈ fp gw v', k ∈ fp gw v ∨ (w1.heap.size ≤ k ∧ k < w2.heap.size) := fun k hk => by
    have hlt : k < w2.heap.size := by
      simp only [fp, List.mem_cons, Option.mem_toList] at hk
      rcases hk with rfl | hk
      · exact wt.lt.1
      · exact wt.lt.2 k hk
    rcases fp_split' mv k hk with h1 | h1
    · exact .inl h1
    · exact .inr ⟨h1, hlt⟩
  have ia : ∀ k ∈ vb ua', k ∈ vb ua ∨ (w4.heap.size ≤ k ∧ k < w5.heap.size) := fun k hk => by
    rcases ma k (vb_mem.mp hk) with h1 | h1
    · exact .inl (vb_mem.mpr h1)
    · exact .inr ⟨h1, oa.lt k (vb_mem.mp hk)⟩
  have iw : ∀ k ∈ vb uw', k ∈ vb uw ∨ (w8.heap.size ≤ k ∧ k < w9.heap.size) := fun k hk => by
    rcases mw k (vb_mem.mp hk) with h1 | h1
    · exact .inl (vb_mem.mpr h1)
    · exact .inr ⟨h1, ow.lt k (vb_mem.mp hk)⟩
  have ix : ∀ k, x.ownBlock = some k → wr.heap.size ≤ k ∧ k < w1.heap.size := fun k hk => ⟨nx k hk, ox.lt k hk⟩
  have iy : ∀ k, y.ownBlock = some k → w2.heap.size ≤ k ∧ k < w3.heap.size := fun k hk => ⟨ny k hk, oy.lt k hk⟩
  have iz : ∀ k, z.ownBlock = some k → w3.heap.size ≤ k ∧ k < w4.heap.size := fun k hk => ⟨nz k hk, oz.lt k hk⟩
  have ix' : ∀ k, x'.ownBlock = some k → w5.heap.size ≤ k ∧ k < w6.heap.size := fun k hk => ⟨nx' k hk, ox'.lt k hk⟩
  have iy' : ∀ k, y'.ownBlock = some k → w6.heap.size ≤ k ∧ k < w7.heap.size := fun k hk => ⟨ny' k hk, oy'.lt k hk⟩
  have iz' : ∀ k, z'.ownBlock = some k → w7.heap.size ≤ k ∧ k < w8.heap.size := fun k hk => ⟨nz' k hk, oz'.lt k hk⟩
  have iP : ∀ k ∈ bl (P ++ [(x, X), (y, Y), (z, Z)]), k ∈ bl P ∨ (wr.heap.size ≤ k ∧ k < w1.heap.size) ∨ (w2.heap.size ≤ k ∧ k < w4.heap.size) := fun k hk => by
    rw [bl_app] at hk
    rcases List.mem_append.mp hk with h1 | h1
    · exact .inl h1
    · rcases bl_three _ _ _ _ _ _ k h1 with h2 | h2 | h2
      · exact .inr (.inl (ix k h2))
      · have := iy k h2; exact .inr (.inr ⟨by omega, by omega⟩)
      · have := iz k h2; exact .inr (.inr ⟨by omega, by omega⟩)
  have iPw : ∀ k ∈ bl (Pw ++ [(x', X), (y', Y), (z', Z)]), k ∈ bl Pw ∨ (w5.heap.size ≤ k ∧ k < w8.heap.size) := fun k hk => by
    rw [bl_app] at hk
    rcases List.mem_append.mp hk with h1 | h1
    · exact .inl h1
    · rcases bl_three _ _ _ _ _ _ k h1 with h2 | h2 | h2
      · have := ix' k h2; exact .inr ⟨by omega, by omega⟩
      · have := iy' k h2; exact .inr ⟨by omega, by omega⟩
      · have := iz' k h2; exact .inr ⟨by omega, by omega⟩
  have SP : ∀ k ∈ S, k ∉ bl P := fun k hk hm => by
    rcases memS k hk with h1 | h1 | h1 | h1
    · exact (h.s1 k (.inr (.inr (.inr (.inl hm))))).1 h1
    · exact (h.s2 k h1).2.2.1 hm
    · exact (h.s3 k h1).2.1 hm
    · exact (h.s4 k h1).1 hm
  have SPw : ∀ k ∈ S, k ∉ bl Pw := fun k hk hm => by
    rcases memS k hk with h1 | h1 | h1 | h1
    · exact (h.s1 k (.inr (.inr (.inr (.inr hm))))).1 h1
    · exact (h.s2 k h1).2.2.2 hm
    · exact (h.s3 k h1).2.2 hm
    · exact (h.s4 k h1).2 hm
  refine ⟨?_, ?_, ?_, ?_, ?_, ?_, ?_, ?_, ?_, ?_, ?_, ?_, ?_, h.old⟩
  · exact h.aw.next c0 (fun k hk => .inr (by
      rcases memS k hk with h1 | h1 | h1 | h1
      · rw [h1]; exact h.old
      · exact (h.s1 k (.inl h1)).2.2
      · exact (h.s1 k (.inr (.inl h1))).2.2
      · exact (h.s1 k (.inr (.inr (.inl h1)))).2.2))
  · -- the reader: behind w1 only others turn
    have d1 : Away (fp gw v ++ vb ua ++ vb uw) w1 w9 := by
      have e2 : Away (fp gw v ++ vb ua ++ vb uw) w1 w2 := a2.mono (fun k hk => by simp [hk])
      have e5 : Away (fp gw v ++ vb ua ++ vb uw) w4 w5 := a5.mono (fun k hk => by simp [hk])
      have e9 : Away (fp gw v ++ vb ua ++ vb uw) w8 w9 := a9.mono (fun k hk => by simp [hk])
      exact (((((((e2.trans (a3.mono (by simp))).trans (a4.mono (by simp))).trans e5).trans (a6.mono (by simp))).trans (a7.mono (by simp))).trans (a8.mono (by simp))).trans e9)
    refine rd.away d1 (fun hm => ?_) (fun hm => ?_)
    · simp only [List.mem_append] at hm
      rcases hm with (h1 | h1) | h1
      · exact (h.s1 gr (.inl h1)).1 rfl
      · exact (h.s1 gr (.inr (.inl h1))).1 rfl
      · exact (h.s1 gr (.inr (.inr (.inl h1)))).1 rfl
    · simp only [List.mem_append] at hm
      rcases hm with (h1 | h1) | h1
      · exact (h.s1 dr (.inl h1)).2.1 rfl
      · exact (h.s1 dr (.inr (.inl h1))).2.1 rfl
      · exact (h.s1 dr (.inr (.inr (.inl h1)))).2.1 rfl
  · have d2 : Away (vb ua ++ vb uw) w2 w9 := by
      have e5 : Away (vb ua ++ vb uw) w4 w5 := a5.mono (fun k hk => by simp [hk])
      have e9 : Away (vb ua ++ vb uw) w8 w9 := a9.mono (fun k hk => by simp [hk])
      exact ((((((a3.mono (T := vb ua ++ vb uw) (by simp)).trans (a4.mono (by simp))).trans e5).trans (a6.mono (by simp))).trans (a7.mono (by simp))).trans (a8.mono (by simp))).trans e9
    have key : ∀ k ∈ fp gw v', k ∉ vb ua ++ vb uw := fun k hk hm => by
      rcases iv k hk with h1 | h1
      · rcases List.mem_append.mp hm with h2 | h2
        · exact (h.s2 k h1).1 h2
        · exact (h.s2 k h1).2.1 h2
      · rcases List.mem_append.mp hm with h2 | h2
        · have := la k h2; omega
        · have := lw k h2; omega
    exact wt.away d2 (key gw (fp_self _ _)) (fun k hk => key k (fp_own hk))
  · rw [List.map_append]
    have d5 : Away (vb uw) w5 w9 := (((a6.mono (T := vb uw) (by simp)).trans (a7.mono (by simp))).trans (a8.mono (by simp))).trans a9
    refine oa.away d5 (fun k hk hm => ?_)
    rcases ia k (vb_mem.mpr hk) with h1 | h1
    · exact (h.s3 k h1).1 hm
    · have := lw k hm; omega
  · rw [List.map_append]; exact ow
  · exact con_three h.con c0 SP ⟨ox.away c1 (nS nx (Nat.le_refl _)), hX⟩ ⟨oy.away c3 (nS ny (by omega)), hY⟩ ⟨oz.away c4 (nS nz (by omega)), hZ⟩
  · exact con_three h.conw c0 SPw ⟨ox'.away c6 (nS nx' (by omega)), hX⟩ ⟨oy'.away c7 (nS ny' (by omega)), hY⟩ ⟨oz'.away c8 (nS nz' (by omega)), hZ⟩
  · simp [h.eq]
  · refine apart_three h.ap (fun k hk => ⟨fun hm => ?_, fun hy => ?_, fun hz => ?_⟩) (fun k hk => ⟨fun hm => ?_, fun hz => ?_⟩) (fun k hk hm => ?_)
    · have := ix k hk; have := lP k hm; omega
    · have := ix k hk; have := iy k hy; omega
    · have := ix k hk; have := iz k hz; omega
    · have := iy k hk; have := lP k hm; omega
    · have := iy k hk; have := iz k hz; omega
    · have := iz k hk; have := lP k hm; omega
  · intro k hk
    rcases hk with hk | hk | hk | hk | hk
    · rcases iv k hk with h1 | h1
      · exact h.s1 k (.inl h1)
      · exact ⟨by omega, by omega, by omega⟩
    · rcases ia k hk with h1 | h1
      · exact h.s1 k (.inr (.inl h1))
      · exact ⟨by omega, by omega, by omega⟩
    · rcases iw k hk with h1 | h1
      · exact h.s1 k (.inr (.inr (.inl h1)))
      · exact ⟨by omega, by omega, by omega⟩
    · rcases iP k hk with h1 | h1 | h1
      · exact h.s1 k (.inr (.inr (.inr (.inl h1))))
      · exact ⟨by omega, by omega, by omega⟩
      · exact ⟨by omega, by omega, by omega⟩
    · rcases iPw k hk with h1 | h1
      · exact h.s1 k (.inr (.inr (.inr (.inr h1))))
      · exact ⟨by omega, by omega, by omega⟩
  · intro k hk
    refine ⟨fun hm => ?_, fun hm => ?_, fun hm => ?_, fun hm => ?_⟩
    · rcases iv k hk with h1 | h1 <;> rcases ia k hm with h2 | h2
      · exact (h.s2 k h1).1 h2
      · have := lv k h1; omega
      · have := la k h2; omega
      · omega
    · rcases iv k hk with h1 | h1 <;> rcases iw k hm with h2 | h2
      · exact (h.s2 k h1).2.1 h2
      · have := lv k h1; omega
      · have := lw k h2; omega
      · omega
    · rcases iv k hk with h1 | h1 <;> rcases iP k hm with h2 | h2 | h2
      · exact (h.s2 k h1).2.2.1 h2
      · have := lv k h1; omega
      · have := lv k h1; omega
      · have := lP k h2; omega
      · omega
      · omega
    · rcases iv k hk with h1 | h1 <;> rcases iPw k hm with h2 | h2
      · exact (h.s2 k h1).2.2.2 h2
      · have := lv k h1; omega
      · have := lPw k h2; omega
      · omega
  · intro k hk
    refine ⟨fun hm => ?_, fun hm => ?_, fun hm => ?_⟩
    · rcases ia k hk with h1 | h1 <;> rcases iw k hm with h2 | h2
      · exact (h.s3 k h1).1 h2
      · have := la k h1; omega
      · have := lw k h2; omega
      · omega
    · rcases ia k hk with h1 | h1 <;> rcases iP k hm with h2 | h2 | h2
      · exact (h.s3 k h1).2.1 h2
      · have := la k h1; omega
      · have := la k h1; omega
      · have := lP k h2; omega
      · omega
      · omega
    · rcases ia k hk with h1 | h1 <;> rcases iPw k hm with h2 | h2
      · exact (h.s3 k h1).2.2 h2
      · have := la k h1; omega
      · have := lPw k h2; omega
      · omega
  · intro k hk
    refine ⟨fun hm => ?_, fun hm => ?_⟩
    · rcases iw k hk with h1 | h1 <;> rcases iP k hm with h2 | h2 | h2
      · exact (h.s4 k h1).1 h2
      · have := lw k h1; omega
      · have := lw k h1; omega
      · have := lP k h2; omega
      · omega
      · omega
    · rcases iw k hk with h1 | h1 <;> rcases iPw k hm with h2 | h2
      · exact (h.s4 k h1).2 h2
      · have := lw k h1; omega
      · have := lPw k h2; omega
      · omega
end Go.Proofs.Ytaiomhhndckccaa
