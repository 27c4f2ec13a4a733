/-
  Lists of ints that are written over and lengthened.
-/
import Derived.Test.YtemdgggpfadecaaOwn
namespace Go.Proofs.Ytemdgggpfadecaa
open Go.ChangeShapes Go.WideShapes Go.ChangeAt Go.RowKit
set_option linter.unusedVariables false
set_option linter.unusedSimpArgs false
set_option maxRecDepth 100000

theorem run_appI2 (ty : TypeId) (w : World) (v : Value) (l : List Int) (hown : LI w v l) (ad : Addr) (m cp : Nat) (M : List Int) (hM : M.length = m) (hc : ∀ (j : Nat) (x : Int), M[j]? = some x → w.cell? (ad.add j) = some (.int .i64 x)) (hk : l.length + m ≤ 17592186044416) :
    ∃ v' w', (Builtin.append_ #[37, 37] ty #[v, .slice (some ad) m cp]).run Try.prog w = .ok v' w' ∧ LI w' v' (l ++ M) ∧ ((v'.ownBlock = v.ownBlock ∧ w.grownBy w' v.ownBlock) ∨ (Away [] w w' ∧ New w.heap.size v')) := by
  obtain ⟨i0, hi, hz0, hz1, hz2⟩ := info_parts infoI
  have hn : (M.map (Value.int .i64)).length = m * 1 := by simp [hM]
  have hm : ∀ j u, (M.map (Value.int .i64))[j]? = some u → w.cell? (ad.add j) = some u := fun j u hj => by
    simp only [List.getElem?_map, Option.map_eq_some_iff] at hj
    obtain ⟨x, hx, rfl⟩ := hj
    exact hc j x hx
  have h1 : ∀ u ∈ M.map (Value.int .i64), u.oneCell' = true := fun u hu => by simp at hu; obtain ⟨x, -, rfl⟩ := hu; rfl
  have h63 : l.length + m ≤ maxLen := by unfold maxLen; omega
  have hby : (l.length + m) * 8 ≤ 140737488355328 := by omega
  have fin : ∀ {B : Nat} {v' : Value} {w' : World}, w'.ownsRow B 3 1 v' (l.length + m) (l.map (Value.int .i64) ++ M.map (Value.int .i64)) → LI w' v' (l ++ M) := by
    intro B v' w' h
    obtain ⟨h1, h2⟩ := h
    unfold LI
    rw [List.length_append, List.map_append, hM]
    refine ⟨h1, ?_⟩
    rcases h2 with h2 | ⟨g, cap, cur, rfl, hg, r⟩
    · exact .inl h2
    · exact .inr ⟨g, cap, cur, rfl, by omega, r⟩
  rcases hown.2 with ⟨rfl, hl0⟩ | ⟨g, cap, cur, rfl, hg, hh, hnc, hcm, hcs, htake⟩
  · obtain rfl : l = [] := by simpa using hl0
    obtain ⟨v', w', hrun, r1, r2, _⟩ := run_append_own (P := Try.prog) w w.heap.size 37 ty 3 i0 _ 1 8 Try.underlying37 hi hz0 hz1 hz2 rfl (by decide) (.slice none 0 0) 0 [] (World.ownsRow_nil _ _ _ _) ad m cp _ hn hm h1 (by simpa using h63) (by simpa using hby) (Nat.le_refl _)
    refine ⟨v', w', hrun, fin (by simpa using r1), .inr ⟨?_, fun k hk => (World.ownsRow.lt r1 k hk).1⟩⟩
    exact ⟨r2.os, r2.tape, r2.output, r2.size, fun k hk _ => r2.block k hk (by simp [Value.ownBlock])⟩
  · by_cases hroom : l.length + m ≤ cap
    · obtain ⟨w', hrun, r1, r2⟩ := run_append_fits (P := Try.prog) w 0 37 ty 3 i0 1 Try.underlying37 hi hz1 g l.length cap _ hown ad m cp _ hn hm h1 hroom
      exact ⟨_, w', hrun, fin r1, .inl ⟨rfl, r2⟩⟩
    · obtain ⟨v', w', hrun, r1, r2⟩ := run_append_arg_grows (P := Try.prog) w 37 ty 3 i0 _ 1 8 Try.underlying37 hi hz0 hz1 hz2 rfl (by decide) ⟨g, 0, none⟩ l.length cap _ hown.1 (fun j u hu => by
          have hj : j < (l.map (Value.int .i64)).length := by
            rcases Nat.lt_or_ge j (l.map (Value.int .i64)).length with h | h
            · exact h
            · rw [List.getElem?_eq_none h] at hu; simp at hu
          rw [add_plain, Nat.zero_add, World.ownsRow.cellAt hown j (by rw [← hown.1]; exact hj)]; exact hu) ad m cp _ hn hm (by omega) h63 hby
      exact ⟨v', w', hrun, fin r1, .inr ⟨⟨r2.os, r2.tape, r2.output, r2.size, fun k hk _ => r2.block k hk (by simp)⟩, fun k hk => (World.ownsRow.lt r1 k hk).1⟩⟩
theorem wpList_appI2 {w : World} {ops : Array Oper} {rest : List Oper} {o : Oper} {a : Act} {Q : Exit → Act → World → Prop} (hgd : o.guard = none) (s t : Operand)
    (ho : o.op = .call { callee := .builtin .append, args := #[s, t], argTypes := #[37, 37] }) (v : Value) (l : List Int) (hs : a.eval s = v) (hown : LI w v l)
    (ad : Addr) (m cp : Nat) (ht : a.eval t = .slice (some ad) m cp) (M : List Int) (hM : M.length = m) (hc : ∀ (j : Nat) (x : Int), M[j]? = some x → w.cell? (ad.add j) = some (.int .i64 x)) (hk : l.length + m ≤ 17592186044416)
    (h : ∀ v' w', LI w' v' (l ++ M) → ((v'.ownBlock = v.ownBlock ∧ w.grownBy w' v.ownBlock) ∨ (Away [] w w' ∧ New w.heap.size v')) → wpList Try.prog ops Q rest (a.put o.dst v') w') : wpList Try.prog ops Q (o :: rest) a w := by
  obtain ⟨v', w', hrun, r1, r2⟩ := run_appI2 o.type w v l hown ad m cp M hM hc hk
  refine wpList_plain hgd fun _ hK => ?_
  unfold Oper.wp
  simp [execOp, ho, resolve, invoke, builtin, hs, ht, hrun, Result.andThen]
  exact hK _ _ (h v' w' r1 r2)
/-- append(nil, l...) where l may be nil. -/
theorem run_appNil (ty : TypeId) (w : World) (b : Value) (l : List Int) (hb : LI w b l) (hk : l.length ≤ 17592186044416) :
    ∃ v' w', (Builtin.append_ #[37, 37] ty #[.slice none 0 0, b]).run Try.prog w = .ok v' w' ∧ LI w' v' l ∧ Away [] w w' ∧ New w.heap.size v' := by
  rcases hb.shp with ⟨rfl, rfl⟩ | ⟨g, cap, rfl, hc⟩
  · obtain ⟨i0, hi, hz0, hz1, hz2⟩ := info_parts infoI
    refine ⟨.slice none 0 0, w, ?_, LI.nil _, Away.refl _ _, New.nil _⟩
    simp [Builtin.append_, run_underlying Try.underlying37, sizeOf, typeInfo, hi, hz1, Builtin.lenOf, Builtin.firstCells]
  · obtain ⟨v', w', r1, r2, r3⟩ := run_appI2 ty w (.slice none 0 0) [] (LI.nil _) ⟨g, 0, none⟩ l.length cap l rfl (fun j x hj => by
      obtain ⟨a, cap', he, -, h3⟩ := hb.sl
      obtain ⟨g', hg', hcell⟩ := h3 j x hj
      simp only [Value.slice.injEq] at he
      obtain ⟨he, -, -⟩ := he
      rw [← he] at hg'
      simp only [Option.some.injEq, Addr.mk.injEq, and_true] at hg'
      rw [add_plain, Nat.zero_add, hg']; exact hcell) (by simpa using hk)
    refine ⟨v', w', r1, by simpa using r2, ?_⟩
    rcases r3 with ⟨h1, h2⟩ | h1
    · refine ⟨⟨h2.os, h2.tape, h2.output, h2.size, fun k hk _ => h2.block k hk (by simp [Value.ownBlock])⟩, fun k hk => ?_⟩
      rw [h1] at hk; simp [Value.ownBlock] at hk
    · exact h1
theorem wpList_appNil {w : World} {ops : Array Oper} {rest : List Oper} {o : Oper} {a : Act} {Q : Exit → Act → World → Prop} (hgd : o.guard = none) (s t : Operand)
    (ho : o.op = .call { callee := .builtin .append, args := #[s, t], argTypes := #[37, 37] }) (hs : a.eval s = .slice none 0 0) (b : Value) (l : List Int) (ht : a.eval t = b) (hb : LI w b l) (hk : l.length ≤ 17592186044416)
    (h : ∀ v' w', LI w' v' l → Away [] w w' → New w.heap.size v' → wpList Try.prog ops Q rest (a.put o.dst v') w') : wpList Try.prog ops Q (o :: rest) a w := by
  obtain ⟨v', w', hrun, r1, r2, r3⟩ := run_appNil o.type w b l hb hk
  refine wpList_plain hgd fun _ hK => ?_
  unfold Oper.wp
  simp [execOp, ho, resolve, invoke, builtin, hs, ht, hrun, Result.andThen]
  exact hK _ _ (h v' w' r1 r2 r3)
/-- A store into a list. -/
theorem LI.put {w : World} {g cap : Nat} {l : List Int} {n i : Nat} {x : Int} (h : LI w (.slice (some ⟨g, 0, none⟩) n cap) l) (hn : n = l.length) (hi : i < l.length) : LI (w.setCell ⟨g, i, none⟩ (.int .i64 x)) (.slice (some ⟨g, 0, none⟩) n cap) (l.set i x) := by
  subst hn
  rcases h.2 with ⟨h2, _⟩ | ⟨g', cap', cur, he, hg, hh, hnc, hc, hs, ht⟩
  · simp at h2
  · simp only [Value.slice.injEq, Option.some.injEq, Addr.mk.injEq] at he
    obtain ⟨⟨rfl, -, -⟩, -, rfl⟩ := he
    unfold LI
    rw [List.length_set]
    refine ⟨by simp, .inr ⟨g, cap, cur.setIfInBounds i (.int .i64 x), rfl, hg, block_set hh i _, hnc, hc, by simpa using hs, ?_⟩⟩
    simp only [Nat.mul_one, Array.toList_setIfInBounds] at ht ⊢
    rw [List.take_set, ht, List.map_set]
theorem LI.cells {w : World} {g cap n : Nat} {l : List Int} (h : LI w (.slice (some ⟨g, 0, none⟩) n cap) l) {i : Nat} {x : Int} (hx : l[i]? = some x) : w.cell? ⟨g, i, none⟩ = some (.int .i64 x) := by
  obtain ⟨a, cap', he, -, h3⟩ := h.sl
  obtain ⟨g', hg', hcell⟩ := h3 i x hx
  simp only [Value.slice.injEq] at he
  obtain ⟨he, -, -⟩ := he
  rw [← he] at hg'
  simp only [Option.some.injEq, Addr.mk.injEq, and_true] at hg'
  rw [hg']; exact hcell
theorem LI.free {w : World} {g cap n : Nat} {l : List Int} (h : LI w (.slice (some ⟨g, 0, none⟩) n cap) l) (i : Nat) : w.frozen? ⟨g, i, none⟩ = false := by
  rcases h.2 with ⟨h2, _⟩ | ⟨g', cap', cur, he, hg, hh, -⟩
  · simp at h2
  · simp only [Value.slice.injEq, Option.some.injEq, Addr.mk.injEq] at he
    obtain ⟨⟨rfl, -, -⟩, -, rfl⟩ := he
    exact free_of_block hh i
theorem fill_set {l : List Int} {k : Nat} {x : Int} (hk : k < l.length) : (List.replicate k x ++ l.drop k).set k x = List.replicate (k + 1) x ++ l.drop (k + 1) := by
  rw [List.set_append, if_neg (by simp), List.length_replicate, Nat.sub_self]
  rw [List.drop_eq_getElem_cons hk, List.set_cons_zero, List.replicate_succ', List.append_assoc]
  rfl
/-! The same owners, without new blocks. -/
theorem KB.Ow.kp {o : Nat → Nat} {j k : Nat} {w w' : World} {g : Nat} {t : Tb} (h : KB.Ow o j w g t) (hc : Chg o k w w') (hj : j ≠ k) : KB.Ow o j w' g t := by
  obtain ⟨v, h1, h2, h3⟩ := h
  obtain ⟨S, ha, hS⟩ := hc
  exact ⟨v, h1.away ha (fun hm => hj (by rw [← h2]; exact hS g hm)) (fun x hx hm => hj (by rw [← h3 x hx]; exact hS x hm)), h2, h3⟩
theorem Li.kp {o : Nat → Nat} {j k : Nat} {w w' : World} {v : Value} {l : List Int} (h : Li o j w v l) (hc : Chg o k w w') (hj : j ≠ k) : Li o j w' v l := by
  obtain ⟨S, ha, hS⟩ := hc
  exact ⟨h.1.away ha (fun x hx hm => hj (by rw [← h.2 x hx]; exact hS x hm)), h.2⟩
theorem Out.kp {o : Nat → Nat} {W w w' : World} {k : Nat} (h : Out o W w) (hc : Chg o k w w') (hk : 0 ≠ k) : Out o W w' := by
  obtain ⟨S, ha, hS⟩ := hc
  refine ⟨h.1.next ha (fun x hx => ?_), h.2⟩
  rcases Nat.lt_or_ge x W.heap.size with h1 | h1
  · have h2 := h.2 x h1
    have h3 := hS x hx
    omega
  · exact .inr h1
/-- A list that was lengthened, and the list that it was. -/
structure Pr (o : Nat → Nat) (k : Nat) (w : World) (a : Value) (l : List Int) (c : Value) (M : List Int) : Prop where
  lc : LI w c (l ++ M)
  own : ∀ x, c.ownBlock = some x → o x = k
  rd : ∃ aa cap, a = .slice aa l.length cap ∧ ∀ (i : Nat) (x : Int), l[i]? = some x → ∃ g, aa = some ⟨g, 0, none⟩ ∧ o g = k ∧ w.cell? ⟨g, i, none⟩ = some (.int .i64 x)
theorem Li.pr {o : Nat → Nat} {k : Nat} {w : World} {a : Value} {l : List Int} (h : Li o k w a l) : Pr o k w a l a [] := by
  refine ⟨by simpa using h.1, h.2, ?_⟩
  obtain ⟨aa, cap, rfl, -, h3⟩ := h.1.sl
  refine ⟨aa, cap, rfl, fun i x hx => ?_⟩
  obtain ⟨g, rfl, hc⟩ := h3 i x hx
  exact ⟨g, rfl, h.2 g rfl, hc⟩
theorem Pr.on {o : Nat → Nat} {k : Nat} {w w' : World} {a : Value} {l : List Int} {c : Value} {M : List Int} (h : Pr o k w a l c M) (hw : Away [] w w') : Pr o k w' a l c M := by
  obtain ⟨h1, h2, aa, cap, h3, h4⟩ := h
  refine ⟨h1.on hw, h2, aa, cap, h3, fun i x hx => ?_⟩
  obtain ⟨g, e, ho, hc⟩ := h4 i x hx
  exact ⟨g, e, ho, hw.cell (by simp) hc⟩
theorem Pr.kp {o : Nat → Nat} {j k : Nat} {w w' : World} {a : Value} {l : List Int} {c : Value} {M : List Int} (h : Pr o j w a l c M) (hc : Chg o k w w') (hj : j ≠ k) : Pr o j w' a l c M := by
  obtain ⟨S, ha, hS⟩ := hc
  obtain ⟨h1, h2, aa, cap, h3, h4⟩ := h
  refine ⟨h1.away ha (fun x hx hm => hj (by rw [← h2 x hx]; exact hS x hm)), h2, aa, cap, h3, fun i x hx => ?_⟩
  obtain ⟨g, e, ho, hc⟩ := h4 i x hx
  exact ⟨g, e, ho, ha.cell (fun hm => hj (by rw [← ho]; exact hS g hm)) hc⟩
theorem Pr.re {o o' : Nat → Nat} {k : Nat} {w w' : World} {a : Value} {l : List Int} {c : Value} {M : List Int} (h : Pr o k w' a l c M) (hs : w.heap.size ≤ w'.heap.size) (hb : ∀ x, c.ownBlock = some x → x < w.heap.size) (hl : ∀ (g i : Nat) (x : Int), o g = k → w'.cell? ⟨g, i, none⟩ = some (.int .i64 x) → o' g = k) (ho : ∀ b, b < w.heap.size → o' b = o b) : Pr o' k w' a l c M := by
  obtain ⟨h1, h2, aa, cap, h3, h4⟩ := h
  refine ⟨h1, fun x hx => by rw [ho x (hb x hx)]; exact h2 x hx, aa, cap, h3, fun i x hx => ?_⟩
  obtain ⟨g, e, hg, hc⟩ := h4 i x hx
  exact ⟨g, e, hl g i x hg hc, hc⟩
/-- Over another's step, new blocks given to it. -/
theorem Pr.keep {o : Nat → Nat} {j k : Nat} {w w' : World} {a : Value} {l : List Int} {c : Value} {M : List Int} (h : Pr o j w a l c M) (hc : Chg o k w w') (hj : j ≠ k) : Pr (give o w k) j w' a l c M := by
  obtain ⟨S, ha, hS⟩ := hc
  obtain ⟨h1, h2, aa, cap, h3, h4⟩ := h
  refine ⟨h1.away ha (fun x hx hm => hj (by rw [← h2 x hx]; exact hS x hm)), fun x hx => by rw [give_old (h1.lt x hx)]; exact h2 x hx, aa, cap, h3, fun i x hx => ?_⟩
  obtain ⟨g, e, ho, hc⟩ := h4 i x hx
  exact ⟨g, e, by rw [give_old (block_lt_of_cell hc)]; exact ho, ha.cell (fun hm => hj (by rw [← ho]; exact hS g hm)) hc⟩
theorem Pr.app {o : Nat → Nat} {k : Nat} {w w' : World} {a : Value} {l : List Int} {c c' : Value} {M : List Int} {x : Int} (h : Pr o k w a l c M) (hl : LI w' c' ((l ++ M) ++ [x])) (hd : (c'.ownBlock = c.ownBlock ∧ w.grownBy w' c.ownBlock) ∨ (Away [] w w' ∧ New w.heap.size c')) : Pr (give o w k) k w' a l c' (M ++ [x]) ∧ Chg o k w w' := by
  obtain ⟨h1, h2, aa, cap, h3, h4⟩ := h
  rcases hd with ⟨hb, hg⟩ | ⟨ha, hn⟩
  · have haw : Away c.ownBlock.toList w w' := Away.grow hg
    refine ⟨⟨by rw [← List.append_assoc]; exact hl, fun y hy => ?_, aa, cap, h3, fun i y hy => ?_⟩, c.ownBlock.toList, haw, fun s hs => h2 s (by simpa using hs)⟩
    · rw [hb] at hy
      rw [give_old (h1.lt y hy)]; exact h2 y hy
    · obtain ⟨g, e, ho, hc⟩ := h4 i y hy
      refine ⟨g, e, by rw [give_old (block_lt_of_cell hc)]; exact ho, ?_⟩
      by_cases hcg : c.ownBlock = some g
      · rcases hl.shp with ⟨h5, h6⟩ | ⟨g', cap', h5, -⟩
        · simp at h6
        · have : g' = g := by rw [← hb, h5] at hcg; simpa [Value.ownBlock] using hcg
          subst this
          rw [h5] at hl
          refine hl.cells ?_
          have hi := (List.getElem?_eq_some_iff.1 hy).1
          rw [List.append_assoc, List.getElem?_append_left hi]; exact hy
      · exact haw.cell (by simpa using hcg) hc
  · refine ⟨⟨by rw [← List.append_assoc]; exact hl, fun y hy => give_new (hn y hy), aa, cap, h3, fun i y hy => ?_⟩, [], ha, by simp⟩
    obtain ⟨g, e, ho, hc⟩ := h4 i y hy
    exact ⟨g, e, by rw [give_old (block_lt_of_cell hc)]; exact ho, ha.cell (by simp) hc⟩
theorem yields_ixO {ops : Array Oper} {S : World → Prop} {op : Oper} {a : Act} (hw : Region.wanted op (yielded ops a.tmps) = true) (x ix : Operand) (ho : op.op = .indexAddr 22 x ix) (gb off n cap i : Nat) (hx : a.eval x = .slice (some ⟨gb, off, none⟩) n cap) (hix : a.eval ix = .int .i64 (i : Int)) (hi : i < n) : YieldsIf Try.prog ops S op (.pointer (some ⟨gb, off + i * 20, none⟩)) a :=
  .inl ⟨hw, fun w hw' => by
    have hu : Try.prog.underlying 22 = some (.slice (Try.prog.elem 22)) := by kernel_rfl
    have he : Try.prog.elem 22 = 35 := by kernel_rfl
    have hsz : (sizeOf 35).run Try.prog w = .ok 20 w := by kernel_rfl
    unfold execOp
    simp only [ho, hx, hix, Sem.run_bind]
    rw [run_indexAt_slice w 22 ⟨gb, off, none⟩ n cap .i64 (i : Int) hu, he, if_pos ⟨by omega, by omega⟩, hsz]
    simp only [Result.andThen, add_plain, Int.toNat_natCast]
    rfl⟩
theorem and31 (n : Int) : 0 ≤ bits .and .i64 n 31 ∧ bits .and .i64 n 31 ≤ 31 := by
  have e : bits .and .i64 n 31 = IntKind.i64.wrap ((BitVec.ofInt 64 n &&& BitVec.ofInt 64 31).toNat : Nat) := rfl
  have h : (BitVec.ofInt 64 n &&& BitVec.ofInt 64 31).toNat ≤ 31 := by
    rw [BitVec.toNat_and]
    exact Nat.le_trans Nat.and_le_right (by decide)
  rw [e, IntKind.wrap_i64]
  omega
end Go.Proofs.Ytemdgggpfadecaa
