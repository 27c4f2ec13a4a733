/-
  A list of options written over and lengthened; a run of a list; ones.
-/
import Derived.Test.YtokhmlpajfhbpaaDoorPuts
namespace Go.Proofs.YtokhmlpajfhbpaaDoor
open Go.ChangeShapes Go.WideShapes Go.ChangeAt Go.RowKit Go.Deep
set_option linter.unusedVariables false
set_option maxRecDepth 100000

theorem size38 (wx : World) : (sizeOf (Tryd.prog.elem 23)).run Tryd.prog wx = .ok 2 wx := by kernel_rfl
theorem under23 : Tryd.prog.underlying 23 = some (.slice (Tryd.prog.elem 23)) := by kernel_rfl
theorem slice23_l (b len cap k : Nat) (lo : Int) (hlo : lo = k) (hm : k ≤ len) (hc : k < cap) (wx : World) :
    (Instr.sliceAt 23 (.slice (some ⟨b, 0, none⟩) len cap) (some (.int .i64 lo)) none none).run Tryd.prog wx = .ok (.slice (some ⟨b, k * 2, none⟩) (len - k) (cap - k)) wx := by
  subst hlo
  rw [run_sliceAt_slice (h := under23), run_slice_l (ht := under23) (h0 := by omega) (h1 := by omega), size38]
  simp only [Result.andThen, sliced]
  rw [show (k : Int).toNat = k from by omega, if_neg (by omega)]
  simp [add_plain]
/-- The option that is written over all. -/
def Z7 : V := ⟨-7, none, 0, []⟩
theorem flat_set : ∀ (xs : List V) (i : Nat) (z : V), i < xs.length → (xs.set i z).flatMap V.cells = ((xs.flatMap V.cells).set (i * 2) (.int .i64 z.kd)).set (i * 2 + 1) z.sl
  | x :: r, 0, z, h => by simp [V.cells]
  | x :: r, i + 1, z, h => by
    have ih := flat_set r i z (by simpa using h)
    rw [List.set_cons_succ, List.flatMap_cons, ih, List.flatMap_cons]
    rw [List.set_append_right _ _ (by simp [V.cells]; omega), List.set_append_right _ _ (by simp [V.cells]; omega)]
    rw [show (i + 1) * 2 - x.cells.length = i * 2 from by simp [V.cells]; omega, show (i + 1) * 2 + 1 - x.cells.length = i * 2 + 1 from by simp [V.cells]; omega]
theorem Lst.set {w : World} {b n c : Nat} {xs : List V} (h : Lst w (.slice (some ⟨b, 0, none⟩) n c) xs) (hn : xs.length = n) (i : Nat) (hi : i < n) :
    Lst ((w.setCell ⟨b, i * 2, none⟩ (.int .i64 (-7))).setCell ⟨b, i * 2 + 1, none⟩ (.slice none 0 0)) (.slice (some ⟨b, 0, none⟩) n c) (xs.set i Z7) := by
  subst hn
  unfold Lst at h ⊢
  rw [List.length_set, flat_set xs i Z7 hi]
  exact (World.ownsRow.stored (World.ownsRow.stored h (i * 2) (.int .i64 (-7))).1 (i * 2 + 1) (.slice none 0 0)).1
theorem lst_slice {w : World} {v : Value} {xs : List V} (h : Lst w v xs) : ∃ a c, v = .slice a xs.length c ∧ xs.length ≤ c ∧ ∀ i x, xs[i]? = some x → ∃ b, a = some ⟨b, 0, none⟩ ∧ w.cell? ⟨b, i * 2, none⟩ = some (.int .i64 x.kd) ∧ w.cell? ⟨b, i * 2 + 1, none⟩ = some x.sl ∧ w.frozen? ⟨b, i * 2, none⟩ = false ∧ w.frozen? ⟨b, i * 2 + 1, none⟩ = false := by
  have h0 := h
  rcases h.2 with ⟨e, h0⟩ | ⟨g, cap, cur, e, _, hh, hnc, _⟩
  · refine ⟨none, 0, by rw [e, h0], by omega, fun i y hy => ?_⟩
    rw [List.eq_nil_of_length_eq_zero h0] at hy; simp at hy
  · refine ⟨some ⟨g, 0, none⟩, cap, e, hnc, fun i x hx => ⟨g, rfl, ?_⟩⟩
    subst e
    have hi : i < xs.length := (List.getElem?_eq_some_iff.1 hx).1
    have f := flat_get xs i x hx
    rw [World.ownsRow.cellAt h0 (i * 2) (by omega), World.ownsRow.cellAt h0 (i * 2 + 1) (by omega)]
    exact ⟨f.1, f.2, free_of_block hh _, free_of_block hh _⟩
/-- An append of one option: in place, or into new memory. -/
theorem wpList_app2X {w : World} {ops : Array Oper} {rest : List Oper} {o : Oper} {a : Act} {Q : Exit → Act → World → Prop} (hw : Region.wanted o (yielded ops a.tmps) = true) (s t : Operand)
    (ho : o.op = .call { callee := .builtin .append, args := #[s, t], argTypes := #[23, 23] }) (v : Value) (xs : List V) (hs : a.eval s = v) (hown : Lst w v xs)
    (ad : Addr) (c : Nat) (ht : a.eval t = .slice (some ad) 1 c) (z : V) (hx : w.cell? ad = some (.int .i64 z.kd)) (hy : w.cell? (ad.add 1) = some z.sl) (hk : xs.length < 4398046511104)
    (h : ∀ v' w', Lst w' v' (xs ++ [z]) → ((v'.ownBlock = v.ownBlock ∧ Away v.ownBlock.toList w w') ∨ (New w.heap.size v' ∧ Away [] w w')) → wpList Tryd.prog ops Q rest (a.put o.dst v') w') : wpList Tryd.prog ops Q (o :: rest) a w := by
  obtain ⟨i0, hi, hz0, hz1, hz2⟩ := info_parts info38
  have hcells : ∀ j u, ([.int .i64 z.kd, z.sl] : List Value)[j]? = some u → w.cell? (ad.add j) = some u := fun j u hj => by
    match j, hj with
    | 0, hj => simp at hj; subst hj; simpa [Addr.add] using hx
    | 1, hj => simp at hj; subst hj; exact hy
    | j + 2, hj => simp at hj
  have hone : ∀ u ∈ ([.int .i64 z.kd, z.sl] : List Value), u.oneCell' = true := by
    intro u hu
    simp at hu
    rcases hu with rfl | rfl <;> rfl
  have fin : ∀ {B : Nat} {v' : Value} {w' : World}, w'.ownsRow B 38 2 v' (xs.length + 1) (xs.flatMap V.cells ++ [.int .i64 z.kd, z.sl]) → Lst w' v' (xs ++ [z]) := by
    intro B v' w' h
    apply Lst.snoc
    obtain ⟨h1, h2⟩ := h
    refine ⟨h1, ?_⟩
    rcases h2 with h2 | ⟨g, cap, cur, rfl, hg, r⟩
    · exact .inl h2
    · exact .inr ⟨g, cap, cur, rfl, by omega, r⟩
  have main : ∃ v' w', (Builtin.append_ #[23, 23] o.type #[v, .slice (some ad) 1 c]).run Tryd.prog w = .ok v' w' ∧ Lst w' v' (xs ++ [z]) ∧ ((v'.ownBlock = v.ownBlock ∧ Away v.ownBlock.toList w w') ∨ (New w.heap.size v' ∧ Away [] w w')) := by
    rcases hown.2 with ⟨rfl, h0⟩ | ⟨g, cap, cur, rfl, hg, hh, hnc, hcm, hcs, htake⟩
    · have hx0 : xs = [] := List.eq_nil_of_length_eq_zero h0
      subst hx0
      obtain ⟨v', w', hrun, r1, r2, _⟩ := run_append_own (P := Tryd.prog) w w.heap.size 23 o.type 38 i0 _ 2 32 Tryd.underlying23 hi hz0 hz1 hz2 rfl (by decide) (.slice none 0 0) 0 [] (World.ownsRow_nil _ _ _ _) ad 1 c [.int .i64 z.kd, z.sl] rfl hcells hone (by unfold maxLen; omega) (by omega) (Nat.le_refl _)
      exact ⟨v', w', hrun, fin (by simpa using r1), .inr ⟨fun k hk => (World.ownsRow.lt r1 k hk).1, (Away.refl _ _).grown r2 (by simp [Value.ownBlock])⟩⟩
    · by_cases hroom : xs.length + 1 ≤ cap
      · obtain ⟨w', hrun, r1, r2⟩ := run_append_fits (P := Tryd.prog) w 0 23 o.type 38 i0 2 Tryd.underlying23 hi hz1 g xs.length cap (xs.flatMap V.cells) hown ad 1 c [.int .i64 z.kd, z.sl] rfl hcells hone hroom
        exact ⟨_, w', hrun, fin r1, .inl ⟨rfl, (Away.refl _ _).grown r2 (fun k hk => .inl (by simp [Value.ownBlock]; simpa using hk.symm))⟩⟩
      · obtain ⟨v', w', hrun, r1, r2⟩ := run_append_arg_grows (P := Tryd.prog) w 23 o.type 38 i0 _ 2 32 Tryd.underlying23 hi hz0 hz1 hz2 rfl (by decide) ⟨g, 0, none⟩ xs.length cap (xs.flatMap V.cells) (flat_two xs) (fun j u hu => by
            have hj : j < xs.length * 2 := by
              rcases Nat.lt_or_ge j (xs.length * 2) with h | h
              · exact h
              · rw [List.getElem?_eq_none (by rw [flat_two]; exact h)] at hu; simp at hu
            rw [add_plain, Nat.zero_add, World.ownsRow.cellAt hown j (by omega)]; exact hu) ad 1 c [.int .i64 z.kd, z.sl] rfl hcells (by omega) (by unfold maxLen; omega) (by omega)
        exact ⟨v', w', hrun, fin r1, .inr ⟨fun k hk => (World.ownsRow.lt r1 k hk).1, (Away.refl _ _).grown r2 (by simp)⟩⟩
  obtain ⟨v', w', hrun, r1, r2⟩ := main
  refine wpList_step fun K hK => ?_
  rw [if_pos hw]
  unfold Oper.wp
  simp [execOp, ho, resolve, invoke, builtin, hs, ht, hrun, Result.andThen]
  exact hK _ _ (h v' w' r1 r2)
/-- The list m of n sevens in block b; longer: xv. -/
structure SvI (m : Value) (n j : Nat) (wr0 : World) (xv : Value) (ws : World) : Prop where
  own : Lst ws xv (List.replicate (n + j) Z7)
  blk : ∀ k, xv.ownBlock = some k → m.ownBlock = some k ∨ wr0.heap.size ≤ k
  away : Away m.ownBlock.toList wr0 ws
  row : ∀ i b c, i < n → m = .slice (some ⟨b, 0, none⟩) n c → ws.cell? ⟨b, i * 2, none⟩ = some (.int .i64 (-7))
theorem SvI.start {w : World} {m : Value} {n : Nat} (h : Lst w m (List.replicate n Z7)) : SvI m n 0 w m w :=
  ⟨h, fun k hk => .inl hk, Away.refl _ _, fun i b c hi e => by
    obtain ⟨a', c', e', _, hc⟩ := lst_slice h
    obtain ⟨b', hb, h1, _⟩ := hc i Z7 (by rw [List.getElem?_replicate, if_pos hi])
    rw [e] at e'
    simp only [Value.slice.injEq] at e'
    have : b = b' := by rw [e'.1.symm] at hb; simpa using hb
    rw [this]; exact h1⟩
theorem SvI.alloc {m : Value} {n j : Nat} {wr0 : World} {xv : Value} {ws : World} (h : SvI m n j wr0 xv ws) (o : Obj) : SvI m n j wr0 xv (ws.alloc o) :=
  ⟨h.own.away ((Away.refl [] _).alloc _) (by simp), h.blk, h.away.alloc _, fun i b c hi e => ((Away.refl [] _).alloc _).cell (by simp) (h.row i b c hi e)⟩
theorem SvI.step {m : Value} {n j : Nat} {wr0 : World} {xv xv' : Value} {ws ws' : World} (h : SvI m n j wr0 xv ws) (ho : Lst ws' xv' (List.replicate (n + j) Z7 ++ [Z7]))
    (hd : (xv'.ownBlock = xv.ownBlock ∧ Away xv.ownBlock.toList ws ws') ∨ (New ws.heap.size xv' ∧ Away [] ws ws')) : SvI m n (j + 1) wr0 xv' ws' := by
  have ho' : Lst ws' xv' (List.replicate (n + (j + 1)) Z7) := by
    rw [show n + (j + 1) = n + j + 1 from by omega, List.replicate_succ']
    exact ho
  have hsz := h.away.size
  rcases hd with ⟨he, haw⟩ | ⟨hn, haw⟩
  · refine ⟨ho', fun k hk => h.blk k (by rw [← he]; exact hk), h.away.next haw (fun x hx => ?_), fun i b c hi e => ?_⟩
    · rcases h.blk x (by simpa using hx) with h1 | h1
      · exact .inl (by simp [h1])
      · exact .inr h1
    · by_cases hx : xv.ownBlock = some b
      · have hx' : xv'.ownBlock = some b := by rw [he]; exact hx
        obtain ⟨a', c', e', _, hc⟩ := lst_slice ho'
        obtain ⟨b', hb, h1, _⟩ := hc i Z7 (by rw [List.getElem?_replicate, if_pos (by omega)])
        have : b = b' := by
          rw [e', hb] at hx'
          simpa [Value.ownBlock] using hx'.symm
        rw [this]; exact h1
      · exact haw.cell (fun hm => hx (by simpa using hm)) (h.row i b c hi e)
  · exact ⟨ho', fun k hk => .inr (by have := hn k hk; omega), h.away.next haw (by simp), fun i b c hi e => haw.cell (by simp) (h.row i b c hi e)⟩
theorem SvI.on {m : Value} {n j : Nat} {wr0 : World} {xv : Value} {ws ws' : World} (h : SvI m n j wr0 xv ws) (haw : Away [] ws ws') : SvI m n j wr0 xv ws' :=
  ⟨h.own.away haw (by simp), h.blk, h.away.next haw (by simp), fun i b c hi e => haw.cell (by simp) (h.row i b c hi e)⟩
theorem parse_ones : ∀ n : Nat, parseP (List.replicate n 1) = some (List.replicate n (1, []))
  | 0 => parseP_nil
  | n + 1 => by rw [List.replicate_succ, parseP_one, parse_ones n, List.replicate_succ]; rfl
theorem seven_set (xs : List V) (i : Nat) (h : i < xs.length) : (List.replicate i Z7 ++ xs.drop i).set i Z7 = List.replicate (i + 1) Z7 ++ xs.drop (i + 1) := by
  rw [List.set_append_right _ _ (by simp)]
  simp only [List.length_replicate, Nat.sub_self]
  rw [List.drop_eq_getElem_cons h, List.set_cons_zero, List.replicate_succ', List.append_assoc]
  rfl
#print axioms SvI.step
end Go.Proofs.YtokhmlpajfhbpaaDoor
