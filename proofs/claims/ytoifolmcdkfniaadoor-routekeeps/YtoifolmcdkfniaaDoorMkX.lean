/-
  For marked: one route more, in place or in new memory; shorter slices of one block; lists of lists; a route written over.
-/
import Derived.Test.YtoifolmcdkfniaaDoorQt
import Derived.ArgAppend
import Derived.Laws.OwnMore
namespace Go.Proofs.YtoifolmcdkfniaaDoor
open Go.ChangeShapes Go.WideShapes Go.ChangeAt Go.RowKit
set_option linter.unusedVariables false
set_option linter.unusedSimpArgs false
set_option maxRecDepth 100000

def Sep (S T : List Nat) : Prop := ∀ x ∈ S, x ∉ T
theorem Sep.symm {S T : List Nat} (h : Sep S T) : Sep T S := fun x hx hc => h x hc hx
/-- A list of routes of its own, each as it may lie. -/
def LR (w : World) (v : Value) (l : List Rt) : Prop := LstD w v l ∧ ∀ x ∈ l, Okr x
theorem LR.away {S : List Nat} {w w' : World} {v : Value} {l : List Rt} (h : LR w v l) (hw : Away S w w') (ha : ∀ k, v.ownBlock = some k → k ∉ S) : LR w' v l := ⟨h.1.away hw ha, h.2⟩
theorem LR.on {w w' : World} {v : Value} {l : List Rt} (h : LR w v l) (hw : Away [] w w') : LR w' v l := ⟨h.1.on hw, h.2⟩
theorem LR.lt {w : World} {v : Value} {l : List Rt} (h : LR w v l) : ∀ k, v.ownBlock = some k → k < w.heap.size := h.1.lt
theorem LR.head {w : World} {g n cap k : Nat} {l : List Rt} (h : LR w (.slice (some ⟨g, 0, none⟩) n cap) l) (hk : k ≤ n) : LR w (.slice (some ⟨g, 0, none⟩) k cap) (l.take k) := by
  obtain ⟨cur, hb, hcm, hnc, ht, hln⟩ := h.1.blk
  have hA : ∀ x ∈ l.take k, Okr x := fun x hx => h.2 x (List.mem_of_mem_take hx)
  refine ⟨hb.lst hA hcm (by simp; omega) (by omega) ?_, hA⟩
  rw [← flat_take h.2 (by omega), ← ht, List.take_take, show min (k * 19) (n * 19) = k * 19 from by omega]
/-- One more route: in place, or in new memory with all else as it was. -/
def OneMore (w : World) (v : Value) (l : List Rt) (x : Rt) (v' : Value) (w' : World) : Prop :=
  LR w' v' (l ++ [x]) ∧ ((∃ g cap, v = .slice (some ⟨g, 0, none⟩) l.length cap ∧ v' = .slice (some ⟨g, 0, none⟩) (l.length + 1) cap ∧ Away [g] w w') ∨ (New w.heap.size v' ∧ Away [] w w'))
theorem run_appX (ty : TypeId) (w : World) (v : Value) (l : List Rt) (hown : LR w v l) (gx c : Nat) (x : Rt) (hbx : BoxD w gx x) (hx : Okr x) (hk : l.length < 3518437208800) :
    ∃ v' w', (Builtin.append_ #[22, 22] ty #[v, .slice (some ⟨gx, 0, none⟩) 1 c]).run Tryd.prog w = .ok v' w' ∧ OneMore w v l x v' w' := by
  obtain ⟨i0, hi, hz0, hz1, hz2⟩ := info_parts infoK
  have hm : ∀ j u, (listD x)[j]? = some u → w.cell? ((⟨gx, 0, none⟩ : Addr).add j) = some u := fun j u hj => by
    rw [add_plain, Nat.zero_add]; have h1 := hbx.range j u hj; simpa using h1
  have h1 : ∀ u ∈ listD x, u.oneCell' = true := listD_one hx
  have hlx : (listD x).length = 1 * 19 := by rw [listD_len hx]
  have hAx : ∀ y ∈ l ++ [x], Okr y := fun y hy => by
    rw [List.mem_append, List.mem_singleton] at hy
    rcases hy with hy | rfl
    · exact hown.2 y hy
    · exact hx
  have fin : ∀ {B : Nat} {v' : Value} {w' : World}, w'.ownsRow B 41 19 v' (l.length + 1) (l.flatMap listD ++ listD x) → LR w' v' (l ++ [x]) := by
    intro B v' w' h
    obtain ⟨h1, h2⟩ := h
    refine ⟨?_, hAx⟩
    unfold LstD
    rw [flat_snoc, List.length_append]
    refine ⟨h1, ?_⟩
    rcases h2 with h2 | ⟨g, cap, cur, rfl, hg, r⟩
    · exact .inl h2
    · exact .inr ⟨g, cap, cur, rfl, by omega, r⟩
  have hO := hown.1
  rcases hO.2 with ⟨rfl, h0⟩ | ⟨g, cap, cur, rfl, hg, hh, hnc, hcm, hcs, htake⟩
  · obtain rfl : l = [] := by simpa using h0
    obtain ⟨v', w', hrun, r1, r2, _⟩ := run_append_own (P := Tryd.prog) w w.heap.size 22 ty 41 i0 _ 19 40 Tryd.underlying22 hi hz0 hz1 hz2 zD_size (by decide) (.slice none 0 0) 0 [] (World.ownsRow_nil _ _ _ _) ⟨gx, 0, none⟩ 1 c (listD x) hlx hm h1 (by unfold maxLen; omega) (by omega) (Nat.le_refl _)
    refine ⟨v', w', hrun, fin (by simpa using r1), .inr ⟨fun k hk => (World.ownsRow.lt r1 k hk).1, (Away.refl _ _).grown r2 (by simp [Value.ownBlock])⟩⟩
  · by_cases hroom : l.length + 1 ≤ cap
    · obtain ⟨w', hrun, r1, r2⟩ := run_append_fits (P := Tryd.prog) w 0 22 ty 41 i0 19 Tryd.underlying22 hi hz1 g l.length cap (l.flatMap listD) hO ⟨gx, 0, none⟩ 1 c (listD x) hlx hm h1 hroom
      exact ⟨_, w', hrun, fin r1, .inl ⟨g, cap, rfl, rfl, (Away.refl _ _).grown r2 (fun k hk => .inl (by simp [Value.ownBlock] at hk; simp [hk]))⟩⟩
    · obtain ⟨v', w', hrun, r1, r2⟩ := run_append_arg_grows (P := Tryd.prog) w 22 ty 41 i0 _ 19 40 Tryd.underlying22 hi hz0 hz1 hz2 zD_size (by decide) ⟨g, 0, none⟩ l.length cap (l.flatMap listD) hO.1 (fun j u hu => by
          have hj : j < (l.flatMap listD).length := lt_of_get hu
          rw [add_plain, Nat.zero_add, World.ownsRow.cellAt hO j (by rw [← hO.1]; exact hj)]; exact hu) ⟨gx, 0, none⟩ 1 c (listD x) hlx hm (by omega) (by unfold maxLen; omega) (by omega)
      exact ⟨v', w', hrun, fin r1, .inr ⟨fun k hk => (World.ownsRow.lt r1 k hk).1, (Away.refl _ _).grown r2 (by simp)⟩⟩
theorem wpList_appX {w : World} {ops : Array Oper} {rest : List Oper} {o : Oper} {a : Act} {Q : Exit → Act → World → Prop} (hgd : o.guard = none) (s t : Operand)
    (ho : o.op = .call { callee := .builtin .append, args := #[s, t], argTypes := #[22, 22] }) (v : Value) (l : List Rt) (hs : a.eval s = v) (hown : LR w v l)
    (gx c : Nat) (ht : a.eval t = .slice (some ⟨gx, 0, none⟩) 1 c) (x : Rt) (hbx : BoxD w gx x) (hx : Okr x) (hk : l.length < 3518437208800)
    (h : ∀ v' w', OneMore w v l x v' w' → wpList Tryd.prog ops Q rest (a.put o.dst v') w') : wpList Tryd.prog ops Q (o :: rest) a w := by
  obtain ⟨v', w', hrun, r1⟩ := run_appX o.type w v l hown gx c x hbx hx hk
  refine wpList_plain hgd fun _ hK => ?_
  unfold Oper.wp
  simp [execOp, ho, resolve, invoke, builtin, hs, ht, hrun, Result.andThen]
  exact hK _ _ (h v' w' r1)
/-- A list of slices of the program's own. -/
def LstV (w : World) (v : Value) (xs : List Value) : Prop := w.ownsRow 0 22 1 v xs.length xs
theorem LstV.away {S : List Nat} {w w' : World} {v : Value} {xs : List Value} (h : LstV w v xs) (hw : Away S w w') (ha : ∀ k, v.ownBlock = some k → k ∉ S) : LstV w' v xs := by
  obtain ⟨h1, h2⟩ := h
  refine ⟨h1, ?_⟩
  rcases h2 with h2 | ⟨g, cap, cur, rfl, hg, hh, r⟩
  · exact .inl h2
  · exact .inr ⟨g, cap, cur, rfl, hg, hw.keep (ha g rfl) hh, r⟩
theorem LstV.on {w w' : World} {v : Value} {xs : List Value} (h : LstV w v xs) (hw : Away [] w w') : LstV w' v xs := h.away hw (by simp)
theorem LstV.nil (w : World) : LstV w (.slice none 0 0) [] := World.ownsRow_nil _ _ _ _
theorem LstV.lt {w : World} {v : Value} {xs : List Value} (h : LstV w v xs) : ∀ k, v.ownBlock = some k → k < w.heap.size := fun k hk => (World.ownsRow.lt h k hk).2
theorem LstV.shape {w : World} {v : Value} {xs : List Value} (h : LstV w v xs) : ∃ a cap, v = .slice a xs.length cap ∧ (a = none → cap = 0) ∧ (∀ p, a = some p → p.off = 0 ∧ p.spot = none ∧ v.ownBlock = some p.block) ∧
    ∀ i u, xs[i]? = some u → ∃ g, a = some ⟨g, 0, none⟩ ∧ w.cell? ⟨g, i, none⟩ = some u := by
  have h0 := h
  rcases h.2 with ⟨rfl, h2⟩ | ⟨g, cap, cur, rfl, hg, hh, hn, hc, hs, ht⟩
  · obtain rfl : xs = [] := by simpa using h2
    exact ⟨none, 0, rfl, fun _ => rfl, by simp, by simp⟩
  · refine ⟨some ⟨g, 0, none⟩, cap, rfl, by simp, by simp [Value.ownBlock], fun i u hu => ⟨g, rfl, ?_⟩⟩
    have hi : i < xs.length := lt_of_get hu
    rw [World.ownsRow.cellAt h0 i (by omega)]
    exact hu
theorem infoV : (Tryd.prog.info? 22).map (fun i => (i.zero, i.size, i.bytes)) = some (some (.slice none 0 0), 1, 24) := by kernel_rfl
theorem wpList_appV {w : World} {ops : Array Oper} {rest : List Oper} {o : Oper} {a : Act} {Q : Exit → Act → World → Prop} (hgd : o.guard = none) (s t : Operand)
    (ho : o.op = .call { callee := .builtin .append, args := #[s, t], argTypes := #[43, 43] }) (v : Value) (xs us : List Value) (hs : a.eval s = v) (hown : LstV w v xs)
    (ad : Addr) (n c : Nat) (ht : a.eval t = .slice (some ad) n c) (hn : us.length = n) (hu : ∀ j u, us[j]? = some u → w.cell? (ad.add j) = some u) (h1 : ∀ u ∈ us, u.oneCell' = true) (hk : xs.length + n ≤ 1000000000)
    (h : ∀ v' w', LstV w' v' (xs ++ us) → Away v.ownBlock.toList w w' → Moved w v v' → wpList Tryd.prog ops Q rest (a.put o.dst v') w') : wpList Tryd.prog ops Q (o :: rest) a w := by
  subst hn
  obtain ⟨i0, hi, hz0, hz1, hz2⟩ := info_parts infoV
  obtain ⟨v', w', hrun, r1, r2, r3⟩ := run_appN 43 o.type 22 i0 _ 24 1 Tryd.underlying43 hi hz0 hz1 hz2 rfl (by decide) w v xs.length xs hown ad us.length c us (by simp) hu h1 (by unfold maxLen; omega) (by omega)
  refine wpList_plain hgd fun _ hK => ?_
  unfold Oper.wp
  simp [execOp, ho, resolve, invoke, builtin, hs, ht, hrun, Result.andThen]
  refine hK _ _ (h v' w' ?_ ((Away.refl _ _).grown r2 (fun k hk => .inl (by simp [hk]))) r3)
  unfold LstV
  rw [List.length_append]
  exact r1
theorem flat_over : ∀ (l : List Rt) (k : Nat) (x : Rt), (∀ y ∈ l, Okr y) → Okr x → k < l.length → (l.flatMap listD).take (k * 19) ++ listD x ++ (l.flatMap listD).drop (k * 19 + 19) = (l.set k x).flatMap listD := by
  intro l k x hA hx hk
  have e1 := flat_take hA (i := k) (by omega)
  have e2 := flat_drop hA (i := k + 1) (by omega)
  rw [show (k + 1) * 19 = k * 19 + 19 from by omega] at e2
  rw [e1, e2, List.set_eq_take_append_cons_drop, if_pos hk, List.flatMap_append, List.flatMap_cons, List.append_assoc]
theorem over_take {cur xs : List Value} {k m : Nat} (h : k * 19 + xs.length ≤ m) (hc : k * 19 + xs.length ≤ cur.length) : (over cur k xs).take m = over (cur.take m) k xs := by
  apply List.ext_getElem?
  intro i
  rw [List.getElem?_take, over_get hc, over_get (by rw [List.length_take]; omega), List.getElem?_take]
  by_cases h1 : i < k * 19
  · simp [h1, show i < m from by omega]
  · by_cases h2 : i < k * 19 + xs.length
    · simp [h1, h2, show i < m from by omega]
    · simp [h1, h2]
/-- A route written over. -/
theorem LR.put {w : World} {g n cap k : Nat} {l : List Rt} (h : LR w (.slice (some ⟨g, 0, none⟩) n cap) l) (hk : k < n) (x : Rt) (hx : Okr x) :
    ∃ cur, Blk w g cap cur ∧ (storeCells ⟨g, k * 19, none⟩ (listD x) 0).run Tryd.prog w = .ok () (w.setRow g (over cur k (listD x)).toArray) ∧ LR (w.setRow g (over cur k (listD x)).toArray) (.slice (some ⟨g, 0, none⟩) n cap) (l.set k x) := by
  obtain ⟨cur, hb, hcm, hnc, ht, hln⟩ := h.1.blk
  have hl19 := listD_len hx
  have hcl := hb.2
  have hAs : ∀ y ∈ l.set k x, Okr y := fun y hy => by
    rcases List.mem_or_eq_of_mem_set hy with h1 | rfl
    · exact h.2 y h1
    · exact hx
  obtain ⟨r1, r2⟩ := hb.set (o := k) (xs := listD x) (by rw [hl19]; omega) (listD_one hx)
  refine ⟨cur, hb, r1, r2.lst hAs hcm (by simpa using hln) hnc ?_, hAs⟩
  rw [← flat_over l k x h.2 hx (by omega), over_take (by rw [hl19]; omega) (by rw [hl19]; omega), ht]
  unfold over
  rw [hl19]
/-- A store of a whole route into a list's block. -/
theorem wpList_putR {ops : Array Oper} {rest : List Oper} {o : Oper} {a : Act} {w : World} {Q : Exit → Act → World → Prop} (hw : Region.wanted o (yielded ops a.tmps) = true) (x y : Operand) (ho : o.op = .store 41 x y)
    (g n cap k : Nat) (hx : a.eval x = .pointer (some ⟨g, k * 19, none⟩)) (l : List Rt) (d : Rt) (hd : Okr d) (hy : a.eval y = .agg (csD d)) (hr : LR w (.slice (some ⟨g, 0, none⟩) n cap) l) (hk : k < n)
    (h : ∀ w1, LR w1 (.slice (some ⟨g, 0, none⟩) n cap) (l.set k d) → Away [g] w w1 → wpList Tryd.prog ops Q rest (a.put o.dst undef) w1) : wpList Tryd.prog ops Q (o :: rest) a w := by
  obtain ⟨cur, hb, hst, hl2⟩ := hr.put hk d hd
  have e0 : (csD d).toList = listD d := by simp [csD]
  have e : (storeVar 41 ⟨g, k * 19, none⟩ (.agg (csD d))).run Tryd.prog w = .ok () (w.setRow g (over cur k (listD d)).toArray) := by
    have hi := infoE
    cases hq : Tryd.prog.info? 41 with
    | none => simp [hq] at hi
    | some i =>
      have hs : i.size = 19 := by simpa [hq] using hi
      simp [storeVar, sizeOf, typeInfo, hq, Value.cells, hs, csD_size hd, e0, hst]
  refine BigFrame.wpList_want hw fun K hK => ?_
  unfold Oper.wp execOp
  simp only [ho, hx, hy, Instr.storeAt, Instr.sureAddr, Sem.run_bind, Sem.run_pure, Result.andThen_ok, e]
  exact hK _ _ (h _ hl2 ((Away.refl [g] w).setRow (.inl (by simp)) _))
theorem quiet_ldx {o : Oper} {a : Act} {C : World → Prop} {K : Act → Prop} {t : TypeId} {v : Value} {ad : Addr} (x : Operand) (ho : o.op = .load t x) (hx : a.eval x = .pointer (some ad)) (hC : ∀ w, C w → (Instr.loadAt t (.pointer (some ad))).run Tryd.prog w = .ok v w) (hk : K (a.put o.dst v)) : o.quiet Tryd.prog a C K := by
  refine ⟨v, fun w hw => ?_, hk⟩
  unfold Oper.quietAt execOp
  simp only [ho, hx, Sem.run_bind, hC w hw, Result.andThen_ok]
  exact ⟨rfl, rfl⟩
/-- Written full as far as k. -/
def fillP (x : Rt) (k : Nat) (l : List Rt) : List Rt := List.replicate k x ++ l.drop k
theorem fill_zero (x : Rt) (l : List Rt) : fillP x 0 l = l := by simp [fillP]
theorem fill_len {x : Rt} {k : Nat} {l : List Rt} (h : k ≤ l.length) : (fillP x k l).length = l.length := by simp [fillP]; omega
theorem fill_step {x : Rt} {k : Nat} {l : List Rt} (h : k < l.length) : (fillP x k l).set k x = fillP x (k + 1) l := by
  unfold fillP
  rw [List.set_append_right _ _ (by simp), List.length_replicate, Nat.sub_self, List.drop_eq_getElem_cons h, List.set_cons_zero, List.replicate_succ', List.append_assoc]
  rfl
theorem fill_all {x : Rt} {l : List Rt} {n : Nat} (h : l.length = n) : fillP x n l = List.replicate n x := by
  unfold fillP; rw [List.drop_of_length_le (by omega), List.append_nil]
end Go.Proofs.YtoifolmcdkfniaaDoor
