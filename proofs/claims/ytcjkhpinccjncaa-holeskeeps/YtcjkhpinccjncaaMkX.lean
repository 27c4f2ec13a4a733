/-
  For marked: one span more, in place or in new memory; shorter slices of one block.
-/
import Derived.Test.YtcjkhpinccjncaaPcS
namespace Go.Proofs.Ytcjkhpinccjncaa
open Go.ChangeShapes Go.WideShapes Go.ChangeAt Go.RowKit
set_option linter.unusedVariables false
set_option linter.unusedSimpArgs false

/-- A shorter slice of a list of the program's own. -/
theorem Lst.head {w : World} {g n cap k : Nat} {l : List Sp} (h : Lst w (.slice (some ⟨g, 0, none⟩) n cap) l) (hk : k ≤ n) : Lst w (.slice (some ⟨g, 0, none⟩) k cap) (l.take k) := by
  obtain ⟨cur, hb, hcm, hnc, ht, hln⟩ := h.blk
  refine hb.lst hcm (by simp; omega) (by omega) ?_
  rw [flat_take, ← ht, List.take_take, show min (k * 2) (n * 2) = k * 2 from by omega]
/-- One more span: in place, or in new memory with all else as it was. -/
def OneMore (w : World) (v : Value) (l : List Sp) (x : Sp) (v' : Value) (w' : World) : Prop :=
  Lst w' v' (l ++ [x]) ∧ ((∃ g cap, v = .slice (some ⟨g, 0, none⟩) l.length cap ∧ v' = .slice (some ⟨g, 0, none⟩) (l.length + 1) cap ∧ Away [g] w w') ∨ (New w.heap.size v' ∧ Away [] w w'))
theorem run_appX (ty : TypeId) (w : World) (v : Value) (l : List Sp) (hown : Lst w v l) (ad : Addr) (c : Nat) (x : Sp) (hx : w.cell? ad = some (.int .i64 x.1)) (hy : w.cell? (ad.add 1) = some (.int .i64 x.2)) (hk : l.length < 8796093022208) :
    ∃ v' w', (Builtin.append_ #[27, 27] ty #[v, .slice (some ad) 1 c]).run Try.prog w = .ok v' w' ∧ OneMore w v l x v' w' := by
  obtain ⟨i0, hi, hz0, hz1, hz2⟩ := info_parts info50
  have hm : ∀ j u, (encS x)[j]? = some u → w.cell? (ad.add j) = some u := fun j u hj => by
    match j, hj with
    | 0, hj => simp [encS] at hj; subst hj; simpa [Addr.add] using hx
    | 1, hj => simp [encS] at hj; subst hj; exact hy
    | j + 2, hj => simp [encS] at hj
  have h1 : ∀ u ∈ encS x, u.oneCell' = true := by simp [encS, Value.oneCell']
  have fin : ∀ {B : Nat} {v' : Value} {w' : World}, w'.ownsRow B 50 2 v' (l.length + 1) (l.flatMap encS ++ encS x) → Lst w' v' (l ++ [x]) := by
    intro B v' w' h
    obtain ⟨h1, h2⟩ := h
    refine Lst.snoc ⟨h1, ?_⟩
    rcases h2 with h2 | ⟨g, cap, cur, rfl, hg, r⟩
    · exact .inl h2
    · exact .inr ⟨g, cap, cur, rfl, by omega, r⟩
  have hO := hown
  rcases hown.2 with ⟨rfl, h0⟩ | ⟨g, cap, cur, rfl, hg, hh, hnc, hcm, hcs, htake⟩
  · obtain rfl : l = [] := by simpa using h0
    obtain ⟨v', w', hrun, r1, r2, _⟩ := run_append_own (P := Try.prog) w w.heap.size 27 ty 50 i0 _ 2 16 Try.underlying27 hi hz0 hz1 hz2 rfl (by decide) (.slice none 0 0) 0 [] (World.ownsRow_nil _ _ _ _) ad 1 c (encS x) rfl hm h1 (by unfold maxLen; omega) (by omega) (Nat.le_refl _)
    refine ⟨v', w', hrun, fin (by simpa using r1), .inr ⟨fun k hk => (World.ownsRow.lt r1 k hk).1, (Away.refl _ _).grown r2 (by simp [Value.ownBlock])⟩⟩
  · by_cases hroom : l.length + 1 ≤ cap
    · obtain ⟨w', hrun, r1, r2⟩ := run_append_fits (P := Try.prog) w 0 27 ty 50 i0 2 Try.underlying27 hi hz1 g l.length cap (l.flatMap encS) hO ad 1 c (encS x) rfl hm h1 hroom
      exact ⟨_, w', hrun, fin r1, .inl ⟨g, cap, rfl, rfl, (Away.refl _ _).grown r2 (fun k hk => .inl (by simp [Value.ownBlock] at hk; simp [hk]))⟩⟩
    · obtain ⟨v', w', hrun, r1, r2⟩ := run_append_arg_grows (P := Try.prog) w 27 ty 50 i0 _ 2 16 Try.underlying27 hi hz0 hz1 hz2 rfl (by decide) ⟨g, 0, none⟩ l.length cap (l.flatMap encS) hO.1 (fun j u hu => by
          have hj : j < (l.flatMap encS).length := by
            rcases Nat.lt_or_ge j (l.flatMap encS).length with h | h
            · exact h
            · rw [List.getElem?_eq_none h] at hu; simp at hu
          rw [add_plain, Nat.zero_add, World.ownsRow.cellAt hO j (by rw [← hO.1]; exact hj)]; exact hu) ad 1 c (encS x) rfl hm (by omega) (by unfold maxLen; omega) (by omega)
      exact ⟨v', w', hrun, fin r1, .inr ⟨fun k hk => (World.ownsRow.lt r1 k hk).1, (Away.refl _ _).grown r2 (by simp)⟩⟩
/-- A slice that was there ahead of it, of the same block or of another, stays what it was. -/
theorem OneMore.keep {w w' : World} {v v' : Value} {l : List Sp} {x : Sp} (h : OneMore w v l x v' w') {g n cap : Nat} (hu : Lst w (.slice (some ⟨g, 0, none⟩) n cap) (l.take n)) (hv : ∀ cap', v = .slice (some ⟨g, 0, none⟩) l.length cap' → cap' = cap ∧ n ≤ l.length) :
    Lst w' (.slice (some ⟨g, 0, none⟩) n cap) (l.take n) := by
  rcases h.2 with ⟨g', cap', rfl, rfl, ha⟩ | ⟨hn, ha⟩
  · by_cases hg : g' = g
    · subst hg
      obtain ⟨rfl, hle⟩ := hv cap' rfl
      have := h.1.head (k := n) (by omega)
      rwa [List.take_append_of_le_length hle] at this
    · exact hu.away ha (fun k hk => by simp [Value.ownBlock] at hk; simp; omega)
  · exact hu.on ha
/-- As a step of a walk. -/
theorem wpList_appX {w : World} {ops : Array Oper} {rest : List Oper} {o : Oper} {a : Act} {Q : Exit → Act → World → Prop} (hgd : o.guard = none) (s t : Operand)
    (ho : o.op = .call { callee := .builtin .append, args := #[s, t], argTypes := #[27, 27] }) (v : Value) (l : List Sp) (hs : a.eval s = v) (hown : Lst w v l)
    (ad : Addr) (c : Nat) (ht : a.eval t = .slice (some ad) 1 c) (x : Sp) (hx : w.cell? ad = some (.int .i64 x.1)) (hy : w.cell? (ad.add 1) = some (.int .i64 x.2)) (hk : l.length < 8796093022208)
    (h : ∀ v' w', OneMore w v l x v' w' → wpList Try.prog ops Q rest (a.put o.dst v') w') : wpList Try.prog ops Q (o :: rest) a w := by
  obtain ⟨v', w', hrun, r1⟩ := run_appX o.type w v l hown ad c x hx hy hk
  refine wpList_plain hgd fun _ hK => ?_
  unfold Oper.wp
  simp [execOp, ho, resolve, invoke, builtin, hs, ht, hrun, Result.andThen]
  exact hK _ _ (h v' w' r1)
end Go.Proofs.Ytcjkhpinccjncaa
