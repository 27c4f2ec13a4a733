/-
  For HolesKeeps: lists of lists.
-/
import Derived.Test.YtcjkhpinccjncaaMkX
namespace Go.Proofs.Ytcjkhpinccjncaa
open Go.ChangeShapes Go.WideShapes Go.ChangeAt Go.RowKit
set_option linter.unusedVariables false
set_option linter.unusedSimpArgs false

/-- A list of slices of the program's own. -/
def LstV (w : World) (v : Value) (xs : List Value) : Prop := w.ownsRow 0 27 1 v xs.length xs
theorem LstV.away {S : List Nat} {w w' : World} {v : Value} {xs : List Value} (h : LstV w v xs) (hw : Away S w w') (ha : ∀ k, v.ownBlock = some k → k ∉ S) : LstV w' v xs := by
  obtain ⟨h1, h2⟩ := h
  refine ⟨h1, ?_⟩
  rcases h2 with h2 | ⟨g, cap, cur, rfl, hg, hh, r⟩
  · exact .inl h2
  · exact .inr ⟨g, cap, cur, rfl, hg, hw.keep (ha g rfl) hh, r⟩
theorem LstV.on {w w' : World} {v : Value} {xs : List Value} (h : LstV w v xs) (hw : Away [] w w') : LstV w' v xs := h.away hw (by simp)
theorem LstV.nil (w : World) : LstV w (.slice none 0 0) [] := World.ownsRow_nil _ _ _ _
theorem LstV.lt {w : World} {v : Value} {xs : List Value} (h : LstV w v xs) : ∀ k, v.ownBlock = some k → k < w.heap.size := fun k hk => (World.ownsRow.lt h k hk).2
theorem LstV.shape {w : World} {v : Value} {xs : List Value} (h : LstV w v xs) : ∃ a cap, v = .slice a xs.length cap ∧ (a = none → cap = 0) ∧ (∀ p, a = some p → p.off = 0 ∧ p.spot = none ∧ v.ownBlock = some p.block) ∧
    ∀ i u, xs[i]? = some u → ∃ g, a = some ⟨g, 0, none⟩ ∧ w.cell? ⟨g, i, none⟩ = some u := by
  have h0 := h
  rcases h.2 with ⟨rfl, h2⟩ | ⟨g, cap, cur, rfl, hg, hh, hn, hc, hs, ht⟩
  · obtain rfl : xs = [] := by simpa using h2
    exact ⟨none, 0, rfl, fun _ => rfl, by simp, by simp⟩
  · refine ⟨some ⟨g, 0, none⟩, cap, rfl, by simp, by simp [Value.ownBlock], fun i u hu => ⟨g, rfl, ?_⟩⟩
    have hi : i < xs.length := by
      rcases Nat.lt_or_ge i xs.length with h' | h'
      · exact h'
      · rw [List.getElem?_eq_none h'] at hu; simp at hu
    rw [World.ownsRow.cellAt h0 i (by omega)]
    exact hu
theorem info27 : (Try.prog.info? 27).map (fun i => (i.zero, i.size, i.bytes)) = some (some (.slice none 0 0), 1, 24) := by kernel_rfl
/-- Slices appended, as a step of a walk. -/
theorem wpList_appV {w : World} {ops : Array Oper} {rest : List Oper} {o : Oper} {a : Act} {Q : Exit → Act → World → Prop} (hgd : o.guard = none) (s t : Operand)
    (ho : o.op = .call { callee := .builtin .append, args := #[s, t], argTypes := #[38, 38] }) (v : Value) (xs us : List Value) (hs : a.eval s = v) (hown : LstV w v xs)
    (ad : Addr) (n c : Nat) (ht : a.eval t = .slice (some ad) n c) (hn : us.length = n) (hu : ∀ j u, us[j]? = some u → w.cell? (ad.add j) = some u) (h1 : ∀ u ∈ us, u.oneCell' = true) (hk : xs.length + n ≤ 1000000000)
    (h : ∀ v' w', LstV w' v' (xs ++ us) → Away v.ownBlock.toList w w' → Moved w v v' → wpList Try.prog ops Q rest (a.put o.dst v') w') : wpList Try.prog ops Q (o :: rest) a w := by
  subst hn
  obtain ⟨i0, hi, hz0, hz1, hz2⟩ := info_parts info27
  obtain ⟨v', w', hrun, r1, r2, r3⟩ := run_appN 38 o.type 27 i0 _ 24 1 Try.underlying38 hi hz0 hz1 hz2 rfl (by decide) w v xs.length xs hown ad us.length c us (by simp) hu h1 (by unfold maxLen; omega) (by omega)
  refine wpList_plain hgd fun _ hK => ?_
  unfold Oper.wp
  simp [execOp, ho, resolve, invoke, builtin, hs, ht, hrun, Result.andThen]
  refine hK _ _ (h v' w' ?_ ((Away.refl _ _).grown r2 (fun k hk => .inl (by simp [hk]))) r3)
  unfold LstV
  rw [List.length_append]
  exact r1
end Go.Proofs.Ytcjkhpinccjncaa
