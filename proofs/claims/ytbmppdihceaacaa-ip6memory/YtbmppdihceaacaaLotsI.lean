/-
  A list of ints of the call's own, made longer by one (for Ip6Memory's 'long').
-/
import Derived.Test.YtbmppdihceaacaaLotsN
namespace Go.Proofs.Ytbmppdihceaacaa
open Go.ChangeShapes Go.WideShapes Go.ChangeAt Go.RowKit Go.Deep Num
set_option linter.unusedVariables false

theorem info3 : (Try.prog.info? 3).map (fun i => (i.zero, i.size, i.bytes)) = some (some (.int .i64 0), 1, 8) := by kernel_rfl
def OwnsI (w : World) (v : Value) (l : List Int) : Prop := OwnsG 3 w v (l.map (Value.int .i64))
theorem OwnsI.nil (w : World) : OwnsI w (.slice none 0 0) [] := OwnsG.nil _ _
theorem OwnsI.away {S : List Nat} {w w' : World} {v : Value} {l : List Int} (h : OwnsI w v l) (hw : Away S w w') (ha : ∀ k, v.ownBlock = some k → k ∉ S) : OwnsI w' v l := OwnsG.away h hw ha
theorem OwnsI.on {w w' : World} {v : Value} {l : List Int} (h : OwnsI w v l) (hw : Away [] w w') : OwnsI w' v l := h.away hw (by simp)
theorem OwnsI.lt {w : World} {v : Value} {l : List Int} (h : OwnsI w v l) : ∀ k, v.ownBlock = some k → k < w.heap.size := OwnsG.lt h
theorem run_app3 (ty : TypeId) (w : World) (v : Value) (l : List Int) (x : Int) (hown : OwnsI w v l) (ad : Addr) (c : Nat) (hx : w.cell? ad = some (.int .i64 x)) (hlen : l.length ≤ 1000) :
    ∃ v' w', (Builtin.append_ #[46, 46] ty #[v, .slice (some ad) 1 c]).run Try.prog w = .ok v' w' ∧ OwnsI w' v' (l ++ [x]) ∧ w.grownBy w' v.ownBlock ∧ Moved w v v' := by
  obtain ⟨i0, hi, hz0, hz1, hz2⟩ := info_parts info3
  obtain ⟨v', w', h1, h2, h3, h4⟩ := run_app 46 ty 3 i0 (.int .i64 0) 8 Try.underlying46 hi hz0 hz1 hz2 rfl w v (l.map (Value.int .i64)) hown ad 1 c [.int .i64 x] rfl (fun j u hj => by
    match j, hj with
    | 0, hj => simp at hj; subst hj; simpa [Addr.add] using hx
    | j + 1, hj => simp at hj) (by simp [Value.oneCell']) (by unfold maxLen; simp; omega) (by simp; omega)
  exact ⟨v', w', h1, by unfold OwnsI; rw [List.map_append]; exact h2, h3, h4⟩
theorem wpList_app3 {w : World} {ops : Array Oper} {rest : List Oper} {o : Oper} {a : Act} {Q : Exit → Act → World → Prop} (hgd : o.guard = none) (s y : Operand)
    (ho : o.op = .call { callee := .builtin .append, args := #[s, y], argTypes := #[46, 46] }) (v : Value) (l : List Int) (x : Int) (hs : a.eval s = v) (hown : OwnsI w v l)
    (ad : Addr) (c : Nat) (hy : a.eval y = .slice (some ad) 1 c) (hx : w.cell? ad = some (.int .i64 x)) (hlen : l.length ≤ 1000)
    (h : ∀ v' w', OwnsI w' v' (l ++ [x]) → w.grownBy w' v.ownBlock → Moved w v v' → wpList Try.prog ops Q rest (a.put o.dst v') w') : wpList Try.prog ops Q (o :: rest) a w := by
  obtain ⟨v', w', hrun, r1, r2, r3⟩ := run_app3 o.type w v l x hown ad c hx hlen
  refine wpList_plain hgd fun _ hK => ?_
  unfold Oper.wp
  simp [execOp, ho, resolve, invoke, builtin, hs, hy, hrun, Result.andThen]
  exact hK _ _ (h v' w' r1 r2 r3)
/-- The list of ints grows: the lists of bytes are as they were. -/
theorem Lots.long {w w' : World} {gv : Nat} {P : List (Value × List Int)} {v : Value} (h : Lots w gv P) (hg : w.grownBy w' v.ownBlock) (hv : v.ownBlock ≠ some gv) (hP : ∀ (j : Nat) (p : Value × List Int), P[j]? = some p → ∀ b, p.1.ownBlock = some b → v.ownBlock ≠ some b) : Lots w' gv P :=
  h.away ((Away.refl v.ownBlock.toList w).grown hg (fun k hk => .inl (by simp [hk]))) (by simpa using hv) (fun j p hp b hb => by simpa using hP j p hp b hb)
#print axioms wpList_app3
end Go.Proofs.Ytbmppdihceaacaa
