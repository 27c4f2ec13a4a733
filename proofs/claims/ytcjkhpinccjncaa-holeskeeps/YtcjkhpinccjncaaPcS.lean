/-
  Two hole lists and a list of pieces side by side.
-/
import Derived.Test.YtcjkhpinccjncaaPcM
import Derived.Deep.RegionLaw
namespace Go.Proofs.Ytcjkhpinccjncaa
open Go.ChangeShapes Go.WideShapes Go.ChangeAt Go.RowKit
set_option linter.unusedVariables false
set_option linter.unusedSimpArgs false

def fpH (g : Nat) (v : Value) : List Nat := g :: v.ownBlock.toList
def Sep (S T : List Nat) : Prop := ∀ x ∈ S, x ∉ T
theorem Sep.symm {S T : List Nat} (h : Sep S T) : Sep T S := fun x hx hc => h x hc hx
theorem Sep.nil (S : List Nat) : Sep S [] := by simp [Sep]
theorem Hl.fp_lt {w : World} {g : Nat} {v : Value} {m : List Sp} {e : Int} (h : Hl w g v m e) : ∀ x ∈ fpH g v, x < w.heap.size := fun x hx => by
  simp only [fpH, List.mem_cons, Option.mem_toList] at hx
  rcases hx with rfl | hx
  · exact h.lt
  · exact h.lst.lt x hx
theorem Hl.off {S : List Nat} {w w' : World} {g : Nat} {v : Value} {m : List Sp} {e : Int} (h : Hl w g v m e) (hw : Away S w w') (hs : Sep (fpH g v) S) : Hl w' g v m e :=
  h.away hw (hs g (by simp [fpH])) (fun k hk => hs k (by simp [fpH, hk]))
theorem LstC.off {S : List Nat} {w w' : World} {v : Value} {l : List Pc} (h : LstC w v l) (hw : Away S w w') (hs : Sep v.ownBlock.toList S) : LstC w' v l := h.away hw (fun k hk => hs k (by simp [hk]))
theorem LstC.fp_lt {w : World} {v : Value} {l : List Pc} (h : LstC w v l) : ∀ x ∈ v.ownBlock.toList, x < w.heap.size := fun x hx => h.lt x (by simpa using hx)
theorem Sep.move {w : World} {g : Nat} {v v' : Value} {T : List Nat} (h : Sep (fpH g v) T) (hm : Moved w v v') (hT : ∀ x ∈ T, x < w.heap.size) : Sep (fpH g v') T := fun x hx hc => by
  simp only [fpH, List.mem_cons, Option.mem_toList] at hx
  rcases hx with rfl | hx
  · exact h x (by simp [fpH]) hc
  · rcases hm x hx with h1 | h1
    · exact h x (by simp [fpH, h1]) hc
    · have := hT x hc; omega
theorem Sep.movev {w : World} {v v' : Value} {T : List Nat} (h : Sep v.ownBlock.toList T) (hm : Moved w v v') (hT : ∀ x ∈ T, x < w.heap.size) : Sep v'.ownBlock.toList T := fun x hx hc => by
  rcases hm x (by simpa using hx) with h1 | h1
  · exact h x (by simp [h1]) hc
  · have := hT x hc; omega
theorem sep_new {w : World} {v : Value} {T : List Nat} (h : New w.heap.size v) (hT : ∀ x ∈ T, x < w.heap.size) : Sep v.ownBlock.toList T := fun x hx hc => by
  have := h x (by simpa using hx)
  have := hT x hc
  omega
/-- What a Put tells, as letters. -/
def PutQ (w : World) (g : Nat) (v : Value) (m : List Sp) (e off n : Int) (more : Bool) (r : Value) (ev : Int) (w' : World) : Prop :=
  (putOk m e off n more = true ∧ ev = 0 ∧ ∃ v', Took w w' g v r v' (freshP m (off, off + n)) (putM m off n more) (putE e off n more)) ∨
  (putOk m e off n more = false ∧ ev = 1 ∧ r = .slice none 0 0 ∧ Away [] w w')
theorem PutQ.aw {w w' : World} {g : Nat} {v r : Value} {m : List Sp} {e off n ev : Int} {more : Bool} (h : PutQ w g v m e off n more r ev w') : Away (fpH g v) w w' := by
  rcases h with ⟨-, -, v', t⟩ | ⟨-, -, -, t⟩
  · exact t.aw
  · exact t.mono (by simp)
theorem putQ_c {w : World} {g : Nat} {v : Value} {m : List Sp} {e : Int} (off n : Int) (more : Bool) (h : Hl w g v m e) (ho : I64 off) (hn : I64 n) :
    Calls Try.prog 10 #[.pointer (some ⟨g, 0, none⟩), .int .i64 off, .int .i64 n, .bool more] w fun E w' => ∃ r ev, E = .returned (.tuple #[r, .int .i64 ev]) ∧ PutQ w g v m e off n more r ev w' := by
  refine (put_c' off n more h ho hn).mono ?_
  rintro E w' (⟨h1, r, v', rfl, h2⟩ | ⟨h1, rfl, h2⟩)
  · exact ⟨r, 0, rfl, .inl ⟨h1, rfl, v', h2⟩⟩
  · exact ⟨_, 1, rfl, .inr ⟨h1, rfl, rfl, h2⟩⟩
/-- What a Put that drew once ahead tells: of the world itself. -/
theorem Took.base {w0 w w' : World} {g : Nat} {v r v' : Value} {f c : List Sp} {e : Int} (h : Took w w' g v r v' f c e) (hw : Away [] w0 w) : Took w0 w' g v r v' f c e := h.on hw
theorem step_append_run {ops : Array Oper} {o : Oper} {a : Act} {w : World} {K : Act → World → Prop} {Q : Exit → Act → World → Prop} {E : Prop} (hg : o.guard = none) (s x : Operand)
    (hop : o.op = .call { callee := .builtin .append, args := #[s, x], argTypes := #[22, 22] }) (vs vx : Value) (hs : a.eval s = vs) (hx : a.eval x = vx) {v' : Value} {w' : World}
    (hr : (Builtin.append_ #[22, 22] o.type #[vs, vx]).run Try.prog w = .ok v' w') (hK : K (a.put o.dst v') w') : if Region.wanted o (yielded ops a.tmps) = true then Oper.wp Try.prog o a w K Q else E := by
  have hw : Region.wanted o (yielded ops a.tmps) = true := by simp [Region.wanted, hg]
  rw [if_pos hw]
  unfold Oper.wp
  simp [execOp, hop, resolve, invoke, builtin, hs, hx, hr, Result.andThen]
  exact hK
/-- append(append(nil, l[:k]...), l[k+1:]...): a list of its own. -/
theorem run_drop (w : World) (ty : TypeId) (a : Option Addr) (n cap k : Nat) (l : List Pc) (hl : LstC w (.slice a n cap) l) (hok : ∀ x ∈ l, OkP x) (hk : k < n) (hsm : n ≤ 100000000) :
    ∃ A v1 w1 v2 w2, A = (if cap = k + 1 then a else a.map (·.add ((k + 1) * 3))) ∧ (Builtin.append_ #[22, 22] ty #[.slice none 0 0, .slice a k cap]).run Try.prog w = .ok v1 w1 ∧
      (Builtin.append_ #[22, 22] ty #[v1, .slice A (n - (k + 1)) (cap - (k + 1))]).run Try.prog w1 = .ok v2 w2 ∧ LstC w2 v2 (dropK l k) ∧ New w.heap.size v2 ∧ Away [] w w2 := by
  obtain ⟨a', cap', he, hcap, hnone, hrow, hab⟩ := hl.row hok
  simp only [Value.slice.injEq] at he
  obtain ⟨rfl, hn, rfl⟩ := he
  subst hn
  obtain ⟨v1, w1, r1, l1, g1, m1⟩ := run_appC ty w (.slice none 0 0) [] (l.take k) (LstC.nil _) a k cap (by simp; omega) hnone (hrow.head k) (by simp; omega)
  have hn1 : New w.heap.size v1 := fun z hz => by
    rcases m1 z hz with h | h
    · simp [Value.ownBlock] at h
    · exact h
  have a1 : Away [] w w1 := (Away.refl _ _).grown g1 (by simp [Value.ownBlock])
  have hrow1 := (hrow.tail (k + 1) cap hcap (by omega)).on a1
  obtain ⟨A, hA⟩ : ∃ A, A = (if cap = k + 1 then a else a.map (·.add ((k + 1) * 3))) := ⟨_, rfl⟩
  rw [← hA] at hrow1
  have hAn : A = none → cap - (k + 1) = 0 := fun h => by
    rw [hA] at h
    split at h
    · omega
    · have := hnone (by simpa using h); omega
  obtain ⟨v2, w2, r2, l2, g2, m2⟩ := run_appC ty w1 v1 (l.take k) (l.drop (k + 1)) (by simpa using l1) A (l.length - (k + 1)) (cap - (k + 1)) (by simp) hAn hrow1 (by simp; omega)
  refine ⟨A, v1, w1, v2, w2, hA, r1, r2, l2, fun z hz => ?_, a1.grown g2 (fun z hz => .inr (hn1 z hz))⟩
  rcases m2 z hz with h | h
  · exact hn1 z h
  · have := a1.size; omega
def lenV : Value → Nat
  | .slice _ n _ => n
  | _ => 0
theorem LstC.shape {w : World} {v : Value} {l : List Pc} (h : LstC w v l) : ∃ a cap, v = .slice a l.length cap := by
  rcases h.2 with ⟨rfl, h2⟩ | ⟨g, cap, cur, rfl, _⟩
  · exact ⟨none, 0, by rw [h2]⟩
  · exact ⟨_, _, rfl⟩
end Go.Proofs.Ytcjkhpinccjncaa
