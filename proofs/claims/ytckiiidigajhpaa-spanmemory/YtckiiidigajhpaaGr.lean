/-
  For SpanMemory: a list of lists that grows; answers as pairs, in new memory.
-/
import Derived.Test.YtckiiidigajhpaaAprt
import Derived.Test.YtckiiidigajhpaaAsk5
namespace Go.Proofs.Ytckiiidigajhpaa
open Go.ChangeShapes Go.WideShapes Go.ChangeAt Go.RowKit
set_option linter.unusedVariables false
set_option maxRecDepth 100000
set_option maxHeartbeats 1000000

structure Gr (B : Nat) (w : World) (kv : Value) (T : List Hl) : Prop where
  kl : LstV w kv (T.map (·.1))
  own : ∀ t ∈ T, Lst w t.1 t.2
  sep : ∀ (i j : Nat) (s t : Hl), i ≠ j → T[i]? = some s → T[j]? = some t → Sep s.1 t.1
  sk : ∀ t ∈ T, Sep t.1 kv
  new : ∀ t ∈ T, New B t.1
  newk : New B kv
theorem Gr.off {B : Nat} {S : List Nat} {w w' : World} {kv : Value} {T : List Hl} (h : Gr B w kv T) (hw : Away S w w') (hS : ∀ k ∈ S, k < B) : Gr B w' kv T :=
  ⟨h.kl.away hw (fun k hk hin => by have := h.newk k hk; have := hS k hin; omega), fun t ht => (h.own t ht).away hw (fun k hk hin => by have := h.new t ht k hk; have := hS k hin; omega), h.sep, h.sk, h.new, h.newk⟩
theorem Gr.on {B : Nat} {w w' : World} {kv : Value} {T : List Hl} (h : Gr B w kv T) (hw : Away [] w w') : Gr B w' kv T := h.off hw (by simp)
theorem Gr.nil (B : Nat) (w : World) : Gr B w (.slice none 0 0) [] := ⟨LstV.nil _, by simp, by simp, by simp, by simp, New.nil _⟩
theorem Gr.ap {B C : Nat} {W0 w : World} {kv : Value} {T : List Hl} (h : Gr B w kv T) (hb : Below C W0 w) (hC : C ≤ B) (hw : C ≤ w.heap.size) : Ap C W0 w kv (.slice none 0 0) T [] :=
  ⟨hb, hw, h.kl, NumL.nil _, h.own, h.sep, h.sk, fun t ht k hk hc => by simp [Value.ownBlock] at hc, fun k hk hc => by simp [Value.ownBlock] at hc, fun t ht => (h.new t ht).mono hC, h.newk.mono hC, New.nil _⟩
/-- Lists made one after the other. -/
structure Up (w0 w : World) (U : List Hl) : Prop where
  aw : Away [] w0 w
  own : ∀ t ∈ U, Lst w t.1 t.2
  new : ∀ t ∈ U, New w0.heap.size t.1
  sep : ∀ (i j : Nat) (s t : Hl), i ≠ j → U[i]? = some s → U[j]? = some t → Sep s.1 t.1
theorem Up.nil (w : World) : Up w w [] := ⟨Away.refl _ _, by simp, by simp, by simp⟩
theorem Up.on {w0 w w' : World} {U : List Hl} (h : Up w0 w U) (hw : Away [] w w') : Up w0 w' U := ⟨h.aw.trans hw, fun t ht => (h.own t ht).on hw, h.new, h.sep⟩
theorem get_snoc {U : List Hl} {a s : Hl} {i : Nat} (h : (U ++ [a])[i]? = some s) : U[i]? = some s ∨ (i = U.length ∧ s = a) := by
  rcases Nat.lt_or_ge i U.length with h' | h'
  · rw [List.getElem?_append_left h'] at h; exact .inl h
  · rw [List.getElem?_append_right h'] at h
    rcases Nat.eq_zero_or_pos (i - U.length) with h0 | h0
    · rw [h0] at h; simp at h; exact .inr ⟨by omega, h.symm⟩
    · rw [List.getElem?_eq_none (by simp; omega)] at h; simp at h
theorem getH_lt {U : List Hl} {s : Hl} {i : Nat} (h : U[i]? = some s) : i < U.length := by
  rcases Nat.lt_or_ge i U.length with h' | h'
  · exact h'
  · rw [List.getElem?_eq_none h'] at h; simp at h
theorem Up.snoc {w0 w w' : World} {U : List Hl} {v : Value} {l : List Sp} (h : Up w0 w U) (hm : Mk w w' v l) : Up w0 w' (U ++ [(v, l)]) := by
  have far : ∀ t ∈ U, Sep t.1 v := fun t ht k hk hv => by
    have h1 := (h.own t ht).lt k hk
    have h2 := hm.2.1 k hv
    omega
  refine ⟨h.aw.trans hm.2.2, fun t ht => ?_, fun t ht => ?_, fun i j s t hij hs ht => ?_⟩
  · rcases List.mem_append.1 ht with ht | ht
    · exact (h.own t ht).on hm.2.2
    · simp at ht; subst ht; exact hm.1
  · rcases List.mem_append.1 ht with ht | ht
    · exact h.new t ht
    · simp at ht; subst ht; exact hm.2.1.mono h.aw.size
  · rcases get_snoc hs with hs | ⟨hi, rfl⟩
    · rcases get_snoc ht with ht | ⟨hj, rfl⟩
      · exact h.sep i j s t hij hs ht
      · exact far s (List.mem_of_getElem? hs)
    · rcases get_snoc ht with ht | ⟨hj, rfl⟩
      · exact (far t (List.mem_of_getElem? ht)).symm
      · omega
/-- They are laid behind a list of lists. -/
theorem Gr.join {B : Nat} {w0 w w' : World} {kv kv' : Value} {T U : List Hl} (h : Gr B w0 kv T) (hB : B ≤ w0.heap.size) (hu : Up w0 w U) (hk : LstV w' kv' (T.map (·.1) ++ U.map (·.1))) (hw : Away kv.ownBlock.toList w w') (hm : Moved w kv kv') : Gr B w' kv' (T ++ U) := by
  have hT := h.on hu.aw
  have hsz := hu.aw.size
  have far : ∀ {u : Value}, Sep u kv → (∀ k, u.ownBlock = some k → k < w.heap.size) → Sep u kv' := fun hs hlt k hk hv => by
    rcases hm k hv with h1 | h1
    · exact hs k hk h1
    · have := hlt k hk; omega
  have uk : ∀ t ∈ U, Sep t.1 kv := fun t ht k hk hv => by
    have h1 := hu.new t ht k hk
    have h2 := h.kl.lt k hv
    omega
  have tu : ∀ t ∈ T, ∀ u ∈ U, Sep t.1 u.1 := fun t ht u hu' k hk hv => by
    have h1 := (h.own t ht).lt k hk
    have h2 := hu.new u hu' k hv
    omega
  refine ⟨by rw [List.map_append]; exact hk, fun t ht => ?_, fun i j s t hij hs ht => ?_, fun t ht => ?_, fun t ht => ?_, h.newk.moved hm (Nat.le_trans hB hsz)⟩
  · rcases List.mem_append.1 ht with ht | ht
    · exact (hT.own t ht).away hw (fun k hk hin => hT.sk t ht k hk (by simpa using hin))
    · exact (hu.own t ht).away hw (fun k hk hin => uk t ht k hk (by simpa using hin))
  · have side : ∀ {i : Nat} {s : Hl}, (T ++ U)[i]? = some s → (i < T.length ∧ T[i]? = some s) ∨ (T.length ≤ i ∧ U[i - T.length]? = some s) := fun {i s} hs => by
      rcases Nat.lt_or_ge i T.length with h' | h'
      · rw [List.getElem?_append_left h'] at hs; exact .inl ⟨h', hs⟩
      · rw [List.getElem?_append_right h'] at hs; exact .inr ⟨h', hs⟩
    rcases side hs with ⟨a1, a2⟩ | ⟨a1, a2⟩
    · rcases side ht with ⟨b1, b2⟩ | ⟨b1, b2⟩
      · exact h.sep i j s t hij a2 b2
      · exact tu s (List.mem_of_getElem? a2) t (List.mem_of_getElem? b2)
    · rcases side ht with ⟨b1, b2⟩ | ⟨b1, b2⟩
      · exact (tu t (List.mem_of_getElem? b2) s (List.mem_of_getElem? a2)).symm
      · exact hu.sep _ _ s t (by omega) a2 b2
  · rcases List.mem_append.1 ht with ht | ht
    · exact far (hT.sk t ht) (hT.own t ht).lt
    · exact far (uk t ht) (hu.own t ht).lt
  · rcases List.mem_append.1 ht with ht | ht
    · exact h.new t ht
    · exact (hu.new t ht).mono hB
theorem Gr.one {B : Nat} {w : World} {kv : Value} {T : List Hl} (h : Gr B w kv T) : ∀ t ∈ T, t.1.oneCell' = true := fun t ht => by
  rcases (h.own t ht).2 with ⟨h3, _⟩ | ⟨g9, cap9, cur9, h3, _⟩ <;> rw [h3] <;> rfl
theorem Up.one {w0 w : World} {U : List Hl} (h : Up w0 w U) : ∀ t ∈ U, t.1.oneCell' = true := fun t ht => by
  rcases (h.own t ht).2 with ⟨h3, _⟩ | ⟨g9, cap9, cur9, h3, _⟩ <;> rw [h3] <;> rfl
/-- An answer in new memory. -/
def AnsM (w : World) (r : List Sp) (e : Int) (E : Ending) (w' : World) : Prop := ∃ v, E = .returned (.tuple #[v, .int .i64 e]) ∧ Mk w w' v r
theorem Ans.m {w w' : World} {b : Bool} {r : List Sp} {E : Ending} (h : Ans w b r E w') : AnsM w (resR b r) (resE b) E w' := by
  unfold Ans at h
  cases b
  · rw [if_neg (by simp)] at h
    exact ⟨_, h.1, Lst.nil _, New.nil _, h.2⟩
  · rw [if_pos rfl] at h
    exact h
theorem addM {w : World} {a : Option Addr} {l : List Sp} {n c : Nat} (s : Sp) (h : Sl w a c l) (hn : l.length = n) (ho : Old w a) :
    Calls Try.prog 13 #[.slice a n c, valS s] w fun E w' => AnsM w (resR (rightP l && isB s) (addP l s)) (resE (rightP l && isB s)) E w' :=
  (add_c a l s n c w hn (hn ▸ h.cap) h.nil ho h.row).mono fun E w' g => g.m
theorem cutM {w : World} {a : Option Addr} {l : List Sp} {n c : Nat} (s : Sp) (h : Sl w a c l) (hn : l.length = n) :
    Calls Try.prog 14 #[.slice a n c, valS s] w fun E w' => AnsM w (resR (rightP l && isB s) (cutP l s)) (resE (rightP l && isB s)) E w' :=
  (cut_c a l s n c w hn h.row).mono fun E w' g => g.m
theorem holesM {w : World} {a : Option Addr} {l : List Sp} {n c : Nat} (to : Int) (h : Sl w a c l) (hn : l.length = n) :
    Calls Try.prog 15 #[.slice a n c, .int .i64 to] w fun E w' => AnsM w (resR (rightP l && decide (0 ≤ to ∧ to ≤ 65535)) (holesP l to)) (resE (rightP l && decide (0 ≤ to ∧ to ≤ 65535))) E w' :=
  (holes_c a l to n c w hn h.row).mono fun E w' g => g.m
theorem normM {w : World} {a : Option Addr} {l : List Sp} {n c : Nat} (h : Sl w a c l) (hn : l.length = n) :
    Calls Try.prog 9 #[.slice a n c] w fun E w' => ∃ r e, NormIs l r e ∧ AnsM w r e E w' := by
  refine (norm_c a l n c w hn h.nil h.row).mono ?_
  rintro E w' (⟨h1, v, r, h2, h3, h4⟩ | ⟨h1, h2, h3⟩)
  · exact ⟨r, 0, .inl ⟨h1, h4, rfl⟩, v, h2, h3⟩
  · exact ⟨[], 1, .inr ⟨h1, rfl, rfl⟩, _, h2, Lst.nil _, New.nil _, h3⟩
theorem norm_right {l r : List Sp} {e : Int} (h : NormIs l r e) (hl : rightP l = true) : r = l ∧ e = 0 := by
  rcases h with ⟨_, h2, rfl⟩ | ⟨h1, _, _⟩
  · exact ⟨h2.uniq (Of.self hl), rfl⟩
  · rw [right_all hl] at h1; simp at h1
/-- The list of threes. -/
def thrL (n : Nat) : List Sp := (List.range n).map (fun q : Nat => ((3 * (q : Int), 3 * (q : Int) + 2) : Sp))
theorem thr_len (n : Nat) : (thrL n).length = n := by simp [thrL]
theorem thr_snoc (n : Nat) : thrL (n + 1) = thrL n ++ [(3 * (n : Int), 3 * (n : Int) + 2)] := by simp [thrL, List.range_succ]
theorem thr_right : ∀ (n : Nat), n ≤ 20000 → rightP (thrL n) = true ∧ endOf (-1) (thrL n) ≤ 3 * (n : Int) - 1
  | 0, _ => ⟨rfl, by show (-1 : Int) ≤ _; omega⟩
  | n + 1, h => by
    obtain ⟨h1, h2⟩ := thr_right n (by omega)
    rw [thr_snoc]
    refine ⟨?_, by rw [endOf_snoc]; simp only; omega⟩
    unfold rightP at h1 ⊢
    rw [rf_append, h1, Bool.true_and, rf_cons]
    exact ⟨⟨by simp only; omega, by simp only; omega, by simp only; omega⟩, by simp only; omega, rfl⟩
theorem thr_size : ∀ (n : Nat), lenP (thrL n) = 2 * (n : Int)
  | 0 => rfl
  | n + 1 => by
    have := thr_size n
    rw [thr_snoc]
    unfold lenP at this ⊢
    simp only [List.map_append, List.sum_append, List.map_cons, List.map_nil, List.sum_cons, List.sum_nil]
    omega
theorem thr_ok (n : Nat) (h : n ≤ 1000000) : ∀ x ∈ thrL n, OkS x := fun x hx => by
  obtain ⟨q, hq, rfl⟩ := List.mem_map.1 hx
  have := List.mem_range.1 hq
  exact ⟨⟨by simp only; omega, by simp only; omega⟩, ⟨by simp only; omega, by simp only; omega⟩⟩
theorem thr_of {F : List Sp} {n : Nat} (h : ∀ q, q < n → F[q]? = some (3 * (q : Int), 3 * (q : Int) + 2)) : F.take n = thrL n := by
  apply List.ext_getElem?
  intro q
  by_cases hq : q < n
  · rw [List.getElem?_take_of_lt hq, h q hq]; simp [thrL, hq]
  · rw [List.getElem?_eq_none (by simp; omega), List.getElem?_eq_none (by rw [thr_len]; omega)]
theorem res_ok {b : Bool} {r : List Sp} (h : b = true → rightP r = true) : (resR b r).length ≤ 100000 ∧ ∀ x ∈ resR b r, OkS x := by
  cases b
  · simp [resR]
  · have h1 := h rfl
    exact ⟨by have := right_short h1; show r.length ≤ _; omega, (right_ok h1).2⟩
#print axioms Gr.join
end Go.Proofs.Ytckiiidigajhpaa
