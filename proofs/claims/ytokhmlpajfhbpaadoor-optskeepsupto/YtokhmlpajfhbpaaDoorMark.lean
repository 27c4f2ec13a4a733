/-
  Lists written full with marks of their own, then lengthened: who holds what.
-/
import Derived.Test.YtokhmlpajfhbpaaDoorLot
namespace Go.Proofs.YtokhmlpajfhbpaaDoor
open Go.ChangeShapes Go.WideShapes Go.ChangeAt Go.RowKit Go.Deep
set_option linter.unusedVariables false
set_option maxRecDepth 100000

def mrk (i : Nat) : Int := 100 + (i : Int) % 150
theorem mk_rng (i : Nat) : 100 ≤ mrk i ∧ mrk i ≤ 249 := by unfold mrk; omega
theorem mks_bytes (n i : Nat) : Bytes (List.replicate n (mrk i)) := fun x hx => by rw [List.eq_of_mem_replicate hx]; have := mk_rng i; omega
def VS (T : List Tr) : List Nat := T.filterMap (fun t => t.v.ownBlock)
theorem mem_VS {T : List Tr} {k : Nat} : k ∈ VS T ↔ ∃ t ∈ T, t.v.ownBlock = some k := by unfold VS; rw [List.mem_filterMap]
theorem Lot.vvIdx {w : World} {B g : Nat} {kv wv : Value} {T : List Tr} (h : Lot w B g kv wv T) {m i : Nat} {s t : Tr} (hs : T[m]? = some s) (ht : T[i]? = some t) (hne : m ≠ i) {k : Nat} (hk : s.v.ownBlock = some k) : t.v.ownBlock ≠ some k := by
  have hm : m < T.length := (List.getElem?_eq_some_iff.1 hs).1
  have hi : i < T.length := (List.getElem?_eq_some_iff.1 ht).1
  have es : T[m] = s := (List.getElem?_eq_some_iff.1 hs).2
  have et : T[i] = t := (List.getElem?_eq_some_iff.1 ht).2
  have hp := List.pairwise_iff_getElem.1 h.vv
  rcases Nat.lt_or_gt_of_ne hne with h1 | h1
  · have := hp m i hm hi h1 k
    rw [es, et] at this
    exact this hk
  · intro e
    have := hp i m hi hm h1 k
    rw [es, et] at this
    exact this e hk
/-- The list of what is kept, cell by cell. -/
theorem ownsG_slice {w : World} {v : Value} {xs : List Value} (h : OwnsG 22 w v xs) : ∃ a c, v = .slice a xs.length c ∧ ∀ i y, xs[i]? = some y → ∃ b, a = some ⟨b, 0, none⟩ ∧ w.cell? ⟨b, i, none⟩ = some y := by
  rcases h.2 with ⟨e, h0⟩ | ⟨g, cap, cur, e, _⟩
  · refine ⟨none, 0, by rw [e, h0], fun i y hy => ?_⟩
    rw [List.eq_nil_of_length_eq_zero h0] at hy; simp at hy
  · refine ⟨some ⟨g, 0, none⟩, cap, e, fun i y hy => ⟨g, rfl, ?_⟩⟩
    subst e
    have hi : i < xs.length := (List.getElem?_eq_some_iff.1 hy).1
    rw [(OwnsG.cells h i hi).1, hy]
theorem owns_slice {w : World} {v : Value} {l : List Int} (h : Owns w v l) : ∃ a c, v = .slice a l.length c ∧ l.length ≤ c ∧ ∀ i, i < l.length → ∃ b, a = some ⟨b, 0, none⟩ ∧ w.cell? ⟨b, i, none⟩ = some (.int .u8 (l[i]?.getD 0)) ∧ w.frozen? ⟨b, i, none⟩ = false := by
  rcases h.2 with ⟨e, h0⟩ | ⟨g, cap, cur, e, _, _, hnc, _⟩
  · have h0 : l = [] := by simpa using h0
    subst h0
    exact ⟨none, 0, e, Nat.le_refl _, by simp⟩
  · have e : v = .slice (some ⟨g, 0, none⟩) l.length cap := by simpa using e
    refine ⟨some ⟨g, 0, none⟩, cap, e, by simpa using hnc, fun i hi => ⟨g, rfl, ?_⟩⟩
    subst e
    exact h.cells i hi

/-! Marking. -/
def part (T : List Tr) (i j m : Nat) (t : Tr) : List Int := if m < i then List.replicate t.p.length (mrk m) else if m = i then List.replicate j (mrk m) ++ t.p.drop j else t.p
theorem part_len {T : List Tr} {i j m : Nat} {t : Tr} (h : m = i → j ≤ t.p.length) : (part T i j m t).length = t.p.length := by
  unfold part
  split
  · simp
  · split
    · rename_i h1 h2
      have := h h2
      simp; omega
    · rfl
structure MkI (w : World) (T : List Tr) (i j : Nat) (wr : World) : Prop where
  away : Away (VS T) w wr
  own : ∀ (m : Nat) t, T[m]? = some t → Owns wr t.v (part T i j m t)
theorem MkI.start {w : World} {B g : Nat} {kv wv : Value} {T : List Tr} (h : Lot w B g kv wv T) : MkI w T 0 0 w :=
  ⟨Away.refl _ _, fun m t ht => by
    have : part T 0 0 m t = t.p := by unfold part; rw [if_neg (by omega)]; split <;> simp
    rw [this]
    exact (h.own t (List.mem_of_getElem? ht)).1⟩
theorem MkI.turn {w wr : World} {T : List Tr} {i : Nat} {t : Tr} (h : MkI w T i t.p.length wr) (ht : T[i]? = some t) : MkI w T (i + 1) 0 wr :=
  ⟨h.away, fun m s hs => by
    have h1 := h.own m s hs
    have e : part T (i + 1) 0 m s = part T i t.p.length m s := by
      unfold part
      by_cases h2 : m < i
      · rw [if_pos h2, if_pos (by omega)]
      · by_cases h3 : m = i
        · subst h3
          rw [ht] at hs
          obtain rfl := Option.some.inj hs
          rw [if_pos (by omega), if_neg (by omega), if_pos rfl]
          simp
        · rw [if_neg (by omega), if_neg h2, if_neg h3]
          split <;> simp
    rw [e]; exact h1⟩
theorem set_mark (p : List Int) (j : Nat) (x : Int) (hj : j < p.length) : (List.replicate j x ++ p.drop j).set j x = List.replicate (j + 1) x ++ p.drop (j + 1) := by
  rw [List.set_append_right _ _ (by simp)]
  simp only [List.length_replicate, Nat.sub_self]
  rw [List.drop_eq_getElem_cons hj, List.set_cons_zero, List.replicate_succ', List.append_assoc]
  rfl
theorem MkI.set {w0 w wr : World} {B g : Nat} {kv wv : Value} {T : List Tr} (L : Lot w0 B g kv wv T) {i j b n c : Nat} {t : Tr} (h : MkI w T i j wr) (ht : T[i]? = some t) (hj : j < t.p.length) (hv : t.v = .slice (some ⟨b, 0, none⟩) n c) : MkI w T i (j + 1) (wr.setCell ⟨b, j, none⟩ (.int .u8 (mrk i))) := by
  have hb : t.v.ownBlock = some b := by rw [hv]; rfl
  have haw : Away [b] wr (wr.setCell ⟨b, j, none⟩ (.int .u8 (mrk i))) := (Away.refl _ _).setCell (.inl (by simp)) _
  refine ⟨h.away.setCell (.inl (mem_VS.2 ⟨t, List.mem_of_getElem? ht, hb⟩)) _, fun m s hs => ?_⟩
  have h1 := h.own m s hs
  by_cases hm : m = i
  · subst hm
    rw [ht] at hs
    obtain rfl := Option.some.inj hs
    have e1 : part T m j m t = List.replicate j (mrk m) ++ t.p.drop j := by unfold part; rw [if_neg (by omega), if_pos rfl]
    have e2 : part T m (j + 1) m t = List.replicate (j + 1) (mrk m) ++ t.p.drop (j + 1) := by unfold part; rw [if_neg (by omega), if_pos rfl]
    rw [e1] at h1
    rw [e2, ← set_mark _ _ _ hj]
    have hl : (List.replicate j (mrk m) ++ t.p.drop j).length = n := by
      obtain ⟨a', c', e', _⟩ := owns_slice h1
      rw [hv] at e'
      simp only [Value.slice.injEq] at e'
      exact e'.2.1.symm
    rw [hv] at h1 ⊢
    exact h1.set hl j (mrk m)
  · have e : part T i (j + 1) m s = part T i j m s := by
      unfold part
      split
      · rfl
      · rfl
    rw [e]
    refine h1.away haw (fun k hk hm2 => ?_)
    simp only [List.mem_singleton] at hm2
    subst hm2
    exact L.vvIdx hs ht hm hk hb

/-! Lengthening. -/
/-- An append: in place, or into new memory. -/
theorem run_appX (ty : TypeId) (w : World) (v : Value) (l m : List Int) (hown : Owns w v l) (ad : Addr) (n c : Nat) (hn : m.length = n) (hm : ∀ j u, (m.map (Value.int .u8))[j]? = some u → w.cell? (ad.add j) = some u) (hlen : l.length + n ≤ 140737488355328) :
    ∃ v' w', (Builtin.append_ #[22, 22] ty #[v, .slice (some ad) n c]).run Tryd.prog w = .ok v' w' ∧ Owns w' v' (l ++ m) ∧ ((v'.ownBlock = v.ownBlock ∧ Away v.ownBlock.toList w w') ∨ (New w.heap.size v' ∧ Away [] w w')) := by
  obtain ⟨i0, hi, hz0, hz1, hz2⟩ := info_parts info5
  have fin : ∀ {B : Nat} {v' : Value} {w' : World}, w'.ownsRow B 5 1 v' (l.length + n) (l.map (Value.int .u8) ++ m.map (Value.int .u8)) → Owns w' v' (l ++ m) := by
    intro B v' w' h
    unfold Owns OwnsG
    rw [List.map_append, List.length_append, List.length_map, List.length_map, hn]
    obtain ⟨h1, h2⟩ := h
    refine ⟨h1, ?_⟩
    rcases h2 with h2 | ⟨g, cap, cur, rfl, hg, r⟩
    · exact .inl h2
    · exact .inr ⟨g, cap, cur, rfl, by omega, r⟩
  have hown' : w.ownsRow 0 5 1 v l.length (l.map (Value.int .u8)) := by
    have := hown
    unfold Owns OwnsG at this
    rwa [List.length_map] at this
  rcases hown'.2 with ⟨rfl, h0⟩ | ⟨g, cap, cur, rfl, hg, hh, hnc, hcm, hcs, htake⟩
  · have hx : l = [] := List.eq_nil_of_length_eq_zero h0
    subst hx
    obtain ⟨v', w', hrun, r1, r2, _⟩ := run_append_own (P := Tryd.prog) w w.heap.size 22 ty 5 i0 (.int .u8 0) 1 1 Tryd.underlying22 hi hz0 hz1 hz2 rfl (by decide) (.slice none 0 0) 0 [] (World.ownsRow_nil _ _ _ _) ad n c (m.map (Value.int .u8)) (by simpa using hn) hm (oneCell_bytes m) (by unfold maxLen; simp at hlen ⊢; omega) (by simp at hlen ⊢; omega) (Nat.le_refl _)
    refine ⟨v', w', hrun, fin (by simpa using r1), .inr ⟨fun k hk => (World.ownsRow.lt r1 k hk).1, (Away.refl _ _).grown r2 (by simp [Value.ownBlock])⟩⟩
  · by_cases hroom : l.length + n ≤ cap
    · obtain ⟨w', hrun, r1, r2⟩ := run_append_fits (P := Tryd.prog) w 0 22 ty 5 i0 1 Tryd.underlying22 hi hz1 g l.length cap (l.map (Value.int .u8)) hown' ad n c (m.map (Value.int .u8)) (by simpa using hn) hm (oneCell_bytes m) hroom
      exact ⟨_, w', hrun, fin r1, .inl ⟨rfl, (Away.refl _ _).grown r2 (fun k hk => .inl (by simp [Value.ownBlock]; simpa using hk.symm))⟩⟩
    · obtain ⟨v', w', hrun, r1, r2⟩ := run_append_arg_grows (P := Tryd.prog) w 22 ty 5 i0 (.int .u8 0) 1 1 Tryd.underlying22 hi hz0 hz1 hz2 rfl (by decide) ⟨g, 0, none⟩ l.length cap (l.map (Value.int .u8)) (by simp) (fun j u hu => by
          have hj : j < l.length := by
            rcases Nat.lt_or_ge j l.length with h | h
            · exact h
            · rw [List.getElem?_eq_none (by simpa using h)] at hu; simp at hu
          rw [add_plain, Nat.zero_add, World.ownsRow.cellAt hown' j (by omega)]; exact hu) ad n c (m.map (Value.int .u8)) (by simpa using hn) hm (by omega) (by unfold maxLen; omega) (by omega)
      exact ⟨v', w', hrun, fin r1, .inr ⟨fun k hk => (World.ownsRow.lt r1 k hk).1, (Away.refl _ _).grown r2 (by simp)⟩⟩
theorem wpList_appX {w : World} {ops : Array Oper} {rest : List Oper} {o : Oper} {a : Act} {Q : Exit → Act → World → Prop} (hw : Region.wanted o (yielded ops a.tmps) = true) (s x : Operand)
    (ho : o.op = .call { callee := .builtin .append, args := #[s, x], argTypes := #[22, 22] }) (v : Value) (l m : List Int) (hs : a.eval s = v) (hown : Owns w v l)
    (ad : Addr) (n c : Nat) (hx : a.eval x = .slice (some ad) n c) (hn : m.length = n) (hm : ∀ j u, (m.map (Value.int .u8))[j]? = some u → w.cell? (ad.add j) = some u) (hlen : l.length + n ≤ 140737488355328)
    (h : ∀ v' w', Owns w' v' (l ++ m) → ((v'.ownBlock = v.ownBlock ∧ Away v.ownBlock.toList w w') ∨ (New w.heap.size v' ∧ Away [] w w')) → wpList Tryd.prog ops Q rest (a.put o.dst v') w') : wpList Tryd.prog ops Q (o :: rest) a w := by
  obtain ⟨v', w', hrun, r1, r2⟩ := run_appX o.type w v l m hown ad n c hn hm hlen
  refine wpList_step fun K hK => ?_
  rw [if_pos hw]
  unfold Oper.wp
  simp [execOp, ho, resolve, invoke, builtin, hs, hx, hrun, Result.andThen]
  exact hK _ _ (h v' w' r1 r2)
#print axioms wpList_appX
end Go.Proofs.YtokhmlpajfhbpaaDoor
