/-
  The answers put away one by one.
-/
import Derived.Test.YtokhmlpajfhbpaaDoorStands
import Derived.Test.YtokhmlpajfhbpaaDoorFit
namespace Go.Proofs.YtokhmlpajfhbpaaDoor
open Go.ChangeShapes Go.WideShapes Go.ChangeAt Go.RowKit Go.Deep
set_option linter.unusedVariables false
set_option maxRecDepth 100000

/-- Parse, told alike. -/
def ParseM (w : World) (l : List Int) (E : Ending) (w' : World) : Prop :=
  ∃ v xs e, E = .returned (.tuple #[v, .int .i64 e]) ∧ Made w' w.heap.size v xs ∧ xs.length ≤ l.length ∧ (∀ x ∈ xs, x.b.length ≤ 1048576) ∧ Away [] w w' ∧ ((parseP l = none ∧ xs = [] ∧ e = 40) ∨ (parseP l = some (xs.map V.o) ∧ e = 0))
theorem parse_m (a : Option Addr) (l : List Int) (n cap : Nat) (w : World) (hn : l.length = n) (hcap : n ≤ cap) (hsz : n ≤ 4398046511104) (hr : Row w a l) (hg : Glob w) :
    Calls Tryd.prog 9 #[.slice a n cap] w fun E w' => ParseM w l E w' := by
  refine (parse_c a l n cap w hn hcap hsz hr hg).mono ?_
  rintro E w' ⟨haw, ⟨hp, rfl⟩ | ⟨v, xs, hp, rfl, hm, hxl⟩⟩
  · exact ⟨_, [], 40, rfl, Made.nil _ _, by simp, by simp, haw, .inl ⟨hp, rfl, rfl⟩⟩
  · obtain ⟨g, _⟩ := parse_shape _ l _ (Nat.le_refl _) hr.2.1 hp
    exact ⟨v, xs, 0, rfl, hm, hxl, fun x hx => by have := (g x.o (List.mem_map_of_mem hx)).1.2.2.2; simp only [V.o] at this; omega, haw, .inr ⟨hp, rfl⟩⟩
/-- i of the answers xs have been put away. -/
def PI (w6 : World) (S1 S2 g : Nat) (v : Value) (xs : List V) (N i : Nat) (wv : Value) (ws : World) : Prop :=
  ∃ kv T, Lot ws g g kv wv T ∧ T.length ≤ N + i ∧ Made ws S1 v xs ∧ S2 ≤ ws.heap.size ∧ Away [g] w6 ws ∧
    (∀ k, v.ownBlock = some k → k < S2) ∧ (∀ x ∈ xs, ∀ k, x.sl.ownBlock = some k → k < S2) ∧
    (∀ k, InLot g kv wv T k → k < S1 ∨ S2 ≤ k ∨ ∃ x ∈ xs.take i, x.sl.ownBlock = some k) ∧ ∀ x ∈ xs.take i, ∃ t ∈ T, t.v = x.sl
theorem PI.start {w6 wr w2 : World} {g : Nat} {v kv wv : Value} {xs : List V} {N : Nat} {T : List Tr} (h : Lot wr g g kv wv T) (hT : T.length ≤ N) (haw : Away [g] w6 wr) (hm : Made w2 wr.heap.size v xs) (hw : Away [] wr w2) : PI w6 wr.heap.size w2.heap.size g v xs N 0 wv w2 :=
  ⟨kv, T, h.on hw, by omega, hm, Nat.le_refl _, haw.next hw (by simp), hm.lst.lt, fun x hx => (hm.each x hx).2.1.lt, fun k hk => .inl (h.lt hk), by simp⟩
theorem apart_idx {xs : List V} (h : xs.Pairwise (fun x y => ∀ k, x.sl.ownBlock = some k → y.sl.ownBlock ≠ some k)) {i : Nat} {x y : V} (hx : xs[i]? = some x) (hy : y ∈ xs.take i) {k : Nat} (hk : y.sl.ownBlock = some k) : x.sl.ownBlock ≠ some k := by
  obtain ⟨j, hj⟩ := List.mem_iff_getElem?.1 hy
  have hji : j < i := by
    have := (List.getElem?_eq_some_iff.1 hj).1
    simp at this; omega
  rw [List.getElem?_take, if_pos hji] at hj
  have hp := List.pairwise_iff_getElem.1 h
  have h1 := (List.getElem?_eq_some_iff.1 hj)
  have h2 := (List.getElem?_eq_some_iff.1 hx)
  obtain ⟨a1, e1⟩ := h1
  obtain ⟨a2, e2⟩ := h2
  have := hp j i a1 a2 hji k
  rw [e1, e2] at this
  exact this hk
/-- What put_c asks of the next one. -/
theorem PI.far {ws : World} {S1 S2 g : Nat} {v kv wv : Value} {xs : List V} {i : Nat} {T : List Tr} (hm : Made ws S1 v xs) (hd : ∀ x ∈ xs, ∀ k, x.sl.ownBlock = some k → k < S2) (hf : ∀ k, InLot g kv wv T k → k < S1 ∨ S2 ≤ k ∨ ∃ x ∈ xs.take i, x.sl.ownBlock = some k) {x : V} (hx : xs[i]? = some x) : ∀ k, x.sl.ownBlock = some k → ¬ InLot g kv wv T k := fun k hk hin => by
  have hmem := List.mem_of_getElem? hx
  have h1 := (hm.each x hmem).2.2.2.2 k hk
  have h2 := hd x hmem k hk
  rcases hf k hin with h | h | ⟨y, hy, h⟩
  · omega
  · omega
  · exact apart_idx hm.apart hx hy h hk
theorem PI.step {w6 ws ws' : World} {S1 S2 g : Nat} {v kv wv : Value} {xs : List V} {N i : Nat} {T : List Tr} {E : Ending} (h6 : w6.heap.size = g + 1)
    (hl : Lot ws g g kv wv T) (hT : T.length ≤ N + i) (hm : Made ws S1 v xs) (hS : S2 ≤ ws.heap.size) (haw : Away [g] w6 ws) (hv : ∀ k, v.ownBlock = some k → k < S2) (hd : ∀ x ∈ xs, ∀ k, x.sl.ownBlock = some k → k < S2)
    (hf : ∀ k, InLot g kv wv T k → k < S1 ∨ S2 ≤ k ∨ ∃ x ∈ xs.take i, x.sl.ownBlock = some k) (hin : ∀ x ∈ xs.take i, ∃ t ∈ T, t.v = x.sl) {x : V} (hx : xs[i]? = some x) (hp : PutOut ws g g kv wv T x.sl x.b E ws') : ∃ wv', E = .returned wv' ∧ PI w6 S1 S2 g v xs N (i + 1) wv' ws' := by
  obtain ⟨kv', wv', u, rfl, hl', haw', hfoot⟩ := hp
  have hmem := List.mem_of_getElem? hx
  -- the three written blocks are none of the answers'
  have hout : ∀ k, k ∈ g :: (kv.ownBlock.toList ++ wv.ownBlock.toList) → k < S1 ∨ S2 ≤ k := fun k hk => by
    have hk : k = g ∨ kv.ownBlock = some k ∨ wv.ownBlock = some k := by simpa using hk
    have hI : InLot g kv wv T k := by
      rcases hk with h | h | h
      · exact .inl h
      · exact .inr (.inl h)
      · exact .inr (.inr (.inl h))
    rcases hf k hI with h | h | ⟨y, hy, h⟩
    · exact .inl h
    · exact .inr h
    · exfalso
      obtain ⟨t, ht, e⟩ := hin y hy
      obtain ⟨v1, v2, v3, _⟩ := hl.vg t ht k (by rw [e]; exact h)
      rcases hk with h | h | h
      · exact v1 h
      · exact v2 h
      · exact v3 h
  have hs' := haw'.size
  refine ⟨wv', rfl, kv', _, hl', by simp; omega, hm.away haw' (fun k hk hk2 => ?_) (fun y hy k hk hk2 => ?_), by omega, haw.next haw' (fun k hk => ?_), hv, hd, fun k hk => ?_, fun y hy => ?_⟩
  · have := hm.new k hk
    have := hv k hk
    rcases hout k hk2 with h | h <;> omega
  · have := (hm.each y hy).2.2.2.2 k hk
    have := hd y hy k hk
    rcases hout k hk2 with h | h <;> omega
  · have hk : k = g ∨ kv.ownBlock = some k ∨ wv.ownBlock = some k := by simpa using hk
    rcases hk with h | h | h
    · exact .inl (by simp [h])
    · have h1 := hl.new k (.inr (.inl h))
      have h2 : k ≠ g := fun e => hl.kg (by rw [← e]; exact h)
      exact .inr (by omega)
    · have h1 := hl.new k (.inr (.inr (.inl h)))
      have h2 : k ≠ g := fun e => hl.wg.1 (by rw [← e]; exact h)
      exact .inr (by omega)
  · rcases hfoot k hk with h | h | h
    · rcases hf k h with h | h | ⟨y, hy, h⟩
      · exact .inl h
      · exact .inr (.inl h)
      · exact .inr (.inr ⟨y, by rw [take_snoc hx]; exact List.mem_append_left _ hy, h⟩)
    · exact .inr (.inr ⟨x, by rw [take_snoc hx]; simp, h⟩)
    · exact .inr (.inl (by omega))
  · rw [take_snoc hx] at hy
    rcases List.mem_append.1 hy with hy | hy
    · obtain ⟨t, ht, e⟩ := hin y hy
      exact ⟨t, List.mem_append_left _ ht, e⟩
    · simp only [List.mem_singleton] at hy
      subst hy
      exact ⟨_, List.mem_append_right _ (List.mem_singleton.2 rfl), rfl⟩
/-- A turn's state: the lot, and that nothing below is touched. -/
def TS (w6 : World) (g N : Nat) (wv : Value) (ws : World) : Prop := ∃ kv T, Lot ws g g kv wv T ∧ T.length ≤ N ∧ Away [g] w6 ws
theorem PI.done {w6 : World} {S1 S2 g : Nat} {v : Value} {xs : List V} {N i : Nat} {wv : Value} {ws : World} (h : PI w6 S1 S2 g v xs N i wv ws) : TS w6 g (N + i) wv ws := by
  obtain ⟨kv, T, h1, h2, h3, h4, h5, _⟩ := h
  exact ⟨kv, T, h1, h2, h5⟩
theorem TS.step {w6 ws ws' : World} {g N : Nat} {kv wv : Value} {T : List Tr} {v : Value} {p : List Int} {E : Ending} (h6 : w6.heap.size = g + 1) (hl : Lot ws g g kv wv T) (hT : T.length ≤ N) (haw : Away [g] w6 ws) (hp : PutOut ws g g kv wv T v p E ws') : ∃ wv', E = .returned wv' ∧ TS w6 g (N + 1) wv' ws' := by
  obtain ⟨kv', wv', u, rfl, hl', haw', _⟩ := hp
  refine ⟨wv', rfl, kv', _, hl', by simp; omega, haw.next haw' (fun k hk => ?_)⟩
  have hk : k = g ∨ kv.ownBlock = some k ∨ wv.ownBlock = some k := by simpa using hk
  rcases hk with h | h | h
  · exact .inl (by simp [h])
  · have h1 := hl.new k (.inr (.inl h))
    have h2 : k ≠ g := fun e => hl.kg (by rw [← e]; exact h)
    exact .inr (by omega)
  · have h1 := hl.new k (.inr (.inr (.inl h)))
    have h2 : k ≠ g := fun e => hl.wg.1 (by rw [← e]; exact h)
    exact .inr (by omega)
#print axioms PI.step
end Go.Proofs.YtokhmlpajfhbpaaDoor
