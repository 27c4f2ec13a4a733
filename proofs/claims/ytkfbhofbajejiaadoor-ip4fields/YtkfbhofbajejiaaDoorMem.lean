/-
  Lists of slices that lie apart; 'still'.
-/
import Derived.Test.YtkfbhofbajejiaaDoorStp2
import Derived.Deep.RegionHeld3
namespace Go.Proofs.YtkfbhofbajejiaaDoor
open Go.ChangeShapes Go.WideShapes Go.ChangeAt Go.RowKit Go.Deep Num
set_option linter.unusedVariables false

/-- Where an append left its slice: in its old block, or in a new one, and then no old block has turned. -/
def Went (w w' : World) (v v' : Value) : Prop := (v'.ownBlock = v.ownBlock ∧ w.grownBy w' v.ownBlock) ∨ (New w.heap.size v' ∧ w.grownBy w' none)
theorem Went.moved {w w' : World} {v v' : Value} (h : Went w w' v v') : Moved w v v' := by
  rcases h with ⟨h, _⟩ | ⟨h, _⟩
  · intro k hk; exact .inl (by rw [← h]; exact hk)
  · intro k hk; exact .inr (h k hk)
theorem Went.grown {w w' : World} {v v' : Value} (h : Went w w' v v') : w.grownBy w' v.ownBlock := by
  rcases h with ⟨_, h⟩ | ⟨_, h⟩
  · exact h
  · exact ⟨h.os, h.tape, h.output, h.size, fun k hk _ => h.block k hk (by simp)⟩
theorem run_appNW (t ty e : TypeId) (i0 : TypeInfo) (z : Value) (size bytes : Nat) (ht : Tryd.prog.underlying t = some (.slice e)) (hi : Tryd.prog.info? e = some i0) (hz : i0.zero = some z) (hs1 : i0.size = size) (hb1 : i0.bytes = bytes) (hzs : z.cells.size = size) (hsz : 0 < size)
    (w : World) (v : Value) (n : Nat) (xs : List Value) (hown : w.ownsRow 0 e size v n xs) (ad : Addr) (m c : Nat) (news : List Value) (hn : news.length = m * size) (hm : ∀ j u, news[j]? = some u → w.cell? (ad.add j) = some u) (h1 : ∀ u ∈ news, u.oneCell' = true)
    (h63 : n + m ≤ maxLen) (hbytes : (n + m) * bytes ≤ 140737488355328) :
    ∃ v' w', (Builtin.append_ #[t, t] ty #[v, .slice (some ad) m c]).run Tryd.prog w = .ok v' w' ∧ w'.ownsRow 0 e size v' (n + m) (xs ++ news) ∧ Went w w' v v' := by
  have fin : ∀ {B : Nat} {v' : Value} {w' : World}, w'.ownsRow B e size v' (n + m) (xs ++ news) → w'.ownsRow 0 e size v' (n + m) (xs ++ news) := by
    intro B v' w' h
    obtain ⟨h1, h2⟩ := h
    refine ⟨h1, ?_⟩
    rcases h2 with h2 | ⟨g, cap, cur, rfl, hg, r⟩
    · exact .inl h2
    · exact .inr ⟨g, cap, cur, rfl, by omega, r⟩
  rcases hown.2 with ⟨rfl, h0⟩ | ⟨g, cap, cur, rfl, hg, hh, hnc, hcm, hcs, htake⟩
  · subst h0
    have hx : xs = [] := List.eq_nil_of_length_eq_zero (by have := hown.1; omega)
    subst hx
    obtain ⟨v', w', hrun, r1, r2, _⟩ := run_append_own (P := Tryd.prog) w w.heap.size t ty e i0 z size bytes ht hi hz hs1 hb1 hzs hsz (.slice none 0 0) 0 [] (World.ownsRow_nil _ _ _ _) ad m c news hn hm h1 h63 hbytes (Nat.le_refl _)
    exact ⟨v', w', hrun, fin r1, .inr ⟨fun k hk => (World.ownsRow.lt r1 k hk).1, r2⟩⟩
  · by_cases hroom : n + m ≤ cap
    · obtain ⟨w', hrun, r1, r2⟩ := run_append_fits (P := Tryd.prog) w 0 t ty e i0 size ht hi hs1 g n cap xs hown ad m c news hn hm h1 hroom
      exact ⟨_, w', hrun, fin r1, .inl ⟨rfl, r2⟩⟩
    · obtain ⟨v', w', hrun, r1, r2⟩ := run_append_arg_grows (P := Tryd.prog) w t ty e i0 z size bytes ht hi hz hs1 hb1 hzs hsz ⟨g, 0, none⟩ n cap xs hown.1 (fun j u hu => by
          have hj : j < xs.length := by
            rcases Nat.lt_or_ge j xs.length with h | h
            · exact h
            · rw [List.getElem?_eq_none h] at hu; simp at hu
          have := hown.1
          rw [add_plain, Nat.zero_add, World.ownsRow.cellAt hown j (by omega)]; exact hu) ad m c news hn hm (by omega) h63 hbytes
      exact ⟨v', w', hrun, fin r1, .inr ⟨fun k hk => (World.ownsRow.lt r1 k hk).1, r2⟩⟩
theorem info22 : (Tryd.prog.info? 26).map (fun i => (i.zero, i.size, i.bytes)) = some (some (.slice none 0 0), 1, 24) := by kernel_rfl
theorem info82 : (Tryd.prog.info? 67).map (fun i => (i.zero, i.size)) = some (some (.agg #[.slice none 0 0, .slice none 0 0, .int .u8 0]), 3) := by kernel_rfl
theorem bytes82 : (Tryd.prog.info? 67).map (fun i => i.bytes) = some 56 := by kernel_rfl

/-- One that was told: its bytes, what came of laying others behind it, its mark. -/
structure Tk where
  b : Value
  g : Value
  m : Int
def Tk.cells (t : Tk) : List Value := [t.b, t.g, .int .u8 t.m]
def flatT (l : List Tk) : List Value := l.flatMap Tk.cells
theorem flatT_len : ∀ l : List Tk, (flatT l).length = l.length * 3
  | [] => rfl
  | t :: r => by simp only [flatT, List.flatMap_cons, List.length_append, List.length_cons] ; have := flatT_len r; simp only [flatT] at this; rw [this]; simp [Tk.cells]; omega
theorem flatT_get : ∀ (l : List Tk) (i : Nat) (t : Tk), l[i]? = some t → (flatT l)[i * 3]? = some t.b ∧ (flatT l)[i * 3 + 1]? = some t.g ∧ (flatT l)[i * 3 + 2]? = some (.int .u8 t.m)
  | [], i, t, h => by simp at h
  | a :: r, 0, t, h => by simp at h; subst h; simp [flatT, Tk.cells]
  | a :: r, i + 1, t, h => by
    simp only [List.getElem?_cons_succ] at h
    have := flatT_get r i t h
    have e : flatT (a :: r) = a.b :: a.g :: .int .u8 a.m :: flatT r := rfl
    rw [e, show (i + 1) * 3 = i * 3 + 3 from by omega]
    simpa using this
theorem flatT_set : ∀ (l : List Tk) (i : Nat) (t : Tk) (x : Value), l[i]? = some t → (flatT l).set (i * 3 + 1) x = flatT (l.set i { t with g := x })
  | [], i, t, x, h => by simp at h
  | a :: r, 0, t, x, h => by simp at h; subst h; simp [flatT, Tk.cells]
  | a :: r, i + 1, t, x, h => by
    simp only [List.getElem?_cons_succ] at h
    have := flatT_set r i t x h
    have e : ∀ (b : Tk) (s : List Tk), flatT (b :: s) = b.b :: b.g :: .int .u8 b.m :: flatT s := fun _ _ => rfl
    rw [show (a :: r).set (i + 1) ({ t with g := x } : Tk) = a :: r.set i { t with g := x } from rfl, e, e, show (i + 1) * 3 + 1 = (i * 3 + 1) + 3 from by omega]
    simp only [List.set_cons_succ]
    rw [this]
/-- The list of those that were told lies at v. -/
def OwnsT (w : World) (v : Value) (l : List Tk) : Prop := w.ownsRow 0 67 3 v l.length (flatT l)
/-- Bytes that are all z. -/
def AllAt (w : World) (v : Value) (z : Int) : Prop := ∃ a n c, v = .slice a n c ∧ n ≤ 66000 ∧ (n = 0 ∨ ∃ b, a = some ⟨b, 0, none⟩ ∧ ∀ i, i < n → w.cell? ⟨b, i, none⟩ = some (.int .u8 z))
theorem AllAt.away {S : List Nat} {w w' : World} {v : Value} {z : Int} (h : AllAt w v z) (hw : Away S w w') (hv : ∀ k, v.ownBlock = some k → k ∉ S) : AllAt w' v z := by
  obtain ⟨a, n, c, rfl, hn, h⟩ := h
  refine ⟨a, n, c, rfl, hn, ?_⟩
  rcases h with h | ⟨b, rfl, h⟩
  · exact .inl h
  · exact .inr ⟨b, rfl, fun i hi => hw.cell (hv b rfl) (h i hi)⟩
theorem OwnsT.cells {w : World} {g n cap : Nat} {l : List Tk} (h : OwnsT w (.slice (some ⟨g, 0, none⟩) n cap) l) (i : Nat) (t : Tk) (ht : l[i]? = some t) :
    w.cell? ⟨g, i * 3, none⟩ = some t.b ∧ w.cell? ⟨g, i * 3 + 1, none⟩ = some t.g ∧ w.cell? ⟨g, i * 3 + 2, none⟩ = some (.int .u8 t.m) ∧ ∀ j, w.frozen? ⟨g, j, none⟩ = false := by
  have hi : i < l.length := by
    rcases Nat.lt_or_ge i l.length with h | h
    · exact h
    · rw [List.getElem?_eq_none h] at ht; simp at ht
  have hn : n = l.length := by
    rcases h.2 with ⟨h2, _⟩ | ⟨g', cap', cur, h2, _⟩
    · simp at h2
    · simp only [Value.slice.injEq] at h2; exact h2.2.1
  subst hn
  obtain ⟨e0, e1, e2⟩ := flatT_get l i t ht
  exact ⟨by rw [World.ownsRow.cellAt h _ (by omega), e0], by rw [World.ownsRow.cellAt h _ (by omega), e1], by rw [World.ownsRow.cellAt h _ (by omega), e2], fun j => World.ownsRow.frozenAt h j⟩

/-- All hold their marks. -/
def Still (w : World) (v : Value) (l : List Tk) : Prop := OwnsT w v l ∧ l.length ≤ 100 ∧ ∀ t ∈ l, AllAt w t.b t.m ∧ AllAt w t.g t.m
theorem OwnsT.shape {w : World} {v : Value} {l : List Tk} (h : OwnsT w v l) : ∃ a c, v = .slice a l.length c ∧ (l ≠ [] → ∃ g, a = some ⟨g, 0, none⟩) := by
  rcases h.2 with ⟨rfl, h0⟩ | ⟨g, cap, cur, rfl, _⟩
  · have : l = [] := List.eq_nil_of_length_eq_zero h0
    subst this
    exact ⟨none, 0, rfl, fun h => absurd rfl h⟩
  · exact ⟨_, _, rfl, fun _ => ⟨g, rfl⟩⟩
theorem Still.drewN {w : World} {v : Value} {l : List Tk} (h : Still w v l) (n : Nat) : Still (w.drewN n) v l := h

end Go.Proofs.YtkfbhofbajejiaaDoor
