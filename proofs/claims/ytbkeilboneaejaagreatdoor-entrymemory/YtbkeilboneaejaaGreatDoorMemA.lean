/-
  Lists that were told one after the other, all apart.
-/
import Derived.Test.YtbkeilboneaejaaGreatDoorKitA
import Derived.Deep.RegionHeld3
import Derived.Deep.RegionLaw
namespace Go.Proofs.YtbkeilboneaejaaGreatDoor
open Go.ChangeShapes Go.WideShapes Go.ChangeAt Go.RowKit Go.Deep Num
set_option linter.unusedVariables false

/-- Where an append left its slice: in its old block, or in a new one, and then no old block has turned. -/
def Went (w w' : World) (v v' : Value) : Prop := (v'.ownBlock = v.ownBlock ∧ w.grownBy w' v.ownBlock) ∨ (New w.heap.size v' ∧ w.grownBy w' none)
theorem Went.moved {w w' : World} {v v' : Value} (h : Went w w' v v') : Moved w v v' := by
  rcases h with ⟨h, _⟩ | ⟨h, _⟩
  · intro k hk; exact .inl (by rw [← h]; exact hk)
  · intro k hk; exact .inr (h k hk)
theorem Went.grown {w w' : World} {v v' : Value} (h : Went w w' v v') : w.grownBy w' v.ownBlock := by
  rcases h with ⟨_, h⟩ | ⟨_, h⟩
  · exact h
  · exact ⟨h.os, h.tape, h.output, h.size, fun k hk _ => h.block k hk (by simp)⟩
theorem run_appNW (t ty e : TypeId) (i0 : TypeInfo) (z : Value) (size bytes : Nat) (ht : Tryz.prog.underlying t = some (.slice e)) (hi : Tryz.prog.info? e = some i0) (hz : i0.zero = some z) (hs1 : i0.size = size) (hb1 : i0.bytes = bytes) (hzs : z.cells.size = size) (hsz : 0 < size)
    (w : World) (v : Value) (n : Nat) (xs : List Value) (hown : w.ownsRow 0 e size v n xs) (ad : Addr) (m c : Nat) (news : List Value) (hn : news.length = m * size) (hm : ∀ j u, news[j]? = some u → w.cell? (ad.add j) = some u) (h1 : ∀ u ∈ news, u.oneCell' = true)
    (h63 : n + m ≤ maxLen) (hbytes : (n + m) * bytes ≤ 140737488355328) :
    ∃ v' w', (Builtin.append_ #[t, t] ty #[v, .slice (some ad) m c]).run Tryz.prog w = .ok v' w' ∧ w'.ownsRow 0 e size v' (n + m) (xs ++ news) ∧ Went w w' v v' := by
  have fin : ∀ {B : Nat} {v' : Value} {w' : World}, w'.ownsRow B e size v' (n + m) (xs ++ news) → w'.ownsRow 0 e size v' (n + m) (xs ++ news) := by
    intro B v' w' h
    obtain ⟨h1, h2⟩ := h
    refine ⟨h1, ?_⟩
    rcases h2 with h2 | ⟨g, cap, cur, rfl, hg, r⟩
    · exact .inl h2
    · exact .inr ⟨g, cap, cur, rfl, by omega, r⟩
  rcases hown.2 with ⟨rfl, h0⟩ | ⟨g, cap, cur, rfl, hg, hh, hnc, hcm, hcs, htake⟩
  · subst h0
    have hx : xs = [] := List.eq_nil_of_length_eq_zero (by have := hown.1; omega)
    subst hx
    obtain ⟨v', w', hrun, r1, r2, _⟩ := run_append_own (P := Tryz.prog) w w.heap.size t ty e i0 z size bytes ht hi hz hs1 hb1 hzs hsz (.slice none 0 0) 0 [] (World.ownsRow_nil _ _ _ _) ad m c news hn hm h1 h63 hbytes (Nat.le_refl _)
    exact ⟨v', w', hrun, fin r1, .inr ⟨fun k hk => (World.ownsRow.lt r1 k hk).1, r2⟩⟩
  · by_cases hroom : n + m ≤ cap
    · obtain ⟨w', hrun, r1, r2⟩ := run_append_fits (P := Tryz.prog) w 0 t ty e i0 size ht hi hs1 g n cap xs hown ad m c news hn hm h1 hroom
      exact ⟨_, w', hrun, fin r1, .inl ⟨rfl, r2⟩⟩
    · obtain ⟨v', w', hrun, r1, r2⟩ := run_append_arg_grows (P := Tryz.prog) w t ty e i0 z size bytes ht hi hz hs1 hb1 hzs hsz ⟨g, 0, none⟩ n cap xs hown.1 (fun j u hu => by
          have hj : j < xs.length := by
            rcases Nat.lt_or_ge j xs.length with h | h
            · exact h
            · rw [List.getElem?_eq_none h] at hu; simp at hu
          have := hown.1
          rw [add_plain, Nat.zero_add, World.ownsRow.cellAt hown j (by omega)]; exact hu) ad m c news hn hm (by omega) h63 hbytes
      exact ⟨v', w', hrun, fin r1, .inr ⟨fun k hk => (World.ownsRow.lt r1 k hk).1, r2⟩⟩
theorem info22 : (Tryz.prog.info? 26).map (fun i => (i.zero, i.size, i.bytes)) = some (some (.slice none 0 0), 1, 24) := by kernel_rfl
theorem info82 : (Tryz.prog.info? 82).map (fun i => (i.zero, i.size)) = some (some (.agg #[.slice none 0 0, .slice none 0 0, .int .u8 0]), 3) := by kernel_rfl
theorem bytes82 : (Tryz.prog.info? 82).map (fun i => i.bytes) = some 56 := by kernel_rfl

/-- One that was told: its bytes, what came of laying others behind it, its mark. -/
structure Tk where
  b : Value
  g : Value
  m : Int
def Tk.cells (t : Tk) : List Value := [t.b, t.g, .int .u8 t.m]
def flatT (l : List Tk) : List Value := l.flatMap Tk.cells
theorem flatT_len : ∀ l : List Tk, (flatT l).length = l.length * 3
  | [] => rfl
  | t :: r => by simp only [flatT, List.flatMap_cons, List.length_append, List.length_cons] ; have := flatT_len r; simp only [flatT] at this; rw [this]; simp [Tk.cells]; omega
theorem flatT_get : ∀ (l : List Tk) (i : Nat) (t : Tk), l[i]? = some t → (flatT l)[i * 3]? = some t.b ∧ (flatT l)[i * 3 + 1]? = some t.g ∧ (flatT l)[i * 3 + 2]? = some (.int .u8 t.m)
  | [], i, t, h => by simp at h
  | a :: r, 0, t, h => by simp at h; subst h; simp [flatT, Tk.cells]
  | a :: r, i + 1, t, h => by
    simp only [List.getElem?_cons_succ] at h
    have := flatT_get r i t h
    have e : flatT (a :: r) = a.b :: a.g :: .int .u8 a.m :: flatT r := rfl
    rw [e, show (i + 1) * 3 = i * 3 + 3 from by omega]
    simpa using this
theorem flatT_set : ∀ (l : List Tk) (i : Nat) (t : Tk) (x : Value), l[i]? = some t → (flatT l).set (i * 3 + 1) x = flatT (l.set i { t with g := x })
  | [], i, t, x, h => by simp at h
  | a :: r, 0, t, x, h => by simp at h; subst h; simp [flatT, Tk.cells]
  | a :: r, i + 1, t, x, h => by
    simp only [List.getElem?_cons_succ] at h
    have := flatT_set r i t x h
    have e : ∀ (b : Tk) (s : List Tk), flatT (b :: s) = b.b :: b.g :: .int .u8 b.m :: flatT s := fun _ _ => rfl
    rw [show (a :: r).set (i + 1) ({ t with g := x } : Tk) = a :: r.set i { t with g := x } from rfl, e, e, show (i + 1) * 3 + 1 = (i * 3 + 1) + 3 from by omega]
    simp only [List.set_cons_succ]
    rw [this]
/-- The list of those that were told lies at v. -/
def OwnsT (w : World) (v : Value) (l : List Tk) : Prop := w.ownsRow 0 82 3 v l.length (flatT l)
/-- Bytes that are all z. -/
def AllAt (w : World) (v : Value) (z : Int) : Prop := ∃ a n c, v = .slice a n c ∧ n ≤ 66000 ∧ (n = 0 ∨ ∃ b, a = some ⟨b, 0, none⟩ ∧ ∀ i, i < n → w.cell? ⟨b, i, none⟩ = some (.int .u8 z))
theorem AllAt.away {S : List Nat} {w w' : World} {v : Value} {z : Int} (h : AllAt w v z) (hw : Away S w w') (hv : ∀ k, v.ownBlock = some k → k ∉ S) : AllAt w' v z := by
  obtain ⟨a, n, c, rfl, hn, h⟩ := h
  refine ⟨a, n, c, rfl, hn, ?_⟩
  rcases h with h | ⟨b, rfl, h⟩
  · exact .inl h
  · exact .inr ⟨b, rfl, fun i hi => hw.cell (hv b rfl) (h i hi)⟩
theorem OwnsT.cells {w : World} {g n cap : Nat} {l : List Tk} (h : OwnsT w (.slice (some ⟨g, 0, none⟩) n cap) l) (i : Nat) (t : Tk) (ht : l[i]? = some t) :
    w.cell? ⟨g, i * 3, none⟩ = some t.b ∧ w.cell? ⟨g, i * 3 + 1, none⟩ = some t.g ∧ w.cell? ⟨g, i * 3 + 2, none⟩ = some (.int .u8 t.m) ∧ ∀ j, w.frozen? ⟨g, j, none⟩ = false := by
  have hi : i < l.length := by
    rcases Nat.lt_or_ge i l.length with h | h
    · exact h
    · rw [List.getElem?_eq_none h] at ht; simp at ht
  have hn : n = l.length := by
    rcases h.2 with ⟨h2, _⟩ | ⟨g', cap', cur, h2, _⟩
    · simp at h2
    · simp only [Value.slice.injEq] at h2; exact h2.2.1
  subst hn
  obtain ⟨e0, e1, e2⟩ := flatT_get l i t ht
  exact ⟨by rw [World.ownsRow.cellAt h _ (by omega), e0], by rw [World.ownsRow.cellAt h _ (by omega), e1], by rw [World.ownsRow.cellAt h _ (by omega), e2], fun j => World.ownsRow.frozenAt h j⟩

/-- All hold their marks. -/
def Still (w : World) (v : Value) (l : List Tk) : Prop := OwnsT w v l ∧ l.length ≤ 100 ∧ ∀ t ∈ l, AllAt w t.b t.m ∧ AllAt w t.g t.m
theorem OwnsT.shape {w : World} {v : Value} {l : List Tk} (h : OwnsT w v l) : ∃ a c, v = .slice a l.length c ∧ (l ≠ [] → ∃ g, a = some ⟨g, 0, none⟩) := by
  rcases h.2 with ⟨rfl, h0⟩ | ⟨g, cap, cur, rfl, _⟩
  · have : l = [] := List.eq_nil_of_length_eq_zero h0
    subst this
    exact ⟨none, 0, rfl, fun h => absurd rfl h⟩
  · exact ⟨_, _, rfl, fun _ => ⟨g, rfl⟩⟩
theorem Still.drewN {w : World} {v : Value} {l : List Tk} (h : Still w v l) (n : Nat) : Still (w.drewN n) v l := h

end Go.Proofs.YtbkeilboneaejaaGreatDoor

namespace Go.Proofs.YtbkeilboneaejaaGreatDoor
open Go.ChangeShapes Go.WideShapes Go.ChangeAt Go.RowKit Go.Deep Num
set_option linter.unusedVariables false

/-- The mark of number j. -/
def mrk (j : Nat) : Int := 1 + (j : Int) % 250
theorem mrk_bd (j : Nat) : 0 ≤ mrk j ∧ mrk j ≤ 255 := by unfold mrk; omega
abbrev Lot := List (Value × List Int)
/-- Slices of their own that lie apart. -/
structure ApartL (P : Lot) : Prop where
  ne : ∀ (i j : Nat) (p q : Value × List Int), i ≠ j → P[i]? = some p → P[j]? = some q → ∀ k, p.1.ownBlock = some k → q.1.ownBlock ≠ some k
/-- What they hold, while number k is marked as far as q. -/
def Con (P : Lot) (w : World) (k q : Nat) : Prop :=
  ∀ (j : Nat) (p : Value × List Int), P[j]? = some p → ∃ m : List Int, m.length = p.2.length ∧ Owns w p.1 m ∧ (j < k → ∀ t, t < m.length → m[t]? = some (mrk j)) ∧ (j = k → ∀ t, t < q → t < m.length → m[t]? = some (mrk j))
theorem Con.away {P : Lot} {S : List Nat} {w w' : World} {k q : Nat} (h : Con P w k q) (hw : Away S w w') (hS : ∀ (j : Nat) (p : Value × List Int), P[j]? = some p → ∀ b, p.1.ownBlock = some b → b ∉ S) : Con P w' k q := by
  intro j p hp
  obtain ⟨m, h1, h2, h3⟩ := h j p hp
  exact ⟨m, h1, h2.away hw (hS j p hp), h3⟩
theorem Con.step {P : Lot} {w : World} {k q gb n c : Nat} {p : Value × List Int} (h : Con P w k q) (ha : ApartL P) (hp : P[k]? = some p) (hv : p.1 = .slice (some ⟨gb, 0, none⟩) n c) : Con P (w.setCell ⟨gb, q, none⟩ (.int .u8 (mrk k))) k (q + 1) := by
  have hA : Away [gb] w (w.setCell ⟨gb, q, none⟩ (.int .u8 (mrk k))) := (Away.refl _ w).setCell (.inl (by simp)) _
  intro j p' hp'
  obtain ⟨m, h1, h2, h3, h4⟩ := h j p' hp'
  by_cases hj : j = k
  · subst hj
    obtain rfl : p' = p := by rw [hp] at hp'; simpa using hp'.symm
    rw [hv] at h2 ⊢
    have hn : m.length = n := by
      rcases h2.2 with ⟨h2', _⟩ | ⟨g', cap', cur, h2', _⟩
      · simp at h2'
      · simp only [Value.slice.injEq, List.length_map] at h2'; exact h2'.2.1.symm
    refine ⟨m.set q (mrk j), by simpa using h1, h2.set hn q (mrk j), fun hlt => by omega, fun _ t ht htl => ?_⟩
    simp only [List.length_set] at htl
    by_cases htq : t = q
    · subst htq; rw [List.getElem?_set_self htl]
    · rw [List.getElem?_set_ne (by omega)]; exact h4 rfl t (by omega) htl
  · refine ⟨m, h1, h2.away hA (fun b hb => ?_), h3, fun e => absurd e hj⟩
    simp
    intro hbe
    exact ha.ne k j p p' (fun e => hj e.symm) hp hp' gb (by rw [hv]; rfl) (by rw [← hbe]; exact hb)
theorem Con.next {P : Lot} {w : World} {k q : Nat} {p : Value × List Int} (h : Con P w k q) (hp : P[k]? = some p) (hq : p.2.length ≤ q) : Con P w (k + 1) 0 := by
  intro j p' hp'
  obtain ⟨m, h1, h2, h3, h4⟩ := h j p' hp'
  refine ⟨m, h1, h2, fun hlt t ht => ?_, fun _ t ht => by omega⟩
  by_cases hj : j = k
  · subst hj
    obtain rfl : p' = p := by rw [hp] at hp'; simpa using hp'.symm
    exact h4 rfl t (by omega) ht
  · exact h3 (by omega) t ht
/-- As they are collected. -/
def tks (P : Lot) (k : Nat) : List Tk := (List.range k).map fun j => ⟨(P.getD j (.slice none 0 0, [])).1, .slice none 0 0, mrk j⟩
theorem tks_succ (P : Lot) (k : Nat) (p : Value × List Int) (hp : P[k]? = some p) : tks P (k + 1) = tks P k ++ [⟨p.1, .slice none 0 0, mrk k⟩] := by
  simp [tks, List.range_succ, List.getD, hp]
def blL (P : Lot) : List Nat := P.filterMap (fun p => p.1.ownBlock)
theorem bl_mem {P : Lot} {j : Nat} {p : Value × List Int} (hp : P[j]? = some p) {k : Nat} (hk : p.1.ownBlock = some k) : k ∈ blL P := List.mem_filterMap.mpr ⟨p, List.mem_of_getElem? hp, hk⟩
/-- What comes in. -/
structure LotAt (w : World) (va : Value) (P : Lot) : Prop where
  own : OwnsG 26 w va (P.map (·.1))
  con : ∀ (j : Nat) (p : Value × List Int), P[j]? = some p → Owns w p.1 p.2 ∧ Bytes p.2 ∧ p.2.length ≤ 65535
  ap : ApartL P
  far : ∀ k, va.ownBlock = some k → k ∉ blL P
  few : P.length ≤ 60
theorem flatT_app (l m : List Tk) : flatT (l ++ m) = flatT l ++ flatT m := by simp [flatT]
theorem wpList_appT {w : World} {ops : Array Oper} {rest : List Oper} {o : Oper} {a : Act} {Q : Exit → Act → World → Prop} (hgd : o.guard = none) (s x : Operand)
    (ho : o.op = .call { callee := .builtin .append, args := #[s, x], argTypes := #[51, 51] }) (v : Value) (l : List Tk) (t : Tk) (hs : a.eval s = v) (hown : OwnsT w v l)
    (ad : Addr) (hx : a.eval x = .slice (some ad) 1 1) (hm : ∀ j u, (t.cells)[j]? = some u → w.cell? (ad.add j) = some u) (hone : t.b.oneCell' = true ∧ t.g.oneCell' = true) (hlen : l.length ≤ 1000)
    (h : ∀ v' w', OwnsT w' v' (l ++ [t]) → Went w w' v v' → wpList Tryz.prog ops Q rest (a.put o.dst v') w') : wpList Tryz.prog ops Q (o :: rest) a w := by
  obtain ⟨i0, hi, hz⟩ := Option.map_eq_some_iff.1 info82
  obtain ⟨i1, hi1, hb⟩ := Option.map_eq_some_iff.1 bytes82
  obtain rfl : i1 = i0 := by rw [hi] at hi1; simpa using hi1.symm
  simp only [Prod.mk.injEq] at hz
  obtain ⟨v', w', hrun, r1, r2⟩ := run_appNW 51 o.type 82 i1 _ 3 56 Tryz.underlying51 hi hz.1 hz.2 hb rfl (by decide) w v l.length (flatT l) hown ad 1 1 t.cells rfl hm (by
    intro u hu
    simp only [Tk.cells, List.mem_cons, List.not_mem_nil, or_false] at hu
    rcases hu with rfl | rfl | rfl
    · exact hone.1
    · exact hone.2
    · rfl) (by unfold maxLen; omega) (by omega)
  refine wpList_plain hgd fun _ hK => ?_
  unfold Oper.wp
  simp [execOp, ho, resolve, invoke, builtin, hs, hx, hrun, Result.andThen]
  refine hK _ _ (h v' w' ?_ r2)
  unfold OwnsT
  rw [flatT_app, List.length_append]
  exact r1
theorem slice_one {w : World} {v : Value} {l : List Int} (h : Owns w v l) : v.oneCell' = true := by
  rcases h.2 with ⟨rfl, _⟩ | ⟨g, cap, cur, rfl, _⟩ <;> rfl
theorem OwnsT.away {S : List Nat} {w w' : World} {v : Value} {l : List Tk} (h : OwnsT w v l) (hw : Away S w w') (ha : ∀ k, v.ownBlock = some k → k ∉ S) : OwnsT w' v l := by
  obtain ⟨h1, h2⟩ := h
  refine ⟨h1, ?_⟩
  rcases h2 with h2 | ⟨g, cap, cur, rfl, hg, hh, r⟩
  · exact .inl h2
  · exact .inr ⟨g, cap, cur, rfl, hg, hw.keep (ha g rfl) hh, r⟩
theorem box_cells (w : World) (t : Tk) (n : Nat) (hn : n = w.heap.size) : ∀ j u, (t.cells)[j]? = some u → (w.alloc (.cells #[t.b, t.g, .int .u8 t.m] 82)).cell? ((⟨n, 0, none⟩ : Addr).add j) = some u := by
  intro j u hj
  rw [add_plain, Nat.zero_add, World.cell?_alloc_at (hn := hn)]
  simpa [Tk.cells] using hj
/-- Behind k of them, in the first loop. -/
structure Mk1 (P : Lot) (w wr : World) (vl : Value) (k : Nat) : Prop where
  aw : Away (blL P) w wr
  con : Con P wr k 0
  own : OwnsT wr vl (tks P k)
  new : New w.heap.size vl

end Go.Proofs.YtbkeilboneaejaaGreatDoor

namespace Go.Proofs.YtbkeilboneaejaaGreatDoor
open Go.ChangeShapes Go.WideShapes Go.ChangeAt Go.RowKit Go.Deep Num
set_option linter.unusedVariables false

def Lies (w : World) (vl : Value) (t : Tk) : Prop := ∀ b, t.g.ownBlock = some b → t.b.ownBlock = some b ∨ (w.heap.size ≤ b ∧ vl.ownBlock ≠ some b)
def Done (w wr : World) (vl : Value) (t : Tk) (j : Nat) : Prop := AllAt wr t.g (mrk j) ∧ Lies w vl t
def Todo (wr : World) (t : Tk) (j : Nat) (p : Value × List Int) : Prop := t.g = .slice none 0 0 ∧ ∃ m : List Int, Owns wr t.b m ∧ m.length = p.2.length ∧ ∀ i, i < m.length → m[i]? = some (mrk j)
def Doing (w wr : World) (vl : Value) (t : Tk) (j : Nat) (p : Value × List Int) (q : Nat) : Prop := (∃ m : List Int, Owns wr t.g m ∧ m.length = p.2.length + q ∧ ∀ i, i < m.length → m[i]? = some (mrk j)) ∧ Lies w vl t
def Mid' (w wr : World) (vl : Value) (t : Tk) (j : Nat) (p : Value × List Int) : Option Nat → Prop
  | none => Todo wr t j p
  | some q => Doing w wr vl t j p q
structure Ph (P : Lot) (w wr : World) (vl : Value) (l : List Tk) (k : Nat) (mid : Option Nat) : Prop where
  aw : Away (blL P) w wr
  own : OwnsT wr vl l
  new : New w.heap.size vl
  len : l.length = P.length
  itm : ∀ (j : Nat) (t : Tk), l[j]? = some t → ∃ p : Value × List Int, P[j]? = some p ∧ t.b = p.1 ∧ t.m = mrk j ∧ AllAt wr t.b (mrk j) ∧ (∀ b, t.g.ownBlock = some b → b < wr.heap.size) ∧ (j < k → Done w wr vl t j) ∧ (k < j → Todo wr t j p) ∧ (j = k → Mid' w wr vl t j p mid)
  apg : ∀ (i j : Nat) (s t : Tk), i ≠ j → l[i]? = some s → l[j]? = some t → ∀ b, s.g.ownBlock = some b → t.g.ownBlock ≠ some b
theorem Ph.put {P : Lot} {w wr w3 : World} {vl : Value} {l : List Tk} {k : Nat} {mid mid' : Option Nat} {t t' : Tk} {p : Value × List Int} {S : List Nat} (h : Ph P w wr vl l k mid) (hap : ApartL P) (hlt : ∀ (j : Nat) (p : Value × List Int), P[j]? = some p → ∀ b, p.1.ownBlock = some b → b < w.heap.size)
    (ht : l[k]? = some t) (hp : P[k]? = some p) (htb : t.b = p.1) (htm : t.m = mrk k) (hb : t'.b = t.b) (hm : t'.m = t.m) (ha : Away S wr w3) (haw : Away (blL P) w w3) (hS : ∀ x ∈ S, t.g.ownBlock = some x ∨ vl.ownBlock = some x) (hl : Lies w vl t) (hown : OwnsT w3 vl (l.set k t')) (hall : AllAt w3 t.b (mrk k))
    (hlt' : ∀ b, t'.g.ownBlock = some b → b < w3.heap.size) (hg' : ∀ b, t'.g.ownBlock = some b → t.g.ownBlock = some b ∨ t.b.ownBlock = some b ∨ wr.heap.size ≤ b) (hcur : Mid' w w3 vl t' k p mid') : Ph P w w3 vl (l.set k t') k mid' := by
  have hkl : k < l.length := by
    rcases Nat.lt_or_ge k l.length with h | h
    · exact h
    · rw [List.getElem?_eq_none h] at ht; simp at ht
  have hsz := ha.size
  have hszw := h.aw.size
  -- an other's blocks are none of S
  have nb : ∀ (j : Nat) (s : Tk) (r : Value × List Int), j ≠ k → l[j]? = some s → P[j]? = some r → s.b = r.1 → ∀ b, s.b.ownBlock = some b → b ∉ S := by
    intro j s r hj hs hr hsb b hbb hbS
    rw [hsb] at hbb
    have h1 := hlt j r hr b hbb
    rcases hS b hbS with h2 | h2
    · rcases hl b h2 with h3 | ⟨h3, _⟩
      · rw [htb] at h3
        exact hap.ne j k r p hj hr hp b hbb h3
      · omega
    · have := h.new b h2; omega
  have ng : ∀ (j : Nat) (s : Tk) (r : Value × List Int), j ≠ k → l[j]? = some s → P[j]? = some r → s.b = r.1 → Lies w vl s → ∀ b, s.g.ownBlock = some b → b ∉ S := by
    intro j s r hj hs hr hsb hls b hbb hbS
    rcases hls b hbb with h3 | ⟨h3, h4⟩
    · exact nb j s r hj hs hr hsb b h3 hbS
    · rcases hS b hbS with h2 | h2
      · exact h.apg j k s t hj hs ht b hbb h2
      · exact h4 h2
  refine ⟨haw, hown, h.new, by simpa using h.len, ?_, ?_⟩
  · intro j s hs
    by_cases hj : j = k
    · subst hj
      rw [List.getElem?_set_self hkl] at hs
      obtain rfl : t' = s := by simpa using hs
      exact ⟨p, hp, by rw [hb, htb], by rw [hm, htm], by rw [hb]; exact hall, hlt', fun hh => by omega, fun hh => by omega, fun _ => hcur⟩
    · rw [List.getElem?_set_ne (by omega)] at hs
      obtain ⟨r, i1, i2, i3, i4, i5, i6, i7, i8⟩ := h.itm j s hs
      refine ⟨r, i1, i2, i3, i4.away ha (nb j s r hj hs i1 i2), fun b hbb => Nat.lt_of_lt_of_le (i5 b hbb) hsz, fun hh => ?_, fun hh => ?_, fun hh => absurd hh hj⟩
      · obtain ⟨q1, q2⟩ := i6 hh
        exact ⟨q1.away ha (ng j s r hj hs i1 i2 q2), q2⟩
      · obtain ⟨q1, m, q2, q3⟩ := i7 hh
        exact ⟨q1, m, q2.away ha (nb j s r hj hs i1 i2), q3⟩
  · -- lies of the others
    have key : ∀ (j : Nat) (s : Tk), j ≠ k → l[j]? = some s → ∀ b, t'.g.ownBlock = some b → s.g.ownBlock ≠ some b := by
      intro j s hj hs b hbb hsb
      obtain ⟨r, i1, i2, i3, i4, i5, i6, i7, i8⟩ := h.itm j s hs
      rcases hg' b hbb with h1 | h1 | h1
      · exact h.apg k j t s (fun e => hj e.symm) ht hs b h1 hsb
      · have hls : Lies w vl s := by
          rcases Nat.lt_or_ge j k with h2 | h2
          · exact (i6 h2).2
          · have := (i7 (by omega)).1
            intro c hc; rw [this] at hc; simp [Value.ownBlock] at hc
        rcases hls b hsb with h3 | ⟨h3, _⟩
        · rw [htb] at h1
          rw [i2] at h3
          exact hap.ne j k r p hj i1 hp b h3 h1
        · rw [htb] at h1
          have := hlt k p hp b h1
          omega
      · have := i5 b hsb; omega
    intro i j s u hij hs hu b hbb
    by_cases hi : i = k
    · subst hi
      rw [List.getElem?_set_self hkl] at hs
      obtain rfl : t' = s := by simpa using hs
      rw [List.getElem?_set_ne (by omega)] at hu
      exact key j u (fun e => hij e.symm) hu b hbb
    · rw [List.getElem?_set_ne (by omega)] at hs
      by_cases hj : j = k
      · subst hj
        rw [List.getElem?_set_self hkl] at hu
        obtain rfl : t' = u := by simpa using hu
        intro hc
        exact key i s hi hs b hc hbb
      · rw [List.getElem?_set_ne (by omega)] at hu
        exact h.apg i j s u hij hs hu b hbb
theorem all_of_owns {w : World} {v : Value} {m : List Int} {z : Int} (h : Owns w v m) (hl : m.length ≤ 66000) (hz : ∀ i, i < m.length → m[i]? = some z) : AllAt w v z := by
  rcases h.2 with ⟨rfl, h0⟩ | ⟨g, cap, cur, rfl, _⟩
  · exact ⟨none, 0, 0, rfl, by omega, .inl rfl⟩
  · refine ⟨some ⟨g, 0, none⟩, m.length, cap, by simp, hl, .inr ⟨g, rfl, fun i hi => ?_⟩⟩
    rw [(Owns.cells h i hi).1, hz i hi]; rfl
theorem Ph.next {P : Lot} {w wr : World} {vl : Value} {l : List Tk} {k q : Nat} (h : Ph P w wr vl l k (some q)) (hsm : ∀ (j : Nat) (p : Value × List Int), P[j]? = some p → p.2.length + q ≤ 66000) : Ph P w wr vl l (k + 1) none := by
  refine ⟨h.aw, h.own, h.new, h.len, ?_, h.apg⟩
  intro j s hs
  obtain ⟨r, i1, i2, i3, i4, i5, i6, i7, i8⟩ := h.itm j s hs
  refine ⟨r, i1, i2, i3, i4, i5, fun hh => ?_, fun hh => i7 (by omega), fun hh => i7 (by omega)⟩
  by_cases hj : j = k
  · obtain ⟨⟨m, q1, q2, q3⟩, q4⟩ := i8 hj
    exact ⟨all_of_owns q1 (by have := hsm j r i1; omega) q3, q4⟩
  · exact i6 (by omega)
theorem Ph.fin {P : Lot} {w wr : World} {vl : Value} {l : List Tk} (h : Ph P w wr vl l P.length none) (hf : P.length ≤ 60) : Still wr vl l ∧ ∀ t ∈ l, (∀ k, t.b.ownBlock = some k → k ∈ blL P) ∧ (∀ k, t.g.ownBlock = some k → k ∈ blL P ∨ w.heap.size ≤ k) := by
  have key : ∀ t ∈ l, ∃ (j : Nat) (p : Value × List Int), P[j]? = some p ∧ t.b = p.1 ∧ t.m = mrk j ∧ AllAt wr t.b (mrk j) ∧ Done w wr vl t j := by
    intro t ht
    obtain ⟨j, hj, rfl⟩ := List.mem_iff_getElem.mp ht
    obtain ⟨r, i1, i2, i3, i4, i5, i6, i7, i8⟩ := h.itm j _ (List.getElem?_eq_getElem hj)
    exact ⟨j, r, i1, i2, i3, i4, i6 (by have := h.len; omega)⟩
  refine ⟨⟨h.own, by have := h.len; omega, fun t ht => ?_⟩, fun t ht => ?_⟩
  · obtain ⟨j, p, k1, k2, k3, k4, k5⟩ := key t ht
    rw [k3]; exact ⟨k4, k5.1⟩
  · obtain ⟨j, p, k1, k2, k3, k4, k5⟩ := key t ht
    have hb : ∀ k, t.b.ownBlock = some k → k ∈ blL P := fun k hk => bl_mem k1 (by rw [← k2]; exact hk)
    refine ⟨hb, fun k hk => ?_⟩
    rcases k5.2 k hk with h1 | ⟨h1, _⟩
    · exact .inl (hb k h1)
    · exact .inr h1
theorem OwnsT.store {w : World} {g n c k : Nat} {l : List Tk} {t : Tk} (h : OwnsT w (.slice (some ⟨g, 0, none⟩) n c) l) (ht : l[k]? = some t) (x : Value) : OwnsT (w.setCell ⟨g, k * 3 + 1, none⟩ x) (.slice (some ⟨g, 0, none⟩) n c) (l.set k { t with g := x }) := by
  have hn : n = l.length := by
    rcases h.2 with ⟨h2, _⟩ | ⟨g', cap', cur, h2, _⟩
    · simp at h2
    · simp only [Value.slice.injEq] at h2; exact h2.2.1
  subst hn
  have := (World.ownsRow.stored h (k * 3 + 1) x).1
  unfold OwnsT
  rw [List.length_set, ← flatT_set l k t x ht]
  exact this
theorem Ph.start {P : Lot} {w wr : World} {vl : Value} (aw : Away (blL P) w wr) (con : Con P wr P.length 0) (own : OwnsT wr vl (tks P P.length)) (new : New w.heap.size vl) (hs : ∀ (j : Nat) (p : Value × List Int), P[j]? = some p → p.2.length ≤ 65535) : Ph P w wr vl (tks P P.length) 0 none := by
  have hg : ∀ (j : Nat) (t : Tk), (tks P P.length)[j]? = some t → ∃ p : Value × List Int, P[j]? = some p ∧ t = ⟨p.1, .slice none 0 0, mrk j⟩ := by
    intro j t ht
    have hj : j < P.length := by
      rcases Nat.lt_or_ge j P.length with h | h
      · exact h
      · rw [List.getElem?_eq_none (by simpa [tks] using h)] at ht; simp at ht
    refine ⟨P[j], List.getElem?_eq_getElem hj, ?_⟩
    simp [tks, hj, List.getD] at ht
    exact ht.symm
  refine ⟨aw, own, new, by simp [tks], fun j t ht => ?_, fun i j s t hij hs' ht b hb => ?_⟩
  · obtain ⟨p, hp, rfl⟩ := hg j t ht
    obtain ⟨m, m1, m2, m3, _⟩ := con j p hp
    have hj : j < P.length := by
      rcases Nat.lt_or_ge j P.length with h | h
      · exact h
      · rw [List.getElem?_eq_none h] at hp; simp at hp
    have hm := m3 hj
    have hl := hs j p hp
    have todo : Todo wr ⟨p.1, .slice none 0 0, mrk j⟩ j p := ⟨rfl, m, m2, m1, hm⟩
    exact ⟨p, hp, rfl, rfl, all_of_owns m2 (by omega) hm, fun b hb => by simp [Value.ownBlock] at hb, fun hh => by omega, fun _ => todo, fun _ => todo⟩
  · obtain ⟨p, hp, rfl⟩ := hg i s hs'
    simp [Value.ownBlock] at hb
theorem run_appW (ty : TypeId) (w : World) (v : Value) (l m : List Int) (hown : Owns w v l) (ad : Addr) (n c : Nat) (hn : m.length = n) (hm : ∀ j u, (m.map (Value.int .u8))[j]? = some u → w.cell? (ad.add j) = some u) (hlen : l.length + n ≤ 140737488355328) :
    ∃ v' w', (Builtin.append_ #[26, 26] ty #[v, .slice (some ad) n c]).run Tryz.prog w = .ok v' w' ∧ Owns w' v' (l ++ m) ∧ Went w w' v v' := by
  obtain ⟨i0, hi, hz0, hz1, hz2⟩ := info_parts info5
  have hown' : w.ownsRow 0 5 1 v l.length (l.map (Value.int .u8)) := by
    have := hown
    unfold Owns OwnsG at this
    rwa [List.length_map] at this
  obtain ⟨v', w', h1, h2, h3⟩ := run_appNW 26 ty 5 i0 (.int .u8 0) 1 1 Tryz.underlying26 hi hz0 hz1 hz2 rfl (by decide) w v l.length (l.map (Value.int .u8)) hown' ad n c (m.map (Value.int .u8)) (by simp [hn]) hm (oneCell_bytes m) (by unfold maxLen; omega) (by omega)
  refine ⟨v', w', h1, ?_, h3⟩
  unfold Owns OwnsG
  rw [List.map_append, List.length_append, List.length_map, List.length_map, hn]
  exact h2
theorem step_appW {ops : Array Oper} {o : Oper} {a : Act} {w : World} {K : Act → World → Prop} {Q : Exit → Act → World → Prop} {E : Prop} (hg : o.guard = none) (s x : Operand)
    (hop : o.op = .call { callee := .builtin .append, args := #[s, x], argTypes := #[26, 26] }) (v : Value) (l m : List Int) (hs : a.eval s = v) (hown : Owns w v l)
    (ad : Addr) (n c : Nat) (hx : a.eval x = .slice (some ad) n c) (hn : m.length = n) (hm : ∀ j u, (m.map (Value.int .u8))[j]? = some u → w.cell? (ad.add j) = some u) (hlen : l.length + n ≤ 140737488355328)
    (hK : ∀ v' w', Owns w' v' (l ++ m) → Went w w' v v' → K (a.put o.dst v') w') :
    if Region.wanted o (yielded ops a.tmps) = true then Oper.wp Tryz.prog o a w K Q else E := by
  have hw : Region.wanted o (yielded ops a.tmps) = true := by simp [Region.wanted, hg]
  rw [if_pos hw]
  obtain ⟨v', w', hrun, r1, r2⟩ := run_appW o.type w v l m hown ad n c hn hm hlen
  unfold Oper.wp
  simp [execOp, hop, resolve, invoke, builtin, hs, hx, hrun, Result.andThen]
  exact hK v' w' r1 r2
/-- The bytes that were told keep their mark while one is laid behind them. -/
theorem all_after {wr w1 w2 : World} {b g g' : Value} {m : List Int} {z : Int} (h : AllAt wr b z) (h1 : Away [] wr w1) (hg : Went w1 w2 g g') (hown : Owns w2 g' (m ++ [z])) (hz : ∀ i, i < m.length → m[i]? = some z) (hl : ∀ n, (∃ a c, b = .slice a n c) → n ≤ m.length) : AllAt w2 b z := by
  have h' := h.away h1 (by simp)
  rcases hg with ⟨h2, h3⟩ | ⟨_, h3⟩
  · by_cases hs : ∃ k, b.ownBlock = some k ∧ g'.ownBlock = some k
    · obtain ⟨k, hk1, hk2⟩ := hs
      obtain ⟨a, n, c, rfl, hn, hc⟩ := h'
      refine ⟨a, n, c, rfl, hn, ?_⟩
      rcases hc with hc | ⟨bb, rfl, hc⟩
      · exact .inl hc
      · right
        refine ⟨bb, rfl, fun i hi => ?_⟩
        obtain rfl : bb = k := by simpa [Value.ownBlock] using hk1
        rcases hown.2 with ⟨rfl, _⟩ | ⟨gg, cap, cur, rfl, _⟩
        · simp [Value.ownBlock] at hk2
        · obtain rfl : gg = bb := by simpa [Value.ownBlock] using hk2
          have hi' : i < m.length := by have := hl n ⟨_, _, rfl⟩; omega
          rw [(Owns.cells hown i (by simp; omega)).1, List.getElem?_append_left hi', hz i hi']; rfl
    · have hA : Away g.ownBlock.toList w1 w2 := (Away.refl _ w1).grown h3 (fun k hk => .inl (by simp [hk]))
      refine h'.away hA (fun k hk hm => hs ⟨k, hk, ?_⟩)
      rw [h2]; simpa using hm
  · exact h'.away ((Away.refl [] w1).grown h3 (by simp)) (by simp)
end Go.Proofs.YtbkeilboneaejaaGreatDoor

namespace Go.Proofs.YtbkeilboneaejaaGreatDoor
open Go.ChangeShapes Go.WideShapes Go.ChangeAt Go.RowKit Num
set_option linter.unusedVariables false
set_option maxHeartbeats 4000000
set_option maxRecDepth 100000

theorem Owns.shape {w : World} {v : Value} {l : List Int} (h : Owns w v l) : ∃ a cap, v = .slice a l.length cap := by
  rcases h.2 with ⟨rfl, h2⟩ | ⟨g, cap, cur, rfl, -⟩
  · exact ⟨none, 0, by rw [show l.length = 0 from by simpa using h2]⟩
  · exact ⟨some ⟨g, 0, none⟩, cap, by simp⟩
theorem Owns.shape' {w : World} {v : Value} {l : List Int} (h : Owns w v l) (hl : l ≠ []) : ∃ b cap, v = .slice (some ⟨b, 0, none⟩) l.length cap := by
  rcases h.2 with ⟨rfl, h2⟩ | ⟨g, cap, cur, rfl, -⟩
  · exact absurd (List.eq_nil_of_length_eq_zero (by simpa using h2)) hl
  · exact ⟨g, cap, by simp⟩
theorem Owns.head {w : World} {b n cap : Nat} {l : List Int} (h : Owns w (.slice (some ⟨b, 0, none⟩) n cap) l) (k : Nat) (hk : k ≤ l.length) : Owns w (.slice (some ⟨b, 0, none⟩) k cap) (l.take k) := by
  rcases h.2 with ⟨h2, -⟩ | ⟨g, cap', cur, he, hg, hh, hn, hc, hs, ht⟩
  · simp at h2
  · simp only [Value.slice.injEq, Option.some.injEq, Addr.mk.injEq] at he
    obtain ⟨⟨rfl, -, -⟩, -, rfl⟩ := he
    have hlen : ((l.take k).map (Value.int .u8)).length = k := by rw [List.length_map, List.length_take]; omega
    refine ⟨by rw [hlen]; simp, .inr ⟨b, cap, cur, by rw [hlen], hg, hh, by rw [hlen]; simp at hn; omega, hc, hs, ?_⟩⟩
    rw [hlen]
    simp only [List.length_map, Nat.mul_one] at ht ⊢
    rw [List.map_take, ← ht, List.take_take, Nat.min_eq_left hk]
theorem Row.at {w : World} {a : Option Addr} {l : List Int} (h : Row w a l) (i : Nat) (hi : i < l.length) : ∃ b off, a = some ⟨b, off, none⟩ ∧ w.cell? ⟨b, off + i, none⟩ = some (.int .u8 (gt l i)) := by
  rcases h.2.2 with h0 | ⟨b, off, rfl, hc⟩
  · rw [h0] at hi; simp at hi
  · exact ⟨b, off, rfl, hc i hi⟩
/-- A variable of its own for a packet. -/
theorem Pkt.zero (w : World) : Pkt w zeroPk (.slice none 0 0) (.slice none 0 0) := ⟨zero_wf, Sl.nil _, Sl.nil _⟩
theorem pkt_of {w : World} {p : Pk} {ov dv : Value} (hw : Wf p) (ho : Owns w ov p.o) (hd : Owns w dv p.d) : Pkt w p ov dv := ⟨hw, ho.sl hw.o hw.ol, hd.sl hw.d hw.dn⟩
end Go.Proofs.YtbkeilboneaejaaGreatDoor

namespace Go.Proofs.YtbkeilboneaejaaGreatDoor
open Go.ChangeShapes Go.WideShapes Go.ChangeAt Go.RowKit Go.Deep Num
set_option linter.unusedVariables false

theorem Owns.sh3 {w : World} {v : Value} {l : List Int} (h : Owns w v l) : ∃ a n c, v = .slice a n c := by
  rcases h.2 with ⟨rfl, _⟩ | ⟨g, cap, cur, rfl, _⟩
  · exact ⟨_, _, _, rfl⟩
  · exact ⟨_, _, _, rfl⟩
set_option maxRecDepth 100000 in
set_option maxHeartbeats 1000000 in
theorem marked_any (w : World) (va : Value) (P : Lot) (h : LotAt w va P) :
    Calls Tryz.prog 25 #[va] w fun E w' => ∃ vl l, E = .returned vl ∧ Still w' vl l ∧ New w.heap.size vl ∧ Away (blL P) w w' ∧ ∀ t ∈ l, (∀ k, t.b.ownBlock = some k → k ∈ blL P) ∧ (∀ k, t.g.ownBlock = some k → k ∈ blL P ∨ w.heap.size ≤ k) := by
  have hlen := h.few
  obtain ⟨aa, na, ca, hva, hna⟩ : ∃ a n c, va = .slice a n c ∧ n = P.length := by
    rcases h.own.2 with ⟨rfl, h0⟩ | ⟨g, cap, cur, rfl, _⟩
    · exact ⟨_, _, _, rfl, by simpa using h0.symm⟩
    · exact ⟨_, _, _, rfl, by simp⟩
  subst hva
  subst hna
  have H : Hid (LotAt w (.slice aa P.length ca) P) := h
  have hst : Mk1 P w w (.slice none 0 0) 0 := by
    refine ⟨Away.refl _ _, fun j p hp => ?_, World.ownsRow_nil _ _ _ _, New.nil _⟩
    exact ⟨p.2, rfl, (h.con j p hp).1, fun hlt => by omega, fun _ t ht => by omega⟩
  clear h
  go_enter Tryz.func25, Tryz.ntmps25
  go_wp2_with fail
  go_loopw [3, 4] (fun l i wr => ∃ k : Nat, k ≤ P.length ∧ i = .int .i64 k ∧ Mk1 P w wr l k) (fun _ i _ => P.length - (intOf i).toNat)
  case atStart => exact ⟨0, by omega, rfl, hst⟩
  case round =>
    obtain ⟨k, hk, rfl, aw, con, own, new⟩ := hrel
    by_cases hlt : k < P.length
    · obtain ⟨p, hp⟩ : ∃ p, P[k]? = some p := ⟨_, List.getElem?_eq_getElem hlt⟩
      obtain ⟨m, hm1, hm2, _, _⟩ := con k p hp
      have hpl := (H.out.con k p hp).2.2
      have hca : ∃ ga, aa = some ⟨ga, 0, none⟩ ∧ wr.cell? ⟨ga, k, none⟩ = some p.1 := by
        rcases H.out.own.2 with ⟨h0, _⟩ | ⟨g, cap, cur, h0, _⟩
        · simp only [Value.slice.injEq] at h0; omega
        · simp only [Value.slice.injEq] at h0
          obtain ⟨rfl, _, rfl⟩ := h0
          have ho := H.out.own.away aw (fun j hj => H.out.far j hj)
          refine ⟨g, rfl, ?_⟩
          rw [(OwnsG.cells ho k (by simpa using hlt)).1, List.getElem?_map, hp]
          rfl
      obtain ⟨ga, rfl, hcell⟩ := hca
      obtain ⟨pa, pc, hpv, hpc⟩ : ∃ a c, p.1 = .slice a p.2.length c ∧ (0 < p.2.length → ∃ gb, a = some ⟨gb, 0, none⟩) := by
        rcases hm2.2 with ⟨h1, h2⟩ | ⟨g, cap, cur, h1, _⟩
        · refine ⟨none, 0, ?_, fun h => ?_⟩
          · rw [h1]; simp at h2; rw [← hm1, h2]; rfl
          · simp at h2; rw [← hm1, h2] at h; simp at h
        · exact ⟨some ⟨g, 0, none⟩, cap, by rw [h1, List.length_map, hm1], fun _ => ⟨g, rfl⟩⟩
      have HP : Hid (P[k]? = some p) := hp
      have hmk := mrk_bd k
      have hmkE : Hid (mrk k = 1 + (k : Int) % 250) := rfl
      have hk0 : (0 : Int) ≤ (k : Int) := by omega
      have hk1 : (k : Int) < (P.length : Int) := by omega
      have HPV : Hid (p.1 = .slice pa p.2.length pc) := hpv
      rw [hpv] at hcell
      generalize hnb : p.2.length = nb at *
      have HNB : Hid (p.2.length = nb) := hnb
      clear hnb hp hpv hm2 hm1
      have hsz := aw.size
      have hnewl := new
      have hbw : ∀ (j : Nat) (p : Value × List Int), P[j]? = some p → ∀ b, p.1.ownBlock = some b → b < w.heap.size := fun j p hp b hb => (H.out.con j p hp).1.lt b hb
      have HBW : Hid (∀ (j : Nat) (p : Value × List Int), P[j]? = some p → ∀ b, p.1.ownBlock = some b → b < w.heap.size) := hbw
      clear hbw
      go_wp2_with fail
      have hz : (1 : Int) + (k : Int) % 250 = mrk k := rfl
      rw [hz]
      have HZ : Hid ((1 : Int) + (k : Int) % 250 = mrk k) := hz
      clear hz
      have blk0 := block_new wr (.cells #[.slice pa nb pc, .slice none 0 0, .int .u8 (mrk k)] 82)
      have hA0 : Away [] wr (wr.alloc (.cells #[.slice pa nb pc, .slice none 0 0, .int .u8 (mrk k)] 82)) := (Away.refl [] wr).alloc _
      have hin : Away (blL P) w (wr.alloc (.cells #[.slice pa nb pc, .slice none 0 0, .int .u8 (mrk k)] 82)) ∧ Con P (wr.alloc (.cells #[.slice pa nb pc, .slice none 0 0, .int .u8 (mrk k)] 82)) k 0 ∧ OwnsT (wr.alloc (.cells #[.slice pa nb pc, .slice none 0 0, .int .u8 (mrk k)] 82)) u3 (tks P k) := ⟨aw.next hA0 (by simp), con.away hA0 (by simp), own.away hA0 (by simp)⟩
      generalize hW0 : wr.alloc (.cells #[.slice pa nb pc, .slice none 0 0, .int .u8 (mrk k)] 82) = W0 at *
      clear hW0 hA0
      generalize hX : wr.heap.size = X at *
      have hXw : w.heap.size ≤ X := hsz
      generalize hzz : mrk k = z at *
      have HZZ : Hid (mrk k = z) := hzz
      clear hX hzz aw con own
      go_loopw [6] (fun i wq => ∃ q : Nat, q ≤ nb ∧ i = .int .i64 q ∧ wq.heap[X]? = some (.cells #[.slice pa nb pc, .slice none 0 0, .int .u8 z] 82 (0, 0)) ∧ Away (blL P) w wq ∧ Con P wq k q ∧ OwnsT wq u3 (tks P k)) (fun i _ => nb - (intOf i).toNat)
      case atStart => exact ⟨0, by omega, rfl, blk0, hin⟩
      case round =>
        obtain ⟨q, hq, rfl, blk, aw, con, own⟩ := hrel
        have x0 : wr.cell? ⟨X, 0, none⟩ = some (.slice pa nb pc) := by rw [cell_of_block blk]; rfl
        have x1 : wr.cell? ⟨X, 1, none⟩ = some (.slice none 0 0) := by rw [cell_of_block blk]; rfl
        have x2 : wr.cell? ⟨X, 2, none⟩ = some (.int .u8 z) := by rw [cell_of_block blk]; rfl
        have HBK : Hid (wr.heap[X]? = some (.cells #[.slice pa nb pc, .slice none 0 0, .int .u8 z] 82 (0, 0))) := blk
        clear blk
        by_cases hql : q < nb
        · obtain ⟨gb, rfl⟩ := hpc (by omega)
          obtain ⟨m, hm1, hm2, _, _⟩ := con k p HP.out
          rw [HPV.out] at hm2
          obtain ⟨c0, f0⟩ := hm2.cells q (by rw [hm1, HNB.out]; exact hql)
          have hgb : gb ∈ blL P := bl_mem HP.out (by rw [HPV.out]; rfl)
          have hgbw : gb < w.heap.size := HBW.out k p HP.out gb (by rw [HPV.out]; rfl)
          have hA : Away [gb] wr (wr.setCell ⟨gb, q, none⟩ (.int .u8 z)) := (Away.refl _ wr).setCell (.inl (by simp)) _
          have con2 := con.step (q := q) H.out.ap HP.out HPV.out
          rw [HZZ.out] at con2
          have own2 := own.away hA (fun b hb => by have := hnewl b hb; simp; omega)
          have blk2 := hA.keep (g := X) (by simp; omega) HBK.out
          have aw2 := aw.setCell (p := ⟨gb, q, none⟩) (.inl hgb) (.int .u8 z)
          clear con own aw hm1 hm2 hA
          have hq1 : (q : Int) < (nb : Int) := by omega
          go_wp2_with fail
          go_roundw
          case rel => exact ⟨q + 1, by omega, by go_num, blk2, aw2, con2, own2⟩
          case measure => simp [intOf]; omega
        · have hq1 : ¬ ((q : Int) < (nb : Int)) := by omega
          have con2 := con.next HP.out (by rw [HNB.out]; omega)
          have hone : (Value.slice pa nb pc).oneCell' = true := rfl
          clear con
          have hklen : (tks P k).length ≤ 1000 := by simp [tks]; omega
          go_wp2_with (at_builtin; refine wpList_appT rfl _ _ rfl _ (tks P k) ⟨.slice pa nb pc, .slice none 0 0, z⟩ rfl (by exact own.away ((Away.refl [] _).alloc _) (by simp)) ⟨wr.heap.size, 0, none⟩ rfl (box_cells wr ⟨.slice pa nb pc, .slice none 0 0, z⟩ _ rfl) ⟨rfl, rfl⟩ hklen ?_)
          intro v' w2 hown2 hwent
          have hgr := hwent.grown
          have aw2 := (aw.alloc (.cells #[.slice pa nb pc, .slice none 0 0, .int .u8 z] 82)).grown hgr (fun j hj => .inr (hnewl j hj))
          have new2 := hnewl.moved hwent.moved (by have := aw.size; simp; omega)
          have hA2 : Away u3.ownBlock.toList wr w2 := ((Away.refl _ wr).alloc _).grown hgr (fun j hj => .inl (by simp [hj]))
          have con3 := con2.away hA2 (fun j p' hp' b hb hm => by have h1 := HBW.out j p' hp' b hb; have h2 := hnewl b (by simpa using hm); omega)
          have own3 : OwnsT w2 v' (tks P (k + 1)) := by
            rw [tks_succ P k p HP.out, HPV.out, HZZ.out]; exact hown2
          clear hwent hgr hA2 hown2 con2 own
          go_wp2_with fail
          go_roundw
          case rel => exact ⟨k + 1, by omega, by go_num, ⟨aw2, con3, own3, new2⟩⟩
          case measure => simp [intOf]; omega
    · obtain rfl : k = P.length := by omega
      have hsm : ∀ (j : Nat) (p : Value × List Int), P[j]? = some p → p.2.length ≤ 65535 := fun j p hp => (H.out.con j p hp).2.2
      have hbw : ∀ (j : Nat) (p : Value × List Int), P[j]? = some p → ∀ b, p.1.ownBlock = some b → b < w.heap.size := fun j p hp b hb => (H.out.con j p hp).1.lt b hb
      have hph := Ph.start aw con own new hsm
      obtain ⟨al, cl, hu3, hne⟩ := own.shape
      rw [show (tks P P.length).length = P.length from by simp [tks]] at hu3
      subst hu3
      have HSM : Hid (∀ (j : Nat) (p : Value × List Int), P[j]? = some p → p.2.length ≤ 65535) := hsm
      have HBW : Hid (∀ (j : Nat) (p : Value × List Int), P[j]? = some p → ∀ b, p.1.ownBlock = some b → b < w.heap.size) := hbw
      have HNE : Hid (0 < P.length → ∃ gl, al = some ⟨gl, 0, none⟩) := fun h => hne (by intro e; have := congrArg List.length e; rw [show (tks P P.length).length = P.length from by simp [tks]] at this; simp only [List.length_nil] at this; omega)
      clear hsm hbw aw con own hne hlt hk
      go_wp2_with fail
      go_loopw [7] (fun i wr => ∃ (k : Nat) (l : List Tk), k ≤ P.length ∧ i = .int .i64 k ∧ Ph P w wr (.slice al P.length cl) l k none) (fun i _ => P.length - (intOf i).toNat)
      case atStart => exact ⟨0, _, by omega, rfl, hph⟩
      case round =>
        obtain ⟨k, l, hk, rfl, ph⟩ := hrel
        by_cases hlt : k < P.length
        · obtain ⟨gl, rfl⟩ := HNE.out (by omega)
          obtain ⟨t, ht⟩ : ∃ t, l[k]? = some t := ⟨_, List.getElem?_eq_getElem (by have := ph.len; omega)⟩
          obtain ⟨p, hp, htb, htm, hall, _, _, _, hcur⟩ := ph.itm k t ht
          obtain ⟨htg, m, hm1, hm2, hm3⟩ := hcur rfl
          obtain ⟨c0, c1, c2, f0⟩ := ph.own.cells k t ht
          have f1 := f0 (k * 3 + 1)
          have hgl : w.heap.size ≤ gl := ph.new gl rfl
          obtain ⟨ba, bn, bc, hbv⟩ : ∃ a n c, t.b = .slice a n c := by
            rcases hm1.2 with ⟨h, _⟩ | ⟨g, cap, cur, h, _⟩
            · exact ⟨_, _, _, h⟩
            · exact ⟨_, _, _, h⟩
          have hA : Away [gl] wr (wr.setCell ⟨gl, k * 3 + 1, none⟩ t.b) := (Away.refl _ wr).setCell (.inl (by simp)) _
          have hbn : ∀ b, t.b.ownBlock = some b → b ∉ [gl] := fun b hb => by
            have := HBW.out k p hp b (by rw [← htb]; exact hb)
            simp; omega
          have ph2 : Ph P w (wr.setCell ⟨gl, k * 3 + 1, none⟩ t.b) (.slice (some ⟨gl, 0, none⟩) P.length cl) (l.set k { t with g := t.b }) k (some 0) := by
            refine ph.put (S := [gl]) H.out.ap HBW.out ht hp htb htm rfl rfl hA (ph.aw.setCell (.inr hgl) _) (fun x hx => .inr (by simp at hx; rw [hx]; rfl)) ?_ (ph.own.store ht t.b) (hall.away hA hbn) ?_ (fun b hb => .inr (.inl hb)) ?_
            · intro b hb; rw [htg] at hb; simp [Value.ownBlock] at hb
            · intro b hb; simpa using hm1.lt b hb
            · exact ⟨⟨m, hm1.away hA hbn, by simpa using hm2, hm3⟩, fun b hb => .inl hb⟩
          clear hm1 hm2 hm3 hall hA hcur f0 ph
          rw [hbv] at c0 ph2
          have hk0 : (0 : Int) ≤ (k : Int) := by omega
          have hk1 : (k : Int) < (P.length : Int) := by omega
          have c1' : wr.cell? ⟨gl, k * 3 + 1, none⟩ = some (.slice none 0 0) := by rw [c1, htg]
          clear c1 htg
          have HT : Hid (l[k]? = some t ∧ P[k]? = some p ∧ t.b = p.1) := ⟨ht, hp, htb⟩
          clear ht hp htb htm hbv
          go_wp2_with fail
          go_loopw [8] (fun i wr => ∃ (q : Nat) (l : List Tk), q ≤ 80 ∧ i = .int .i64 q ∧ Ph P w wr (.slice (some ⟨gl, 0, none⟩) P.length cl) l k (some q)) (fun i _ => 80 - (intOf i).toNat)
          case atStart => exact ⟨0, _, by omega, rfl, ph2⟩
          case round =>
            obtain ⟨q, l, hq, rfl, ph⟩ := hrel
            by_cases hql : q < 80
            · obtain ⟨t, ht⟩ : ∃ t, l[k]? = some t := ⟨_, List.getElem?_eq_getElem (by have := ph.len; omega)⟩
              obtain ⟨p, hp, htb, htm, hall, hglt, _, _, hcur⟩ := ph.itm k t ht
              obtain ⟨⟨m, hm1, hm2, hm3⟩, hlies⟩ := hcur rfl
              obtain ⟨c0, c1, c2, f0⟩ := ph.own.cells k t ht
              have f1 := f0 (k * 3 + 1)
              have hsz := ph.aw.size
              have hgll : gl < wr.heap.size := block_lt_of_cell c0
              have hpl := HSM.out k p hp
              rw [htm] at c2
              have hmk := mrk_bd k
              have hml : m.length ≤ 65700 := by omega
              have hgn : gl ∉ t.g.ownBlock.toList := fun hm => by
                rcases hlies gl (by simpa using hm) with h1 | ⟨_, h1⟩
                · have := HBW.out k p hp gl (by rw [← htb]; exact h1); omega
                · exact h1 rfl
              have HPH : Hid (Ph P w wr (.slice (some ⟨gl, 0, none⟩) P.length cl) l k (some q)) := ph
              have HTT : Hid (l[k]? = some t ∧ P[k]? = some p ∧ t.b = p.1 ∧ t.m = mrk k ∧ AllAt wr t.b (mrk k) ∧ Lies w (.slice (some ⟨gl, 0, none⟩) P.length cl) t) := ⟨ht, hp, htb, htm, hall, hlies⟩
              have HM3 : Hid (m.length = p.2.length + q ∧ ∀ i, i < m.length → m[i]? = some (mrk k)) := ⟨hm2, hm3⟩
              clear ht hp htb htm hall hlies hm2 hm3 f0 hcur ph
              obtain ⟨tb, tg, tm⟩ := t
              simp only at c0 c1 c2 hm1 hgn hglt
              generalize hzz : mrk k = z at *
              have HZZ : Hid (mrk k = z) := hzz
              clear hzz
              have hk0 : (0 : Int) ≤ (k : Int) := by omega
              have hk1 : (k : Int) < (P.length : Int) := by omega
              go_wp2_with fail
              go_region_law ((refine step_appW rfl (.tmp 66) (.tmp 72) rfl tg m [z] (by simp [Act.eval]) (by exact hm1.away (((Away.refl [] _).alloc _).drew) (by simp)) ⟨wr.heap.size, 0, none⟩ 1 1 (by simp [Act.eval]) rfl (by exact lit_cells _ [z] _ rfl) (by omega) ?_; intro g' w2 hown2 hwent; have haw2 : Away tg.ownBlock.toList wr w2 := (((Away.refl _ wr).alloc _).drew).grown hwent.grown (fun k hk => .inl (by simp [hk])); have z0 := haw2.cell hgn c0; have z1 := haw2.cell hgn c1; have z2 := haw2.cell hgn c2; have hT2 := HPH.out.own.away haw2 (fun b hb => by simp [Value.ownBlock] at hb; subst hb; exact hgn); have g1 := (hT2.cells k _ HTT.out.1).2.2.2 (k * 3 + 1); obtain ⟨ga, gn, gc, rfl⟩ := hown2.sh3))
              all_goals
                have hA3 : Away [gl] w2 (w2.setCell ⟨gl, k * 3 + 1, none⟩ (.slice ga gn gc)) := (Away.refl _ w2).setCell (.inl (by simp)) _
                obtain ⟨ht, hp, htb, htm, hall, hlies⟩ := HTT.out
                have hm2 := HM3.out.1
                have hm3 := HM3.out.2
                have hphw := HPH.out.aw
                have hs2 := haw2.size
                have hgb : ∀ b, (Value.slice ga gn gc).ownBlock = some b → b ∉ [gl] := fun b hb hm => by
                  simp at hm
                  subst hm
                  rcases hwent.moved b hb with h1 | h1
                  · exact hgn (by simp [h1])
                  · simp at h1; omega
                have own3 := hown2.away hA3 hgb
                have hbl : ∀ x ∈ tg.ownBlock.toList, x ∈ blL P ∨ w.heap.size ≤ x := fun x hx => by
                  rcases hlies x (by simpa using hx) with h1 | ⟨h1, _⟩
                  · exact .inl (bl_mem hp (by rw [← htb]; exact h1))
                  · exact .inr h1
                have ph3 : Ph P w (w2.setCell ⟨gl, k * 3 + 1, none⟩ (.slice ga gn gc)) (.slice (some ⟨gl, 0, none⟩) P.length cl) (l.set k ⟨tb, .slice ga gn gc, tm⟩) k (some (q + 1)) := by
                  refine HPH.out.put (S := tg.ownBlock.toList ++ [gl]) (p := p) (t := ⟨tb, tg, tm⟩) H.out.ap HBW.out ht hp htb (by rw [HZZ.out]; exact htm) rfl rfl ((haw2.mono (by simp; intro x hx; exact .inl hx)).next hA3 (by simp)) ((hphw.next haw2 hbl).next hA3 (by simpa using .inr hgl)) ?_ hlies (hT2.store ht _) ?_ ?_ ?_ ?_
                  · intro x hx
                    rcases List.mem_append.mp hx with h1 | h1
                    · exact .inl (by simpa using h1)
                    · exact .inr (by simp at h1; rw [h1]; rfl)
                  · rw [HZZ.out]
                    refine (all_after (m := m) hall (((Away.refl [] wr).alloc _).drew) hwent hown2 hm3 ?_).away hA3 ?_
                    · intro n hn
                      obtain ⟨a', c', hn⟩ := hn
                      obtain ⟨m', k1, k2, _⟩ : ∃ m' : List Int, m'.length = p.2.length ∧ p.1 = .slice a' n c' ∧ True := ⟨p.2, rfl, by rw [← htb, hn], trivial⟩
                      have := (H.out.con k p hp).1
                      rw [k2] at this
                      have hn' : n = p.2.length := by
                        rcases this.2 with ⟨h2, h3⟩ | ⟨g', cap', cur, h2, _⟩
                        · simp only [Value.slice.injEq] at h2; simp at h3; rw [h3]; simpa using h2.2.1
                        · simp only [Value.slice.injEq, List.length_map] at h2; exact h2.2.1
                      omega
                    · intro b hb
                      have := HBW.out k p hp b (by rw [← htb]; exact hb)
                      simp; omega
                  · intro b hb; simpa using own3.lt b hb
                  · intro b hb
                    rcases hwent.moved b hb with h1 | h1
                    · exact .inl h1
                    · right; right; simp at h1; omega
                  · refine ⟨⟨m ++ [z], own3, by simp; omega, fun i hi => ?_⟩, fun b hb => ?_⟩
                    · rw [HZZ.out]
                      by_cases him : i < m.length
                      · rw [List.getElem?_append_left him]; exact hm3 i him
                      · have : i = m.length := by simp at hi; omega
                        subst this
                        simp
                    · rcases hwent.moved b hb with h1 | h1
                      · exact hlies b h1
                      · right
                        simp at h1
                        exact ⟨by omega, fun h2 => by simp [Value.ownBlock] at h2; omega⟩
                clear hwent haw2 hT2 hown2 own3 hA3 hphw
                go_wp2_with fail
                go_roundw
                case rel => exact ⟨q + 1, _, by omega, by go_num, ph3⟩
                case measure => simp [intOf]; omega
            · have ph3 := ph.next (fun j p hp => by have := HSM.out j p hp; omega)
              go_wp2_with fail
              go_roundw
              case rel => exact ⟨k + 1, l, by omega, by go_num, ph3⟩
              case measure => simp [intOf]; omega
        · obtain rfl : k = P.length := by omega
          obtain ⟨r1, r2⟩ := ph.fin hlen
          have r3 := ph.aw
          have r4 := ph.new
          go_wp2_with fail
          go_ret
          exact ⟨_, l, rfl, r1, r4, r3, r2⟩
#print axioms marked_any
end Go.Proofs.YtbkeilboneaejaaGreatDoor

namespace Go.Proofs.YtbkeilboneaejaaGreatDoor
open Go.ChangeShapes Go.WideShapes Go.ChangeAt Go.RowKit Go.Deep Num
set_option linter.unusedVariables false
set_option maxHeartbeats 4000000
set_option maxRecDepth 100000

theorem still_any (w : World) (v : Value) (l : List Tk) (h : Still w v l) :
    Calls Tryz.prog 26 #[v] w fun E w' => E = .returned (.bool true) ∧ ∃ n, w' = w.drewN n := by
  obtain ⟨a, c, rfl, hne⟩ := h.1.shape
  have hlen := h.2.1
  have H : Hid (Still w (.slice a l.length c) l) := h
  clear h
  go_enter Tryz.func26, Tryz.ntmps26
  go_wp2_with fail
  go_loopw [3] (fun i wr => ∃ k n : Nat, k ≤ l.length ∧ i = .int .i64 k ∧ wr = w.drewN n) (fun i _ => l.length - (intOf i).toNat)
  case atStart => exact ⟨0, 0, by omega, rfl, rfl⟩
  case round =>
    obtain ⟨k, n, hk, rfl, rfl⟩ := hrel
    by_cases hlt : k < l.length
    · obtain ⟨t, ht⟩ : ∃ t, l[k]? = some t := ⟨_, List.getElem?_eq_getElem hlt⟩
      obtain ⟨g, rfl⟩ := hne (by intro e; rw [e] at hlt; simp at hlt)
      obtain ⟨c0, c1, c2, _⟩ := H.out.1.cells k t ht
      obtain ⟨hb, hg⟩ := H.out.2.2 t (List.mem_of_getElem? ht)
      obtain ⟨tb, tg, tm⟩ := t
      obtain ⟨ab, nb, cb, hbv, hnb, hbc⟩ := hb
      obtain ⟨ag, ng, cg, hgv, hng, hgc⟩ := hg
      simp only at hbv hgv c0 c1 c2 hbc hgc
      subst hbv
      subst hgv
      clear ht
      have hk0 : (0 : Int) ≤ (k : Int) := by omega
      have hk1 : (k : Int) < (l.length : Int) := by omega
      go_wp2_with fail
      go_loopw [4] (fun i wr => ∃ j n : Nat, j ≤ ng ∧ i = .int .i64 j ∧ wr = w.drewN n) (fun i _ => ng - (intOf i).toNat)
      case atStart => exact ⟨0, n, by omega, rfl, rfl⟩
      case round =>
        obtain ⟨j, n, hj, rfl, rfl⟩ := hrel
        by_cases hjl : j < ng
        · rcases hgc with h0 | ⟨gg, rfl, hgc⟩
          · omega
          have d0 := hgc j hjl
          have hj0 : (0 : Int) ≤ (j : Int) := by omega
          have hj1 : (j : Int) < (ng : Int) := by omega
          clear hgc
          have en : (tm != tm) = false := by simp
          by_cases hjb : j < nb
          · rcases hbc with h0 | ⟨bb, rfl, hbc⟩
            · omega
            have d1 := hbc j hjb
            have hj2 : (j : Int) < (nb : Int) := by omega
            have hd : decide ((j : Int) < (nb : Int)) = true := by simp; omega
            clear hbc
            go_wp2_with fail
            go_quiet (fail)
            go_wp2_with fail
            go_roundw
            case rel => exact ⟨j + 1, _, by omega, by go_num, rfl⟩
            case measure => simp [intOf]; omega
          · have hj2 : ¬ (j : Int) < (nb : Int) := by omega
            have hd : decide ((j : Int) < (nb : Int)) = false := by simp; omega
            clear hbc
            go_wp2_with fail
            go_quiet (fail)
            go_wp2_with fail
            go_roundw
            case rel => exact ⟨j + 1, _, by omega, by go_num, rfl⟩
            case measure => simp [intOf]; omega
        · have hjl' : ¬ ((j : Int) < (ng : Int)) := by omega
          go_wp2_with fail
          go_roundw
          case rel => exact ⟨k + 1, n, by omega, by go_num, rfl⟩
          case measure => simp [intOf]; omega
    · go_wp2_with fail
      go_ret
      exact ⟨rfl, n, rfl⟩
end Go.Proofs.YtbkeilboneaejaaGreatDoor

namespace Go.Proofs.YtbkeilboneaejaaGreatDoor
open Go.ChangeShapes Go.WideShapes Go.ChangeAt Go.RowKit Go.Deep Num
set_option linter.unusedVariables false
set_option maxRecDepth 100000

structure Lots (w : World) (P : Lot) : Prop where
  con : ∀ p ∈ P, Owns w p.1 p.2
  ap : P.Pairwise (fun p q => ∀ k, p.1.ownBlock = some k → q.1.ownBlock ≠ some k)
theorem Lots.nil (w : World) : Lots w [] := ⟨by simp, by simp⟩
theorem Lots.away {S : List Nat} {w w' : World} {P : Lot} (h : Lots w P) (hw : Away S w w') (hS : ∀ p ∈ P, ∀ k, p.1.ownBlock = some k → k ∉ S) : Lots w' P :=
  ⟨fun p hp => (h.con p hp).away hw (hS p hp), h.ap⟩
theorem Lots.on {w w' : World} {P : Lot} (h : Lots w P) (hw : Away [] w w') : Lots w' P := h.away hw (by simp)
theorem Lots.lt {w : World} {P : Lot} (h : Lots w P) : ∀ p ∈ P, ∀ k, p.1.ownBlock = some k → k < w.heap.size := fun p hp k hk => (h.con p hp).lt k hk
/-- One more, in new memory. -/
theorem Lots.add {w w' : World} {P : Lot} {v : Value} {l : List Int} (h : Lots w P) (hw : Away [] w w') (ho : Owns w' v l) (hn : New w.heap.size v) : Lots w' (P ++ [(v, l)]) := by
  refine ⟨fun p hp => ?_, List.pairwise_append.2 ⟨h.ap, by simp, fun p hp q hq k hk he => ?_⟩⟩
  · rcases List.mem_append.1 hp with h1 | h1
    · exact (h.on hw).con p h1
    · simp at h1; subst h1; exact ho
  · simp at hq
    subst hq
    have h1 := h.lt p hp k hk
    have h2 := hn k he
    omega
/-- Two more, apart. -/
theorem Lots.add2 {w w' : World} {P : Lot} {v u : Value} {l m : List Int} (h : Lots w P) (hw : Away [] w w') (ho : Owns w' v l) (hp : Owns w' u m) (hn : New w.heap.size v) (hm : New w.heap.size u) (hap : ∀ k, v.ownBlock = some k → u.ownBlock ≠ some k) : Lots w' (P ++ [(v, l), (u, m)]) := by
  refine ⟨fun p hq => ?_, List.pairwise_append.2 ⟨h.ap, by simpa using hap, fun p hp' q hq k hk he => ?_⟩⟩
  · rcases List.mem_append.1 hq with h1 | h1
    · exact (h.on hw).con p h1
    · simp at h1; rcases h1 with rfl | rfl
      · exact ho
      · exact hp
  · have h1 := h.lt p hp' k hk
    simp at hq
    rcases hq with rfl | rfl
    · have h2 := hn k he; omega
    · have h2 := hm k he; omega
/-- As marked wants them. -/
theorem Lots.at {w : World} {P : Lot} {va : Value} (h : Lots w P) (hg : OwnsG 26 w va (P.map (·.1))) (hb : ∀ p ∈ P, Bytes p.2 ∧ p.2.length ≤ 65535) (hf : ∀ k, va.ownBlock = some k → ∀ p ∈ P, p.1.ownBlock ≠ some k) (hl : P.length ≤ 60) : LotAt w va P := by
  refine ⟨hg, fun j p hp => ?_, ⟨fun i j p q hij hi hj k hk he => ?_⟩, fun k hk hm => ?_, hl⟩
  · have hm := List.mem_of_getElem? hp
    exact ⟨h.con p hm, (hb p hm).1, (hb p hm).2⟩
  · obtain ⟨hi1, hi2⟩ := List.getElem?_eq_some_iff.1 hi
    obtain ⟨hj1, hj2⟩ := List.getElem?_eq_some_iff.1 hj
    rcases Nat.lt_or_ge i j with h1 | h1
    · have := List.pairwise_iff_getElem.1 h.ap i j hi1 hj1 h1 k (by rw [hi2]; exact hk)
      rw [hj2] at this
      exact this he
    · have := List.pairwise_iff_getElem.1 h.ap j i hj1 hi1 (by omega) k (by rw [hj2]; exact he)
      rw [hi2] at this
      exact this hk
  · obtain ⟨p, hp, hq⟩ := List.mem_filterMap.1 hm
    exact hf k hk p hp hq
end Go.Proofs.YtbkeilboneaejaaGreatDoor
