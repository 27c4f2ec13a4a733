/-
  'marked': what its first half rests on.
-/
import Derived.Test.YtkfbhofbajejiaaDoorMem
import Derived.Deep.RegionLaw
namespace Go.Proofs.YtkfbhofbajejiaaDoor
open Go.ChangeShapes Go.WideShapes Go.ChangeAt Go.RowKit Go.Deep Num
set_option linter.unusedVariables false

/-- The mark of number j. -/
def mrk (j : Nat) : Int := 1 + (j : Int) % 250
theorem mrk_bd (j : Nat) : 0 ≤ mrk j ∧ mrk j ≤ 255 := by unfold mrk; omega
abbrev Lot := List (Value × List Int)
/-- Slices of their own that lie apart. -/
structure Apart (P : Lot) : Prop where
  ne : ∀ (i j : Nat) (p q : Value × List Int), i ≠ j → P[i]? = some p → P[j]? = some q → ∀ k, p.1.ownBlock = some k → q.1.ownBlock ≠ some k
/-- What they hold, while number k is marked as far as q. -/
def Con (P : Lot) (w : World) (k q : Nat) : Prop :=
  ∀ (j : Nat) (p : Value × List Int), P[j]? = some p → ∃ m : List Int, m.length = p.2.length ∧ Owns w p.1 m ∧ (j < k → ∀ t, t < m.length → m[t]? = some (mrk j)) ∧ (j = k → ∀ t, t < q → t < m.length → m[t]? = some (mrk j))
theorem Con.away {P : Lot} {S : List Nat} {w w' : World} {k q : Nat} (h : Con P w k q) (hw : Away S w w') (hS : ∀ (j : Nat) (p : Value × List Int), P[j]? = some p → ∀ b, p.1.ownBlock = some b → b ∉ S) : Con P w' k q := by
  intro j p hp
  obtain ⟨m, h1, h2, h3⟩ := h j p hp
  exact ⟨m, h1, h2.away hw (hS j p hp), h3⟩
theorem Con.step {P : Lot} {w : World} {k q gb n c : Nat} {p : Value × List Int} (h : Con P w k q) (ha : Apart P) (hp : P[k]? = some p) (hv : p.1 = .slice (some ⟨gb, 0, none⟩) n c) : Con P (w.setCell ⟨gb, q, none⟩ (.int .u8 (mrk k))) k (q + 1) := by
  have hA : Away [gb] w (w.setCell ⟨gb, q, none⟩ (.int .u8 (mrk k))) := (Away.refl _ w).setCell (.inl (by simp)) _
  intro j p' hp'
  obtain ⟨m, h1, h2, h3, h4⟩ := h j p' hp'
  by_cases hj : j = k
  · subst hj
    obtain rfl : p' = p := by rw [hp] at hp'; simpa using hp'.symm
    rw [hv] at h2 ⊢
    have hn : m.length = n := by
      rcases h2.2 with ⟨h2', _⟩ | ⟨g', cap', cur, h2', _⟩
      · simp at h2'
      · simp only [Value.slice.injEq, List.length_map] at h2'; exact h2'.2.1.symm
    refine ⟨m.set q (mrk j), by simpa using h1, h2.set hn q (mrk j), fun hlt => by omega, fun _ t ht htl => ?_⟩
    simp only [List.length_set] at htl
    by_cases htq : t = q
    · subst htq; rw [List.getElem?_set_self htl]
    · rw [List.getElem?_set_ne (by omega)]; exact h4 rfl t (by omega) htl
  · refine ⟨m, h1, h2.away hA (fun b hb => ?_), h3, fun e => absurd e hj⟩
    simp
    intro hbe
    exact ha.ne k j p p' (fun e => hj e.symm) hp hp' gb (by rw [hv]; rfl) (by rw [← hbe]; exact hb)
theorem Con.next {P : Lot} {w : World} {k q : Nat} {p : Value × List Int} (h : Con P w k q) (hp : P[k]? = some p) (hq : p.2.length ≤ q) : Con P w (k + 1) 0 := by
  intro j p' hp'
  obtain ⟨m, h1, h2, h3, h4⟩ := h j p' hp'
  refine ⟨m, h1, h2, fun hlt t ht => ?_, fun _ t ht => by omega⟩
  by_cases hj : j = k
  · subst hj
    obtain rfl : p' = p := by rw [hp] at hp'; simpa using hp'.symm
    exact h4 rfl t (by omega) ht
  · exact h3 (by omega) t ht
/-- As they are collected. -/
def tks (P : Lot) (k : Nat) : List Tk := (List.range k).map fun j => ⟨(P.getD j (.slice none 0 0, [])).1, .slice none 0 0, mrk j⟩
theorem tks_succ (P : Lot) (k : Nat) (p : Value × List Int) (hp : P[k]? = some p) : tks P (k + 1) = tks P k ++ [⟨p.1, .slice none 0 0, mrk k⟩] := by
  simp [tks, List.range_succ, List.getD, hp]
def bl (P : Lot) : List Nat := P.filterMap (fun p => p.1.ownBlock)
theorem bl_mem {P : Lot} {j : Nat} {p : Value × List Int} (hp : P[j]? = some p) {k : Nat} (hk : p.1.ownBlock = some k) : k ∈ bl P := List.mem_filterMap.mpr ⟨p, List.mem_of_getElem? hp, hk⟩
/-- What comes in. -/
structure LotAt (w : World) (va : Value) (P : Lot) : Prop where
  own : OwnsG 26 w va (P.map (·.1))
  con : ∀ (j : Nat) (p : Value × List Int), P[j]? = some p → Owns w p.1 p.2 ∧ Bytes p.2 ∧ p.2.length ≤ 65535
  ap : Apart P
  far : ∀ k, va.ownBlock = some k → k ∉ bl P
  few : P.length ≤ 60
theorem flatT_app (l m : List Tk) : flatT (l ++ m) = flatT l ++ flatT m := by simp [flatT]
theorem wpList_appT {w : World} {ops : Array Oper} {rest : List Oper} {o : Oper} {a : Act} {Q : Exit → Act → World → Prop} (hgd : o.guard = none) (s x : Operand)
    (ho : o.op = .call { callee := .builtin .append, args := #[s, x], argTypes := #[47, 47] }) (v : Value) (l : List Tk) (t : Tk) (hs : a.eval s = v) (hown : OwnsT w v l)
    (ad : Addr) (hx : a.eval x = .slice (some ad) 1 1) (hm : ∀ j u, (t.cells)[j]? = some u → w.cell? (ad.add j) = some u) (hone : t.b.oneCell' = true ∧ t.g.oneCell' = true) (hlen : l.length ≤ 1000)
    (h : ∀ v' w', OwnsT w' v' (l ++ [t]) → Went w w' v v' → wpList Tryd.prog ops Q rest (a.put o.dst v') w') : wpList Tryd.prog ops Q (o :: rest) a w := by
  obtain ⟨i0, hi, hz⟩ := Option.map_eq_some_iff.1 info82
  obtain ⟨i1, hi1, hb⟩ := Option.map_eq_some_iff.1 bytes82
  obtain rfl : i1 = i0 := by rw [hi] at hi1; simpa using hi1.symm
  simp only [Prod.mk.injEq] at hz
  obtain ⟨v', w', hrun, r1, r2⟩ := run_appNW 47 o.type 67 i1 _ 3 56 Tryd.underlying47 hi hz.1 hz.2 hb rfl (by decide) w v l.length (flatT l) hown ad 1 1 t.cells rfl hm (by
    intro u hu
    simp only [Tk.cells, List.mem_cons, List.not_mem_nil, or_false] at hu
    rcases hu with rfl | rfl | rfl
    · exact hone.1
    · exact hone.2
    · rfl) (by unfold maxLen; omega) (by omega)
  refine wpList_plain hgd fun _ hK => ?_
  unfold Oper.wp
  simp [execOp, ho, resolve, invoke, builtin, hs, hx, hrun, Result.andThen]
  refine hK _ _ (h v' w' ?_ r2)
  unfold OwnsT
  rw [flatT_app, List.length_append]
  exact r1
theorem slice_one {w : World} {v : Value} {l : List Int} (h : Owns w v l) : v.oneCell' = true := by
  rcases h.2 with ⟨rfl, _⟩ | ⟨g, cap, cur, rfl, _⟩ <;> rfl
theorem OwnsT.away {S : List Nat} {w w' : World} {v : Value} {l : List Tk} (h : OwnsT w v l) (hw : Away S w w') (ha : ∀ k, v.ownBlock = some k → k ∉ S) : OwnsT w' v l := by
  obtain ⟨h1, h2⟩ := h
  refine ⟨h1, ?_⟩
  rcases h2 with h2 | ⟨g, cap, cur, rfl, hg, hh, r⟩
  · exact .inl h2
  · exact .inr ⟨g, cap, cur, rfl, hg, hw.keep (ha g rfl) hh, r⟩
theorem box_cells (w : World) (t : Tk) (n : Nat) (hn : n = w.heap.size) : ∀ j u, (t.cells)[j]? = some u → (w.alloc (.cells #[t.b, t.g, .int .u8 t.m] 67)).cell? ((⟨n, 0, none⟩ : Addr).add j) = some u := by
  intro j u hj
  rw [add_plain, Nat.zero_add, World.cell?_alloc_at (hn := hn)]
  simpa [Tk.cells] using hj
/-- Behind k of them, in the first loop. -/
structure Mk1 (P : Lot) (w wr : World) (vl : Value) (k : Nat) : Prop where
  aw : Away (bl P) w wr
  con : Con P wr k 0
  own : OwnsT wr vl (tks P k)
  new : New w.heap.size vl

end Go.Proofs.YtkfbhofbajejiaaDoor
