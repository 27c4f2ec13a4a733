/-
  What a Bind that is taken, and its Close, leave; plain.
-/
import Derived.Test.YtemdgggpfadecaaView
namespace Go.Proofs.Ytemdgggpfadecaa
open Go.ChangeShapes Go.WideShapes Go.ChangeAt Go.RowKit
set_option linter.unusedVariables false
set_option linter.unusedSimpArgs false
set_option maxRecDepth 100000

/-- With another number given out last. -/
def Tb.at (t : Tb) (n : Int) : Tb := ⟨t.most, n, t.bs⟩
def Tb.plus (t : Tb) (v : Int) (l : List Int) (p : Int) : Tb := ⟨t.most, t.last + 1, t.bs ++ [⟨t.last + 1, v, l, p⟩]⟩
theorem bind_cases {t : Tb} (h : WfT t) (v : Int) (l : List Int) (p : Int) :
    (∃ e, e ≠ 0 ∧ bindP t v l p = ((0, 0, e), t)) ∨ (∃ P, bindP t v l p = ((t.last + 1, P, 0), t.plus v l P) ∧ justP t.bs v l P = 0 ∧ ∀ n, bindP (t.at n) v l p = ((n + 1, P, 0), (t.at n).plus v l P)) := by
  by_cases h1 : mayP v l = false ∨ p < 0 ∨ 65535 < p
  · exact .inl ⟨1, by decide, by unfold bindP; rw [if_pos h1]⟩
  by_cases h2 : justP t.bs v l p ≠ 0
  · exact .inl ⟨200, by decide, by unfold bindP; rw [if_neg h1, if_pos h2]⟩
  by_cases h3 : (t.bs.length : Int) = t.most
  · exact .inl ⟨201, by decide, by unfold bindP; rw [if_neg h1, if_neg h2, if_pos h3]⟩
  refine .inr ⟨if p = 0 then freeP t.bs v l else p, ?_, ?_, fun n => ?_⟩
  · unfold bindP Tb.plus; rw [if_neg h1, if_neg h2, if_neg h3]
  · split
    · exact (freeP_is h v l).2.2.1
    · simpa using h2
  · unfold bindP Tb.plus Tb.at; rw [if_neg h1, if_neg h2, if_neg h3]
theorem idx_snoc {f : Bd → Bool} {bs : List Bd} {x : Bd} (hn : idxP f bs = none) (hx : f x = true) : idxP f (bs ++ [x]) = some bs.length := by
  refine idx_some (by simp) hx (fun j z hj hz => ?_)
  rw [List.getElem?_append_left hj] at hz
  exact idx_not hn z (List.mem_of_getElem? hz)
theorem idx_zero {t : Tb} (h : WfT t) {v : Int} {l : List Int} {p : Int} (hj : justP t.bs v l p = 0) : idxP (hit v l p) t.bs = none := by
  cases hi : idxP (hit v l p) t.bs with
  | none => rfl
  | some k => exact absurd hj (justP_some h hi).1
theorem num_none {t : Tb} (h : WfT t) {n : Int} (hn : t.last < n ∨ n < 1) : idxP (isN n) t.bs = none :=
  idx_none (fun j z hz => by have := h.num z (List.mem_of_getElem? hz); simp [isN]; omega)
section
variable {t : Tb} (h : WfT t) (v : Int) (l : List Int) (P : Int)
include h
theorem plus_at : atP (t.plus v l P) (t.last + 1) = (v, l, P, 0) := by
  unfold atP Tb.plus
  simp only
  rw [idx_snoc (num_none h (.inl (by omega))) (by simp [isN])]
  simp
theorem plus_find (hj : justP t.bs v l P = 0) : findP (t.plus v l P).bs v l P = t.last + 1 := by
  have h1 : justP (t.plus v l P).bs v l P = t.last + 1 := by
    unfold justP Tb.plus
    simp only
    rw [idx_snoc (idx_zero h hj) (hit_iff.2 ⟨rfl, rfl, rfl⟩)]
    simp [numAt]
  unfold findP
  have := h.l0
  rw [h1, if_neg (by omega)]
theorem plus_close : closeP (t.plus v l P) (t.last + 1) = (0, t.at (t.last + 1)) := by
  unfold closeP Tb.plus Tb.at
  simp only
  rw [idx_snoc (num_none h (.inl (by omega))) (by simp [isN])]
  simp [List.eraseIdx_append_of_length_le]
theorem gone_at : atP (t.at (t.last + 1)) (t.last + 1) = (0, z16, 0, 1) := by
  unfold atP Tb.at
  simp only
  rw [num_none h (.inl (by omega))]
theorem gone_close : closeP ((t.at (t.last + 1)).plus v l P) (t.last + 1) = (1, (t.at (t.last + 1)).plus v l P) := by
  have : idxP (isN (t.last + 1)) ((t.at (t.last + 1)).plus v l P).bs = none := by
    refine idx_none (fun j z hz => ?_)
    have hm := List.mem_of_getElem? hz
    simp only [Tb.plus, Tb.at, List.mem_append, List.mem_singleton] at hm
    rcases hm with h1 | h1
    · have := h.num z h1; simp [isN]; omega
    · subst h1; simp [isN]; omega
  unfold closeP
  rw [this]
end
theorem view_o {o : Nat → Nat} {k : Nat} {w : World} {g : Nat} {t : Tb} (h : KB.Ow o k w g t) (j : Nat) (sa : Option Addr) (l : List Opr) (cap : Nat) (hr : RowO w sa l) (hl : l.length ≤ 2932031007402) :
    Calls Try.prog 18 #[.pointer (some ⟨g, 0, none⟩), .slice sa l.length cap] w fun E w' => ∃ r, E = .returned r ∧ Li (give o w j) j w' r (viewP t.bs l) ∧ Away [] w w' := by
  obtain ⟨v, h1, h2, h3⟩ := h
  refine (view_c h1 sa l cap hr hl).mono ?_
  rintro E w' ⟨r, rfl, hl, hn, ha⟩
  exact ⟨r, rfl, Li.new j hl hn, ha⟩
theorem view_len {t : Tb} (h : WfT t) (l : List Opr) (hl : l.length ≤ 2932031007402) : (viewP t.bs l).length ≤ 17592186044416 := by
  have h1 := h.le
  have h2 : (t.bs.flatMap five).length = 5 * t.bs.length := by
    rw [List.length_flatMap]
    generalize t.bs = q
    induction q with
    | nil => rfl
    | cons a r ih => simp only [List.map_cons, List.sum_cons, ih, List.length_cons]; show 5 + _ = _; omega
  simp only [viewP, List.length_append, List.length_map, h2]
  omega
theorem rowAt_on {w w' : World} {g : Nat} {cs : Array Value} (h : rowAt w g = some cs) (hw : Away [] w w') : rowAt w' g = some cs := rowAt_below h hw.to_below (rowAt_lt h)
theorem wpList_loadR {ops : Array Oper} {rest : List Oper} {o : Oper} {a : Act} {w : World} {Q : Exit → Act → World → Prop} (hw : Region.wanted o (yielded ops a.tmps) = true) (x : Operand) (ho : o.op = .load 32 x)
    (g : Nat) (hx : a.eval x = .pointer (some ⟨g, 0, none⟩)) (cs : Array Value) (hr : rowAt w g = some cs) (h : wpList Try.prog ops Q rest (a.put o.dst (.agg cs)) w) : wpList Try.prog ops Q (o :: rest) a w := wpList_load24 hw x ho g hx cs hr h
end Go.Proofs.Ytemdgggpfadecaa
