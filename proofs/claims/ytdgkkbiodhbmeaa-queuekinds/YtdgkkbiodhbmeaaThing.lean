/-
  Things that wait, with their sizes.
-/
import Derived.Test.YtdgkkbiodhbmeaaBase
namespace Go.Proofs.Ytdgkkbiodhbmeaa
open Go.ChangeShapes Go.WideShapes Go.ChangeAt Go.RowKit
set_option linter.unusedVariables false

theorem Away.setRow {S : List Nat} {a w : World} (h : Away S a w) {g : Nat} (hg : g ∈ S ∨ a.heap.size ≤ g) (c : Array Value) : Away S a (w.setRow g c) :=
  ⟨h.os, h.tape, h.output, by simpa [World.setRow] using h.size, fun i hi hn => by
    have : i ≠ g := fun e => by subst e; rcases hg with h | h; exact hn h; omega
    rw [← h.block i hi hn]
    simp [World.setRow, Array.getElem?_modify]
    intro e; exact absurd e.symm this⟩
/-- A thing: its cells, and its size. -/
structure Th where
  x : List Value
  n : Int
def sumT (L : List Th) : Int := (L.map Th.n).foldr (· + ·) 0
theorem sumT_nil : sumT [] = 0 := rfl
theorem sumT_cons (t : Th) (L : List Th) : sumT (t :: L) = t.n + sumT L := rfl
theorem sumT_snoc (L : List Th) (t : Th) : sumT (L ++ [t]) = sumT L + t.n := by
  induction L with
  | nil => simp [sumT]
  | cons a r ih => rw [List.cons_append, sumT_cons, ih, sumT_cons]; omega
theorem sumT_pos {L : List Th} (h : ∀ t ∈ L, 0 ≤ t.n) : 0 ≤ sumT L := by
  induction L with
  | nil => simp [sumT]
  | cons a r ih => rw [sumT_cons]; have h1 := ih (fun t ht => h t (by simp [ht])); have h2 := h a (by simp); omega
/-- Is there room for one of size n? -/
def roomP (c b : Int) (L : List Th) (n : Int) : Bool := decide ((L.length : Int) < c ∧ n ≤ b - sumT L)
/-- The bounds hold. -/
structure Bnd (c b : Int) (L : List Th) : Prop where
  c0 : 0 ≤ c
  c1 : c ≤ 64
  b0 : 0 ≤ b
  b1 : b ≤ 9223372036854775807
  len : (L.length : Int) ≤ c
  sum : sumT L ≤ b
  pos : ∀ t ∈ L, 0 ≤ t.n
theorem Bnd.nil {c b : Int} (c0 : 0 ≤ c) (c1 : c ≤ 64) (b0 : 0 ≤ b) (b1 : b ≤ 9223372036854775807) : Bnd c b [] := ⟨c0, c1, b0, b1, by simpa using c0, by simpa [sumT] using b0, by simp⟩
theorem Bnd.push {c b : Int} {L : List Th} (h : Bnd c b L) {t : Th} (ht : 0 ≤ t.n) (hr : roomP c b L t.n = true) : Bnd c b (L ++ [t]) := by
  have h1 := of_decide_eq_true hr
  refine ⟨h.c0, h.c1, h.b0, h.b1, by simp; omega, by rw [sumT_snoc]; omega, fun u hu => ?_⟩
  rcases List.mem_append.1 hu with h2 | h2
  · exact h.pos u h2
  · simp at h2; subst h2; exact ht
theorem Bnd.pop {c b : Int} {t : Th} {L : List Th} (h : Bnd c b (t :: L)) : Bnd c b L := by
  have h1 := h.len
  have h2 := h.sum
  rw [sumT_cons] at h2
  have h3 := h.pos t (by simp)
  exact ⟨h.c0, h.c1, h.b0, h.b1, by simp at h1; omega, by omega, fun u hu => h.pos u (by simp [hu])⟩
theorem Bnd.ten {c b : Int} {L : List Th} (h : Bnd c b L) : L.length ≤ 64 := by have h1 := h.len; have h2 := h.c1; omega

theorem new_cells (w : World) (cs : Array Value) (t : TypeId) (j : Nat) : (w.alloc (.cells cs t)).cell? ((⟨w.heap.size, 0, none⟩ : Addr).add j) = cs[j]? := by
  rw [add_plain, Nat.zero_add, cell_of_block (block_new w _)]

/-! A function is nil, or is not. -/
theorem eqF {t : Nat} (ht : t = 26 ∨ t = 64 ∨ t = 44 ∨ t = 55 ∨ t = 68) (ρ : Operand → Value) (o : Oper) (x : Operand) (ho : o.op = .binOp .eql t x (.const .nilFunc) t) (F : Nat) (hx : ρ x = .func (.func F) #[] #[]) (hc : ρ (.const .nilFunc) = .nilFunc) (w : World) : (execOp ρ o).run Try.prog w = .ok (.value (.bool false)) w := by
  unfold execOp
  rw [ho]
  simp only [hx, hc]
  rcases ht with rfl | rfl | rfl | rfl | rfl <;> kernel_rfl
theorem eqN {t : Nat} (ht : t = 26 ∨ t = 64 ∨ t = 44 ∨ t = 55 ∨ t = 68) (ρ : Operand → Value) (o : Oper) (x : Operand) (ho : o.op = .binOp .eql t x (.const .nilFunc) t) (hx : ρ x = .nilFunc) (hc : ρ (.const .nilFunc) = .nilFunc) (w : World) : (execOp ρ o).run Try.prog w = .ok (.value (.bool true)) w := by
  unfold execOp
  rw [ho]
  simp only [hx, hc]
  rcases ht with rfl | rfl | rfl | rfl | rfl <;> kernel_rfl
theorem wpList_eqF {w : World} {ops : Array Oper} {rest : List Oper} {o : Oper} {a : Act} {Q : Exit → Act → World → Prop} (hw : Region.wanted o (yielded ops a.tmps) = true) {t : Nat} (ht : t = 26 ∨ t = 64 ∨ t = 44 ∨ t = 55 ∨ t = 68) (x : Operand) (ho : o.op = .binOp .eql t x (.const .nilFunc) t) (F : Nat) (hx : a.eval x = .func (.func F) #[] #[])
    (h : wpList Try.prog ops Q rest (a.put o.dst (.bool false)) w) : wpList Try.prog ops Q (o :: rest) a w :=
  BigFrame.wpList_want hw fun K hK => by
    unfold Oper.wp
    rw [eqF ht a.eval o x ho F hx rfl w]
    exact hK _ _ h
theorem wpList_eqN {w : World} {ops : Array Oper} {rest : List Oper} {o : Oper} {a : Act} {Q : Exit → Act → World → Prop} (hw : Region.wanted o (yielded ops a.tmps) = true) {t : Nat} (ht : t = 26 ∨ t = 64 ∨ t = 44 ∨ t = 55 ∨ t = 68) (x : Operand) (ho : o.op = .binOp .eql t x (.const .nilFunc) t) (hx : a.eval x = .nilFunc)
    (h : wpList Try.prog ops Q rest (a.put o.dst (.bool true)) w) : wpList Try.prog ops Q (o :: rest) a w :=
  BigFrame.wpList_want hw fun K hK => by
    unfold Oper.wp
    rw [eqN ht a.eval o x ho hx rfl w]
    exact hK _ _ h
end Go.Proofs.Ytdgkkbiodhbmeaa
