/-
  Two pairs of sources in two variables.
-/
import Derived.Test.YtepbgigoekpdeaaLot
namespace Go.Proofs.Ytepbgigoekpdeaa
open Go.ChangeShapes Go.WideShapes Go.ChangeAt Go.RowKit Go.Deep
set_option linter.unusedVariables false

abbrev Pr := Option (Rc × Nat × Value)
def ptrA : Pr → Value
  | none => .pointer none
  | some (r, _, _) => .pointer (some ⟨r.g, 0, none⟩)
def ptrR : Pr → Value
  | none => .pointer none
  | some (_, rg, _) => .pointer (some ⟨rg, 0, none⟩)
def objs : Pr → List Ob
  | none => []
  | some (r, rg, rv) => [obP r, obR rg rv r.sp r.li r.G]
def small (n : Nat) : Pr → Prop
  | none => True
  | some (r, _, _) => r.G.length ≤ n
theorem small.mono {n m : Nat} {x : Pr} (h : small n x) (hm : n ≤ m) : small m x := by
  rcases x with _ | ⟨r, rg, rv⟩
  · trivial
  · exact Nat.le_trans h hm
def obsA (A t : Nat) (x y : Pr) : Ob := if t = 0 then obA A 44 (ptrA x) (ptrA y) else obA A 44 (ptrA y) (ptrA x)
def obsR (R t : Nat) (x y : Pr) : Ob := if t = 0 then obA R 46 (ptrR x) (ptrR y) else obA R 46 (ptrR y) (ptrR x)
def St (B w : World) (A R t : Nat) (x y : Pr) : Prop := Lot B w (obsA A t x y :: obsR R t x y :: (objs x ++ objs y))
theorem St.on {B w w' : World} {A R t : Nat} {x y : Pr} (h : St B w A R t x y) (hw : Away [] w w') : St B w' A R t x y := Lot.on h hw
theorem two {t : Nat} (h : t < 2) : t = 0 ∨ t = 1 := by omega
theorem St.swap {B w : World} {A R t : Nat} {x y : Pr} (h : St B w A R t x y) (ht : t < 2) : St B w A R (1 - t) y x := by
  have e1 : obsA A (1 - t) y x = obsA A t x y := by rcases two ht with rfl | rfl <;> simp [obsA]
  have e2 : obsR R (1 - t) y x = obsR R t x y := by rcases two ht with rfl | rfl <;> simp [obsR]
  unfold St
  rw [e1, e2]
  exact Lot.perm h (.cons _ (.cons _ List.perm_append_comm))
theorem St.blkA {B w : World} {A R t : Nat} {x y : Pr} (h : St B w A R t x y) (ht : t < 2) : ∃ p q, w.heap[A]? = some (.cells #[p, q] 44 (0, 0)) ∧ #[p, q][t]? = some (ptrA x) := by
  have := Lot.head h
  rcases two ht with rfl | rfl
  · exact ⟨_, _, this, rfl⟩
  · exact ⟨_, _, this, rfl⟩
theorem St.blkR {B w : World} {A R t : Nat} {x y : Pr} (h : St B w A R t x y) (ht : t < 2) : ∃ p q, w.heap[R]? = some (.cells #[p, q] 46 (0, 0)) ∧ #[p, q][t]? = some (ptrR x) := by
  have := h.ok (obsR R t x y) (by simp)
  rcases two ht with rfl | rfl
  · exact ⟨_, _, this, rfl⟩
  · exact ⟨_, _, this, rfl⟩
theorem St.cellA {B w : World} {A R t : Nat} {x y : Pr} (h : St B w A R t x y) (ht : t < 2) : w.cell? ⟨A, t, none⟩ = some (ptrA x) ∧ w.frozen? ⟨A, t, none⟩ = false := by
  obtain ⟨p, q, h1, h2⟩ := h.blkA ht
  exact ⟨by rw [cell_of_block h1, h2], free_of_block h1 t⟩
theorem St.cellR {B w : World} {A R t : Nat} {x y : Pr} (h : St B w A R t x y) (ht : t < 2) : w.cell? ⟨R, t, none⟩ = some (ptrR x) ∧ w.frozen? ⟨R, t, none⟩ = false := by
  obtain ⟨p, q, h1, h2⟩ := h.blkR ht
  exact ⟨by rw [cell_of_block h1, h2], free_of_block h1 t⟩
theorem fineObsA (A t : Nat) (x y : Pr) : (obsA A t x y).Fine := by unfold obsA; split <;> exact fineA _ _ _ _
theorem fineObsR (R t : Nat) (x y : Pr) : (obsR R t x y).Fine := by unfold obsR; split <;> exact fineA _ _ _ _
theorem ftA (A t : Nat) (x y : Pr) : (obsA A t x y).ft = [A] := by unfold obsA; split <;> rfl
theorem ftR (R t : Nat) (x y : Pr) : (obsR R t x y).ft = [R] := by unfold obsR; split <;> rfl
theorem setA {w : World} {A t : Nat} {x x' y : Pr} (h : (obsA A t x y).ok w) (ht : t < 2) : (obsA A t x' y).ok (w.setCell ⟨A, t, none⟩ (ptrA x')) := by
  rcases two ht with rfl | rfl
  · have h : w.heap[A]? = some (.cells #[ptrA x, ptrA y] 44 (0, 0)) := h
    show (w.setCell ⟨A, 0, none⟩ (ptrA x')).heap[A]? = some (.cells #[ptrA x', ptrA y] 44 (0, 0))
    rw [block_set h]; rfl
  · have h : w.heap[A]? = some (.cells #[ptrA y, ptrA x] 44 (0, 0)) := h
    show (w.setCell ⟨A, 1, none⟩ (ptrA x')).heap[A]? = some (.cells #[ptrA y, ptrA x'] 44 (0, 0))
    rw [block_set h]; rfl
theorem setR {w : World} {A t : Nat} {x x' y : Pr} (h : (obsR A t x y).ok w) (ht : t < 2) : (obsR A t x' y).ok (w.setCell ⟨A, t, none⟩ (ptrR x')) := by
  rcases two ht with rfl | rfl
  · have h : w.heap[A]? = some (.cells #[ptrR x, ptrR y] 46 (0, 0)) := h
    show (w.setCell ⟨A, 0, none⟩ (ptrR x')).heap[A]? = some (.cells #[ptrR x', ptrR y] 46 (0, 0))
    rw [block_set h]; rfl
  · have h : w.heap[A]? = some (.cells #[ptrR y, ptrR x] 46 (0, 0)) := h
    show (w.setCell ⟨A, 1, none⟩ (ptrR x')).heap[A]? = some (.cells #[ptrR y, ptrR x'] 46 (0, 0))
    rw [block_set h]; rfl
/-- A new pair, behind the two that were. -/
theorem St.renew {B w w1 w2 : World} {A R t : Nat} {x y : Pr} {g c rg : Nat} {sp li : Int} (h : St B w A R t x y) (ht : t < 2) (hf : Fresh w w1 g c sp li) (hr : Rf w2 rg (.slice none 0 0) sp li []) (hrg : w1.heap.size ≤ rg) (hw2 : Away [] w1 w2) :
    St B ((w2.setCell ⟨A, t, none⟩ (.pointer (some ⟨g, 0, none⟩))).setCell ⟨R, t, none⟩ (.pointer (some ⟨rg, 0, none⟩))) A R t (some (⟨g, c, .slice none 0 0, sp, li, []⟩, rg, .slice none 0 0)) y := by
  obtain ⟨f1, f2, f3, f4⟩ := hf
  have L1 : Lot B w1 (obP ⟨g, c, .slice none 0 0, sp, li, []⟩ :: obsA A t x y :: obsR R t x y :: (objs x ++ objs y)) :=
    Lot.add h (fineP _) f1 f4 (fun k hk => by
      simp [obP, Rc.ft, Value.ownBlock] at hk
      rcases hk with rfl | rfl <;> assumption)
  have L2 : Lot B w2 (obR rg (.slice none 0 0) sp li [] :: obP ⟨g, c, .slice none 0 0, sp, li, []⟩ :: obsA A t x y :: obsR R t x y :: (objs x ++ objs y)) :=
    Lot.add L1 (fineR _ _ _ _ _) hr hw2 (fun k hk => by
      simp [obR, fp, Value.ownBlock] at hk
      subst hk
      assumption)
  have L3 := L2.perm (m := obsA A t x y :: obR rg (.slice none 0 0) sp li [] :: obP ⟨g, c, .slice none 0 0, sp, li, []⟩ :: obsR R t x y :: (objs x ++ objs y)) (by
    refine (List.Perm.cons _ (List.Perm.swap _ _ _)).trans (List.Perm.swap _ _ _))
  have L4 := L3.turn (p := obsA A t (some (⟨g, c, .slice none 0 0, sp, li, []⟩, rg, .slice none 0 0)) y) (w' := w2.setCell ⟨A, t, none⟩ (.pointer (some ⟨g, 0, none⟩))) (S := [A]) (fineObsA _ _ _ _) (setA L3.head ht) ((Away.refl [A] w2).setCell (.inl (by simp)) _) (fun x hx => by rw [ftA]; exact hx) (fun x hx => by rw [ftA] at hx ⊢; exact .inl hx)
  have L5 := L4.perm (m := obsR R t x y :: obsA A t (some (⟨g, c, .slice none 0 0, sp, li, []⟩, rg, .slice none 0 0)) y :: obR rg (.slice none 0 0) sp li [] :: obP ⟨g, c, .slice none 0 0, sp, li, []⟩ :: (objs x ++ objs y)) (by
    refine ((List.Perm.cons _ (List.Perm.cons _ (List.Perm.swap _ _ _))).trans (List.Perm.cons _ (List.Perm.swap _ _ _))).trans (List.Perm.swap _ _ _))
  have L6 := L5.turn (p := obsR R t (some (⟨g, c, .slice none 0 0, sp, li, []⟩, rg, .slice none 0 0)) y) (w' := (w2.setCell ⟨A, t, none⟩ (.pointer (some ⟨g, 0, none⟩))).setCell ⟨R, t, none⟩ (.pointer (some ⟨rg, 0, none⟩))) (S := [R]) (fineObsR _ _ _ _) (setR L5.head ht) ((Away.refl [R] _).setCell (.inl (by simp)) _) (fun x hx => by rw [ftR]; exact hx) (fun x hx => by rw [ftR] at hx ⊢; exact .inl hx)
  have drop : ∀ {w : World} (l m : List Ob), Lot B w (l ++ m) → Lot B w m := by
    intro w l
    induction l with
    | nil => intro m h; exact h
    | cons o r ih => intro m h; exact ih m h.less
  refine drop (objs x) _ (L6.perm ?_)
  unfold St at *
  simp only [objs]
  refine List.Perm.trans ?_ (List.perm_append_comm)
  simp only [List.cons_append, List.nil_append]
  refine (List.Perm.swap _ _ _).trans (.cons _ (.cons _ ?_))
  refine (List.Perm.swap _ _ _).trans (.cons _ (.cons _ ?_))
  exact List.perm_append_comm
/-- The pair at t was asked. -/
theorem St.asked {B w w1 w2 : World} {A R t : Nat} {y : Pr} {r : Rc} {rg : Nat} {rv : Value} {G : List Int} (h : St B w A R t (some (r, rg, rv)) y) (ha : Asked w w1 r.g r.c r.v r.sp r.li G) :
    ∃ v', Lot B w1 (obR rg rv r.sp r.li r.G :: obP ⟨r.g, r.c, v', r.sp, r.li, G⟩ :: obsA A t (some (r, rg, rv)) y :: obsR R t (some (r, rg, rv)) y :: objs y) := by
  have L1 : Lot B w (obP r :: obR rg rv r.sp r.li r.G :: obsA A t (some (r, rg, rv)) y :: obsR R t (some (r, rg, rv)) y :: objs y) := Lot.perm h (by
    simp only [objs, List.cons_append, List.nil_append]
    refine (List.Perm.cons _ (List.Perm.swap _ _ _)).trans ?_
    refine (List.Perm.swap _ _ _).trans (.cons _ ?_)
    refine (List.Perm.cons _ (List.Perm.swap _ _ _)).trans ?_
    exact List.Perm.swap _ _ _)
  obtain ⟨v', L2⟩ := L1.askP ha
  exact ⟨v', L2.perm (List.Perm.swap _ _ _)⟩
theorem St.back {B w : World} {A R t : Nat} {y : Pr} {r : Rc} {rg : Nat} {rv rv' v' : Value} {G : List Int}
    (h : Lot B w (obR rg rv' r.sp r.li G :: obP ⟨r.g, r.c, v', r.sp, r.li, G⟩ :: obsA A t (some (r, rg, rv)) y :: obsR R t (some (r, rg, rv)) y :: objs y)) :
    St B w A R t (some (⟨r.g, r.c, v', r.sp, r.li, G⟩, rg, rv')) y := by
  have e1 : obsA A t (some (⟨r.g, r.c, v', r.sp, r.li, G⟩, rg, rv')) y = obsA A t (some (r, rg, rv)) y := rfl
  have e2 : obsR R t (some (⟨r.g, r.c, v', r.sp, r.li, G⟩, rg, rv')) y = obsR R t (some (r, rg, rv)) y := rfl
  unfold St
  rw [e1, e2]
  refine h.perm ?_
  simp only [objs, List.cons_append, List.nil_append]
  refine (List.Perm.swap _ _ _).trans ?_
  refine (List.Perm.cons _ (List.Perm.swap _ _ _)).trans ?_
  refine (List.Perm.swap _ _ _).trans (.cons _ ?_)
  refine (List.Perm.cons _ (List.Perm.swap _ _ _)).trans ?_
  exact (List.Perm.swap _ _ _)
#print axioms St.renew
end Go.Proofs.Ytepbgigoekpdeaa
