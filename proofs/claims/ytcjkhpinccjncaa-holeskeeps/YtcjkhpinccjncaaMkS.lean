/-
  For marked: a span written over; lists full of a mark.
-/
import Derived.Test.YtcjkhpinccjncaaMkV
namespace Go.Proofs.Ytcjkhpinccjncaa
open Go.ChangeShapes Go.WideShapes Go.ChangeAt Go.RowKit
set_option linter.unusedVariables false
set_option linter.unusedSimpArgs false

theorem flat_put : ∀ (l : List Sp) (k : Nat) (x : Sp), k < l.length → ((l.flatMap encS).set (k * 2) (.int .i64 x.1)).set (k * 2 + 1) (.int .i64 x.2) = (l.set k x).flatMap encS
  | y :: r, 0, x, h => by simp [encS]
  | y :: r, k + 1, x, h => by
    have := flat_put r k x (by simpa using h)
    rw [show (k + 1) * 2 = k * 2 + 1 + 1 from by omega, show k * 2 + 1 + 1 + 1 = (k * 2 + 1) + 1 + 1 from by omega]
    simp only [List.flatMap_cons, encS, List.cons_append, List.nil_append, List.set_cons_succ]
    rw [this]
/-- A span written over. -/
theorem Lst.put {w : World} {g n cap k : Nat} {l : List Sp} (h : Lst w (.slice (some ⟨g, 0, none⟩) n cap) l) (hk : k < n) (x : Sp) :
    Lst ((w.setCell ⟨g, k * 2, none⟩ (.int .i64 x.1)).setCell ⟨g, k * 2 + 1, none⟩ (.int .i64 x.2)) (.slice (some ⟨g, 0, none⟩) n cap) (l.set k x) := by
  obtain ⟨cur, hb, hcm, hnc, ht, hln⟩ := h.blk
  have b1 := block_set hb.1 (k * 2) (.int .i64 x.1)
  have b2 := block_set b1 (k * 2 + 1) (.int .i64 x.2)
  simp only [List.setIfInBounds_toArray] at b2
  refine (show Blk _ g cap ((cur.set (k * 2) (.int .i64 x.1)).set (k * 2 + 1) (.int .i64 x.2)) from ⟨b2, by simpa using hb.2⟩).lst hcm (by simpa using hln) hnc ?_
  rw [List.take_set, List.take_set, ht, flat_put l k x (by omega)]
theorem away_put {w : World} {g k : Nat} (x : Sp) : Away [g] w ((w.setCell ⟨g, k * 2, none⟩ (.int .i64 x.1)).setCell ⟨g, k * 2 + 1, none⟩ (.int .i64 x.2)) := ((Away.refl [g] w).setCell (.inl (by simp)) _).setCell (.inl (by simp)) _
/-- Written full as far as k. -/
def fillP (x : Sp) (k : Nat) (l : List Sp) : List Sp := List.replicate k x ++ l.drop k
theorem fill_zero (x : Sp) (l : List Sp) : fillP x 0 l = l := by simp [fillP]
theorem fill_len {x : Sp} {k : Nat} {l : List Sp} (h : k ≤ l.length) : (fillP x k l).length = l.length := by simp [fillP]; omega
theorem fill_step {x : Sp} {k : Nat} {l : List Sp} (h : k < l.length) : (fillP x k l).set k x = fillP x (k + 1) l := by
  unfold fillP
  rw [List.set_append_right _ _ (by simp), List.length_replicate, Nat.sub_self, List.drop_eq_getElem_cons h, List.set_cons_zero, List.replicate_succ', List.append_assoc]
  rfl
theorem fill_all {x : Sp} {l : List Sp} {n : Nat} (h : l.length = n) : fillP x n l = List.replicate n x := by
  unfold fillP; rw [List.drop_of_length_le (by omega), List.append_nil]
end Go.Proofs.Ytcjkhpinccjncaa
