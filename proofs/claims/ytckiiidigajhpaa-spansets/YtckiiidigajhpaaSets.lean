/-
  SpanSets, the plain part.
-/
import Derived.Test.YtckiiidigajhpaaNear
namespace Go.Proofs.Ytckiiidigajhpaa
set_option linter.unusedVariables false

/-- s without the spans m. -/
def leftP (s : Sp) : List Sp → List Sp
  | m => m.foldl cutP [s]
theorem one_right {s : Sp} (hs : Is s) : rightP [s] = true := by
  unfold rightP
  rw [rf_cons]
  have := hs
  unfold Is at this
  exact ⟨hs, by omega, rfl⟩
theorem one_of {s : Sp} (hs : Is s) : Of [s] (inS s) := ⟨one_right hs, fun n => by simp [inB]⟩
theorem left_of : ∀ (m l : List Sp) (f : Int → Bool), Of l f → (∀ x ∈ m, Is x) → Of (m.foldl cutP l) (fun n => f n && !inB m n)
  | [], l, f, h, hm => ⟨h.right, fun n => by show inB l n = _; rw [h.has]; simp [inB]⟩
  | x :: r, l, f, h, hm => by
    have h1 := cut_of h.right (hm x (by simp))
    have h2 := left_of r (cutP l x) (fun n => inB l n && !inS x n) h1 (fun y hy => hm y (by simp [hy]))
    refine ⟨h2.right, fun n => ?_⟩
    show inB (r.foldl cutP (cutP l x)) n = _
    rw [h2.has, h.has, inB_cons]
    cases f n <;> cases inS x n <;> cases inB r n <;> rfl
theorem left_s {s : Sp} {m : List Sp} (hs : Is s) (hm : rightP m = true) : Of (leftP s m) (fun n => inS s n && !inB m n) := left_of m [s] (inS s) (one_of hs) (allIs_iff.1 (right_all hm))
theorem left_snoc {s : Sp} {m : List Sp} {k : Nat} {x : Sp} (h : m[k]? = some x) : leftP s (m.take (k + 1)) = cutP (leftP s (m.take k)) x := by
  unfold leftP
  rw [take_snoc h, List.foldl_append]; rfl
theorem right_take {m : List Sp} (h : rightP m = true) (k : Nat) : rightP (m.take k) = true := by
  unfold rightP at h ⊢
  have := h
  rw [← List.take_append_drop k m, rf_append, Bool.and_eq_true] at this
  exact this.1
/-- Has by what is left. -/
theorem has_left {s : Sp} {m : List Sp} (hs : Is s) (hm : rightP m = true) : hasP m s = decide ((leftP s m).length = 0) := by
  rw [Bool.eq_iff_iff, has_iff hm hs, decide_eq_true_eq]
  have hl := left_s hs hm
  constructor
  · intro h
    have : leftP s m = [] := by
      refine Of.uniq hl ⟨rfl, fun n => ?_⟩
      rw [inB_nil]
      cases hn : inS s n
      · rfl
      · rw [h n hn]; rfl
    rw [this]; rfl
  · intro h n hn
    have e : leftP s m = [] := List.eq_nil_of_length_eq_zero h
    have := hl.has n
    rw [e, inB_nil, hn] at this
    simpa using this.symm
/-- Meets by Cut. -/
theorem meets_cut {s : Sp} {m : List Sp} (hs : Is s) (hm : rightP m = true) : meetsP m s = !decide (cutP m s = m) := by
  have hc := cut_of hm hs
  rw [Bool.eq_iff_iff, meets_iff]
  simp only [Bool.not_eq_true', decide_eq_false_iff_not]
  constructor
  · rintro ⟨n, h1, h2⟩ e
    have := hc.has n
    rw [e, h2, h1] at this
    simp at this
  · intro h
    apply Classical.byContradiction
    intro hno
    refine h (Of.uniq hc ⟨hm, fun n => ?_⟩)
    cases hb : inB m n
    · rfl
    · cases hi : inS s n
      · rfl
      · exact absurd ⟨n, hi, hb⟩ hno
/-- The numbers of Add. -/
theorem add_size {s : Sp} {m : List Sp} (hs : Is s) (hm : rightP m = true) : sizeP (addP m s) = sizeP m + sizeP (leftP s m) := by
  have ha := add_of hm hs
  have hl := left_s hs hm
  rw [size_cnt ha.right, size_cnt hm, size_cnt hl.right, ← cnt_or (inB m) (inB (leftP s m)) 65535 (fun n hn => by rw [hl.has, hn]; simp)]
  refine cnt_congr (fun n _ => ?_)
  rw [ha.has, hl.has]
  cases inB m n <;> cases inS s n <;> rfl
theorem size_bound {l : List Sp} (h : rightP l = true) : 0 ≤ sizeP l ∧ sizeP l ≤ 65535 := by
  rw [size_cnt h]
  have : ∀ (f : Int → Bool) (N : Nat), 0 ≤ cnt f N ∧ cnt f N ≤ N := by
    intro f N
    induction N with
    | zero => simp [cnt]
    | succ N ih => unfold cnt; split <;> omega
  have := this (inB l) 65535
  omega
#print axioms add_size
end Go.Proofs.Ytckiiidigajhpaa
