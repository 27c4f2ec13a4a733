/-
  The document's Is, plainly.
-/
import Derived.Test.YtbnnfbfmomafnaaDoorDc5
namespace Go.Proofs.YtbnnfbfmomafnaaDoor
open Go.ChangeShapes Go.WideShapes Go.ChangeAt Go.RowKit Num
set_option linter.unusedVariables false
set_option linter.unusedSimpArgs false

theorem dP_iff {p q : Pk} : dP p q = true ↔ p = q := ⟨fun h => @of_decide_eq_true _ (pkDec p q) h, fun h => @decide_eq_true _ (pkDec p q) h⟩
/-- The document's loop. -/
def docR (p : Pk) (m id : Int) : Nat → List Pk → Bool
  | n, [] => decide (n = p.d.length)
  | n, q :: r => (decide (n + q.d.length ≤ p.d.length) && decide (q.d.length ≠ 0) && rgtP q && dP q (pcD p n (n + q.d.length) id) && decide (hdD q + (q.d.length : Int) ≤ m) && (decide (n + q.d.length < p.d.length) == !r.isEmpty)) && docR p m id (n + q.d.length) r
theorem hdD_right {q : Pk} (h : rgtP q = true) : hdD q = (topP q : Int) := by
  unfold rgtP at h
  unfold hdD topP S6.hofP
  by_cases hv : q.v = 6
  · rw [if_neg (by omega), if_pos hv]; split <;> rfl
  · rw [if_neg hv, right_iff] at h
    rw [if_pos h.1.v, if_neg hv]; push_cast; rfl
theorem right_mn {q : Pk} (h : rgtP q = true) (hm : q.more = true ∨ 0 < q.off) : q.d.length ≠ 0 := by
  unfold rgtP at h
  by_cases hv : q.v = 6
  · rw [if_pos hv, S6.right_iff] at h
    exact h.mn hm
  · rw [if_neg hv, right_iff] at h
    have hf := h.1
    rcases hm with h1 | h1
    · exact hf.m0 h1
    · exact hf.f0 h1
theorem doc_part {p : Pk} (h : Unc p) (hw : Wf p) {m id : Int} : ∀ (l : List Pk) (n : Nat), n ≤ p.d.length → (0 < n ∨ 2 ≤ l.length) → docR p m id n l = partP p m (latP p id) (frmD p id n) n l := by
  intro l
  induction l with
  | nil => intro n _ _; rfl
  | cons q r ih =>
    intro n hn hc
    have hpe : ∀ t, n + q.d.length = t → pcD p n t id = plcP (frmD p id n) n ((p.d.drop n).take q.d.length) (decide (t < p.d.length)) := fun t ht => by
      rw [pcD_eq h]
      have : t - n = q.d.length := by omega
      rw [this]
    rw [Bool.eq_iff_iff]
    unfold docR partP
    simp only [Bool.and_eq_true, decide_eq_true_eq, dP_iff, fits_iff, beq_iff_eq]
    constructor
    · rintro ⟨⟨⟨⟨⟨⟨h1, h2⟩, h3⟩, h4⟩, h5⟩, h6⟩, h7⟩
      have e := ih (n + q.d.length) h1 (.inl (by omega))
      have ef : frmD p id (n + q.d.length) = latP p id := by unfold frmD; rw [if_neg (by omega)]
      rw [ef] at e
      rw [hdD_right h3] at h5
      refine ⟨⟨⟨⟨h3, by push_cast; omega⟩, h1⟩, ?_⟩, by rw [← e]; exact h7⟩
      rw [h4, hpe _ rfl]
      have hl : ((plcP (frmD p id n) n ((p.d.drop n).take q.d.length) (decide (n + q.d.length < p.d.length))).d.length) = q.d.length := by
        show ((p.d.drop n).take q.d.length).length = _
        rw [List.length_take, List.length_drop]; omega
      rw [hl, h6]
    · rintro ⟨⟨⟨⟨h3, h5⟩, h1⟩, h4⟩, h7⟩
      have hq0 : q.d.length ≠ 0 := by
        refine right_mn h3 ?_
        rw [h4]
        show (!r.isEmpty) = true ∨ (0 : Int) < (n : Int)
        rcases hc with hc | hc
        · right; omega
        · left
          cases r with
          | nil => simp at hc
          | cons _ _ => rfl
      have ef : frmD p id (n + q.d.length) = latP p id := by unfold frmD; rw [if_neg (by omega)]
      have e := ih (n + q.d.length) h1 (.inl (by omega))
      rw [ef] at e
      have h6 : decide (n + q.d.length < p.d.length) = !r.isEmpty := by
        cases hr : r with
        | nil =>
          rw [hr] at h7
          unfold partP at h7
          simp only [decide_eq_true_eq] at h7
          simp only [List.isEmpty_nil, Bool.not_true, decide_eq_false_iff_not]
          omega
        | cons q' r' =>
          rw [hr] at h7
          unfold partP at h7
          simp only [Bool.and_eq_true, decide_eq_true_eq, dP_iff, fits_iff] at h7
          obtain ⟨⟨⟨⟨k3, k5⟩, k1⟩, k4⟩, k7⟩ := h7
          simp only [List.isEmpty_cons, Bool.not_false, decide_eq_true_eq]
          have hq1 : q'.d.length ≠ 0 := by
            refine right_mn k3 (.inr ?_)
            rw [k4]
            show (0 : Int) < ((n + q.d.length : Nat) : Int)
            omega
          omega
      refine ⟨⟨⟨⟨⟨⟨h1, hq0⟩, h3⟩, ?_⟩, ?_⟩, h6⟩, by rw [e]; exact h7⟩
      · rw [hpe _ rfl, h6]; exact h4
      · rw [hdD_right h3]; push_cast at h5; omega
/-- What the document's Is answers. -/
def isD (p : Pk) (m : Int) (l : List Pk) : Bool :=
  uncutP p && mtuP m p.v && (match l with | [] => false | [q] => dP q p && decide (hdD p + (p.d.length : Int) ≤ m) | q :: r => !p.df && docR p m q.id 0 (q :: r))
theorem isD_eq {p : Pk} (hw : Wf p) (m : Int) (l : List Pk) : isD p m l = isP p m l := by
  unfold isD isP
  cases hu : uncutP p
  · simp
  · have hun := (uncut_iff p).1 hu
    match l with
    | [] => rfl
    | [q] => simp only; rw [fits_len hun, Bool.and_comm (dP q p)]
    | q :: q' :: r =>
      simp only
      rw [doc_part hun hw _ 0 (Nat.zero_le _) (.inr (by simp))]
      unfold frmD
      rw [if_pos rfl]
end Go.Proofs.YtbnnfbfmomafnaaDoor
