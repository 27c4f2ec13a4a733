/-
  The kinds, by the nets they are.
-/
import Derived.Test.YtclfhajapohogaaDoorRows4
namespace Go.Proofs.YtclfhajapohogaaDoor
open Go.ChangeShapes Go.WideShapes Go.ChangeAt Go.RowKit
set_option linter.unusedVariables false
set_option maxHeartbeats 4000000
set_option maxRecDepth 100000

theorem mb8 (b : Int) (hb : 0 ≤ b ∧ b ≤ 255) : mb 8 b = b := by
  obtain ⟨b, rfl⟩ := Int.eq_ofNat_of_zero_le hb.1
  have := mb_eq 8 b (by omega) (by omega)
  rw [show ((8 : Nat) : Int) = 8 from rfl] at this
  rw [this]; omega
theorem mb0 (b : Int) (hb : 0 ≤ b ∧ b ≤ 255) : mb 0 b = 0 := by
  obtain ⟨b, rfl⟩ := Int.eq_ofNat_of_zero_le hb.1
  have := mb_eq 0 b (by omega) (by omega)
  rw [show ((0 : Nat) : Int) = 0 from rfl] at this
  rw [this]; omega
theorem mb4 (b : Int) (hb : 0 ≤ b ∧ b ≤ 255) : mb 4 b = 224 ↔ 224 ≤ b ∧ b ≤ 239 := by
  obtain ⟨b, rfl⟩ := Int.eq_ofNat_of_zero_le hb.1
  have := mb_eq 4 b (by omega) (by omega)
  rw [show ((4 : Nat) : Int) = 4 from rfl] at this
  rw [this]; omega
theorem maskL_none (bs : Int) : ∀ (k : Nat) (l : List Int), (∀ y ∈ l, 0 ≤ y ∧ y ≤ 255) → bs ≤ 8 * (k : Int) → maskL bs k l = List.replicate l.length 0
  | _, [], _, _ => rfl
  | k, a :: l, h, hk => by
    have e : kept bs k = 0 := by unfold kept; omega
    simp only [maskL, List.length_cons, List.replicate_succ]
    rw [e, mb0 a (h a (by simp)), maskL_none bs (k + 1) l (fun y hy => h y (by simp [hy])) (by omega)]
theorem maskL_all (bs : Int) : ∀ (k : Nat) (l : List Int), (∀ y ∈ l, 0 ≤ y ∧ y ≤ 255) → 8 * ((k : Int) + l.length) ≤ bs → maskL bs k l = l
  | _, [], _, _ => rfl
  | k, a :: l, h, hk => by
    simp only [List.length_cons] at hk
    have e : kept bs k = 8 := by unfold kept; omega
    simp only [maskL]
    rw [e, mb8 a (h a (by simp)), maskL_all bs (k + 1) l (fun y hy => h y (by simp [hy])) (by omega)]
theorem maskL_app (bs : Int) : ∀ (k : Nat) (x y : List Int), maskL bs k (x ++ y) = maskL bs k x ++ maskL bs (k + x.length) y
  | _, [], _ => rfl
  | k, a :: x, y => by simp only [List.cons_append, maskL, maskL_app bs (k + 1) x y, List.length_cons]; rw [Nat.add_assoc, Nat.add_comm 1]
def ff16 : List Int := [255, 0, 0, 0, 0, 0, 0, 0, 0, 0, 0, 0, 0, 0, 0, 0]
def f4 (a b c d : Int) : List Int := [a, b, c, d, 0, 0, 0, 0, 0, 0, 0, 0, 0, 0, 0, 0]
theorem valid4 {l : List Int} (hl : l.length = 16) (h : validP 4 l = true) : ∃ a b c d, l = f4 a b c d := by
  rw [validP, if_pos rfl] at h
  have e := eqL_true h
  obtain ⟨a, b, c, d, h4⟩ := list4 (l := l.take 4) (by simp [hl])
  refine ⟨a, b, c, d, ?_⟩
  rw [← List.take_append_drop 4 l, e, h4]; rfl
theorem m4_8 (a b c d : Int) (ha : 0 ≤ a ∧ a ≤ 255) (h : ∀ y ∈ f4 a b c d, 0 ≤ y ∧ y ≤ 255) : maskL 8 0 (f4 a b c d) = f4 a 0 0 0 := by
  unfold f4
  rw [maskL, maskL_none 8 1 _ (fun y hy => h y (by unfold f4; exact List.mem_cons_of_mem _ hy)) (by decide), show kept 8 0 = 8 from by decide, mb8 a ha]; rfl
theorem m4_4 (a b c d : Int) (ha : 0 ≤ a ∧ a ≤ 255) (h : ∀ y ∈ f4 a b c d, 0 ≤ y ∧ y ≤ 255) : maskL 4 0 (f4 a b c d) = f4 (mb 4 a) 0 0 0 := by
  unfold f4
  rw [maskL, maskL_none 4 1 _ (fun y hy => h y (by unfold f4; exact List.mem_cons_of_mem _ hy)) (by decide), show kept 4 0 = 4 from by decide]; rfl
theorem m4_32 (a b c d : Int) (h : ∀ y ∈ f4 a b c d, 0 ≤ y ∧ y ≤ 255) : maskL 32 0 (f4 a b c d) = f4 a b c d := by
  have e : f4 a b c d = [a, b, c, d] ++ List.replicate 12 0 := rfl
  rw [e, maskL_app, maskL_zeros, maskL_all 32 0 [a, b, c, d] (fun y hy => h y (by rw [e]; exact List.mem_append_left _ hy)) (by simp)]
theorem eqL_iff {l m : List Int} : eqL l m = true ↔ l = m := by simp [eqL]
theorem eqL_dec {l m : List Int} {P : Prop} [Decidable P] (h : l = m ↔ P) : eqL l m = decide P := by unfold eqL; exact decide_eq_decide.2 h
theorem ok4 {l : List Int} {n : Int} (h : validP 4 l = true) (h0 : 0 ≤ n) (h1 : n ≤ 32) : maskOk 4 l n = true := ok_iff.2 ⟨h, h0, by rw [if_pos rfl]; exact h1⟩
theorem ok6 {l : List Int} {n : Int} (h0 : 0 ≤ n) (h1 : n ≤ 128) : maskOk 6 l n = true := ok_iff.2 ⟨rfl, h0, by rw [if_neg (by decide)]; exact h1⟩
theorem within_other {v v' : Int} (l l' : List Int) (n : Int) (h : v ≠ v') : withinP v l v' l' n = false := by unfold withinP; simp [h]
theorem valid_f4 (a b c d : Int) : validP 4 (f4 a b c d) = true := rfl
theorem net127 {a b c d : Int} (h : ∀ y ∈ f4 a b c d, 0 ≤ y ∧ y ≤ 255) : withinP 4 (f4 a b c d) 4 (f4 127 0 0 0) 8 = decide (a = 127) := by
  unfold withinP
  rw [ok4 (valid_f4 _ _ _ _) (by decide) (by decide), ok4 (valid_f4 _ _ _ _) (by decide) (by decide), m4_8 a b c d (h a (by simp [f4])) h, m4_8 127 0 0 0 (by decide) (by decide)]
  simp only [decide_true, Bool.true_and]
  exact eqL_dec (by simp [f4])
theorem net224 {a b c d : Int} (h : ∀ y ∈ f4 a b c d, 0 ≤ y ∧ y ≤ 255) : withinP 4 (f4 a b c d) 4 (f4 224 0 0 0) 4 = decide (224 ≤ a ∧ a ≤ 239) := by
  unfold withinP
  rw [ok4 (valid_f4 _ _ _ _) (by decide) (by decide), ok4 (valid_f4 _ _ _ _) (by decide) (by decide), m4_4 a b c d (h a (by simp [f4])) h, m4_4 224 0 0 0 (by decide) (by decide), show mb 4 224 = 224 from by decide]
  simp only [decide_true, Bool.true_and]
  exact eqL_dec (by simp [f4, mb4 a (h a (by simp [f4]))])
theorem net32 {a b c d : Int} (x y z u : Int) (h : ∀ y ∈ f4 a b c d, 0 ≤ y ∧ y ≤ 255) (h' : ∀ t ∈ f4 x y z u, 0 ≤ t ∧ t ≤ 255) : withinP 4 (f4 a b c d) 4 (f4 x y z u) 32 = eqL (f4 a b c d) (f4 x y z u) := by
  unfold withinP
  rw [ok4 (valid_f4 _ _ _ _) (by decide) (by decide), ok4 (valid_f4 _ _ _ _) (by decide) (by decide), m4_32 a b c d h, m4_32 x y z u h']
  simp
theorem net128 {l m : List Int} (hl : l.length = 16) (hm : m.length = 16) (h : ∀ y ∈ l, 0 ≤ y ∧ y ≤ 255) (h' : ∀ y ∈ m, 0 ≤ y ∧ y ≤ 255) : withinP 6 l 6 m 128 = eqL l m := by
  unfold withinP
  rw [ok6 (by decide) (by decide), ok6 (by decide) (by decide), maskL_all 128 0 l h (by rw [hl]; decide), maskL_all 128 0 m h' (by rw [hm]; decide)]
  simp
theorem netff {l : List Int} (hl : l.length = 16) (h : ∀ y ∈ l, 0 ≤ y ∧ y ≤ 255) : withinP 6 l 6 ff16 8 = decide (l.head? = some 255) := by
  unfold withinP
  rw [ok6 (by decide) (by decide), ok6 (by decide) (by decide)]
  cases l with
  | nil => simp at hl
  | cons a l =>
    simp only [List.length_cons] at hl
    have e : l.length = 15 := by omega
    rw [maskL, maskL_none 8 1 l (fun y hy => h y (by simp [hy])) (by decide), show kept 8 0 = 8 from by decide, mb8 a (h a (by simp)), e, show maskL 8 0 ff16 = 255 :: List.replicate 15 0 from by decide]
    simp only [decide_true, Bool.true_and]
    exact eqL_dec (by simp)
/-- What the nine questions answer, for an address that is valid. -/
def Asked (k : Int) (p1 p1' p2 p2' p3 p3' p4 : Bool) : Prop :=
  (k = 2 ∧ p1 = true ∧ p1' = false ∧ p2 = false ∧ p2' = false ∧ p3 = false ∧ p3' = false ∧ p4 = false)
  ∨ (k = 3 ∧ p1 = false ∧ p1' = false ∧ p2 = true ∧ p2' = false ∧ p3 = false ∧ p3' = false ∧ p4 = false)
  ∨ (k = 1 ∧ p1 = false ∧ p1' = false ∧ p2 = false ∧ p2' = false ∧ p3 = true ∧ p3' = false ∧ p4 = false)
  ∨ (k = (if p4 = true then 4 else 5) ∧ p1 = false ∧ p1' = false ∧ p2 = false ∧ p2' = false ∧ p3 = false ∧ p3' = false)
  ∨ (k = (if p3' = true then 1 else if p1' = true then 2 else if p2' = true then 3 else 5) ∧ p1 = false ∧ p2 = false ∧ p3 = false ∧ p4 = false ∧ (p3' = true → p1' = false ∧ p2' = false) ∧ (p1' = true → p2' = false))
theorem asked {v : Int} {l : List Int} (hl : l.length = 16) (h : ∀ y ∈ l, 0 ≤ y ∧ y ≤ 255) (hv : validP v l = true) :
    Asked (kindP v l) (withinP v l 4 (f4 127 0 0 0) 8) (withinP v l 6 one16 128) (withinP v l 4 (f4 224 0 0 0) 4) (withinP v l 6 ff16 8) (withinP v l 4 (f4 0 0 0 0) 32) (withinP v l 6 z16 128) (withinP v l 4 (f4 255 255 255 255) 32) := by
  by_cases h4 : v = 4
  · subst h4
    obtain ⟨a, b, c, d, rfl⟩ := valid4 hl hv
    rw [net127 h, net224 h, net32 0 0 0 0 h (by decide), net32 255 255 255 255 h (by decide), within_other _ _ _ (by decide : (4 : Int) ≠ 6), within_other _ _ _ (by decide : (4 : Int) ≠ 6), within_other _ _ _ (by decide : (4 : Int) ≠ 6)]
    have e : kindP 4 (f4 a b c d) = if eqL (f4 a b c d) z16 = true then 1 else k4 a b c d := by
      unfold kindP; rw [valid_f4]; rfl
    have e0 : f4 0 0 0 0 = z16 := rfl
    rw [e, e0]
    by_cases z : eqL (f4 a b c d) z16 = true
    · have z' := eqL_true z
      have : a = 0 := by have := congrArg List.head? z'; simpa [f4, z16] using this
      subst this
      rw [z, z']
      right; right; left
      refine ⟨rfl, by decide, rfl, by decide, rfl, rfl, rfl, by decide⟩
    · rw [if_neg z]
      have zf : eqL (f4 a b c d) z16 = false := by simpa using z
      rw [zf]
      unfold k4
      by_cases a1 : a = 127
      · subst a1
        left
        refine ⟨by simp, by simp, rfl, by decide, rfl, rfl, rfl, eqL_of_ne (by simp [f4])⟩
      · rw [if_neg a1]
        by_cases a2 : 224 ≤ a ∧ a ≤ 239
        · rw [if_pos a2]
          right; left
          refine ⟨rfl, by simp [a1], rfl, by simp [a2], rfl, rfl, rfl, eqL_of_ne (by simp [f4]; omega)⟩
        · rw [if_neg a2]
          right; right; right; left
          have e5 : eqL (f4 a b c d) (f4 255 255 255 255) = eqL [a, b, c, d] [255, 255, 255, 255] := by unfold eqL; exact decide_eq_decide.2 (by simp [f4])
          rw [e5]
          exact ⟨rfl, by simp [a1], rfl, by simpa using a2, rfl, rfl, rfl⟩
  · have h6 : v = 6 := by rw [validP, if_neg h4] at hv; simpa using hv
    subst h6
    rw [net128 hl rfl h (by decide), netff hl h, net128 hl rfl h (by decide), within_other _ _ _ (by decide : (6 : Int) ≠ 4), within_other _ _ _ (by decide : (6 : Int) ≠ 4), within_other _ _ _ (by decide : (6 : Int) ≠ 4), within_other _ _ _ (by decide : (6 : Int) ≠ 4)]
    right; right; right; right
    refine ⟨?_, rfl, rfl, rfl, rfl, fun z => ?_, fun z => ?_⟩
    · unfold kindP
      rw [hv, if_neg (show ¬ (true = false) by decide), if_neg (show ¬ ((6 : Int) = 4) by decide)]
      unfold k6
      by_cases z : eqL l z16 = true
      · rw [if_pos z, if_pos z]
      · rw [if_neg z, if_neg z]
        by_cases z1 : eqL l one16 = true
        · rw [if_pos z1, if_pos z1]
        · rw [if_neg z1, if_neg z1]
          by_cases z2 : l.head? = some 255
          · rw [if_pos z2, if_pos (by simp [z2])]
          · rw [if_neg z2, if_neg (by simp [z2])]
    · have := eqL_true z
      subst this
      exact ⟨by decide, by decide⟩
    · have := eqL_true z
      subst this
      decide
end Go.Proofs.YtclfhajapohogaaDoor
