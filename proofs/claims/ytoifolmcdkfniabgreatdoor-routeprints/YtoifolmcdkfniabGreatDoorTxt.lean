/-
  Texts cut the document's way.
-/
import Derived.Test.YtoifolmcdkfniabGreatDoorNum
namespace Go.Proofs.YtoifolmcdkfniabGreatDoor
set_option linter.unusedVariables false

/-- A beginning put ahead of the first piece. -/
def pcons (p : List UInt8) (ps : List (List UInt8)) : List (List UInt8) := (p ++ ps.headD []) :: ps.tail
theorem pcons_nil {ps : List (List UInt8)} (h : ps ≠ []) : pcons [] ps = ps := by
  cases ps with
  | nil => exact absurd rfl h
  | cons a r => rfl
theorem pieces_hit (c : UInt8) (l : List UInt8) : pieces c (c :: l) = [] :: pieces c l := by simp [pieces]
theorem pieces_miss {c x : UInt8} (l : List UInt8) (h : x ≠ c) : pieces c (x :: l) = pcons [x] (pieces c l) := by simp [pieces, h, pcons]
theorem pcons_pcons (p : List UInt8) (x : UInt8) (ps : List (List UInt8)) : pcons p (pcons [x] ps) = pcons (p ++ [x]) ps := by simp [pcons]
theorem pcons_hit (p : List UInt8) (ps : List (List UInt8)) : pcons p ([] :: ps) = p :: ps := by simp [pcons]
theorem pieces_app (c : UInt8) : ∀ (u t : List UInt8), pieces c (u ++ c :: t) = pieces c u ++ pieces c t
  | [], t => by simp [pieces]
  | x :: u, t => by
    by_cases h : x = c
    · subst h; rw [List.cons_append, pieces_hit, pieces_hit, pieces_app, List.cons_append]
    · rw [List.cons_append, pieces_miss _ h, pieces_miss _ h, pieces_app]
      have := pieces_ne c u
      cases hp : pieces c u with
      | nil => exact absurd hp this
      | cons a r => simp [pcons]
theorem alls_none {α β : Type} (f : α → Option β) : ∀ (l : List α) (x : α), x ∈ l → f x = none → alls f l = none
  | y :: r, x, h, hx => by
    rcases List.mem_cons.1 h with rfl | h
    · simp [alls, hx]
    · have := alls_none f r x h hx
      simp [alls, this]
theorem num_nil : numOf 16 4 [] = none := by simp [numOf]
theorem grps_last (u : List UInt8) : grps (u ++ [58]) = none := by
  unfold grps
  rw [if_neg (by simp)]
  refine alls_none _ _ [] ?_ num_nil
  rw [pieces_app]; simp [pieces]
theorem grps_two (u t : List UInt8) : grps (u ++ 58 :: 58 :: t) = none := by
  unfold grps
  rw [if_neg (by simp)]
  refine alls_none _ _ [] ?_ num_nil
  rw [pieces_app, pieces_hit]; simp
/-! The first "::". -/
theorem cut2_nil : Lib.cut [] [58, 58] = ([], [], false) := by simp [Lib.cut, Lib.index]
theorem cut2_hit (t : List UInt8) : Lib.cut (58 :: 58 :: t) [58, 58] = ([], t, true) := by simp [Lib.cut, Lib.index, List.isPrefixOf]
theorem index2_miss (x : UInt8) (l : List UInt8) (h : [58, 58].isPrefixOf (x :: l) = false) : Lib.index (x :: l) [58, 58] = if Lib.index l [58, 58] = -1 then -1 else Lib.index l [58, 58] + 1 := by
  simp only [Lib.index, h, Bool.false_eq_true, if_false, beq_iff_eq]
theorem cut2_miss (x : UInt8) (l : List UInt8) (h : [58, 58].isPrefixOf (x :: l) = false) : Lib.cut (x :: l) [58, 58] = (x :: (Lib.cut l [58, 58]).1, (Lib.cut l [58, 58]).2.1, (Lib.cut l [58, 58]).2.2) := by
  have hg := Lib.index_ge l [58, 58]
  unfold Lib.cut
  rw [index2_miss x l h]
  by_cases h2 : Lib.index l [58, 58] = -1
  · rw [if_pos h2, h2]; simp
  · rw [if_neg h2, if_pos (show 0 ≤ Lib.index l [58, 58] + 1 by omega), if_pos (show 0 ≤ Lib.index l [58, 58] by omega)]
    rw [show (Lib.index l [58, 58] + 1).toNat = (Lib.index l [58, 58]).toNat + 1 from by omega]
    simp
theorem prefix2 (x : UInt8) (l : List UInt8) : [58, 58].isPrefixOf (x :: l) = true ↔ ∃ t, x :: l = 58 :: 58 :: t := by
  rw [List.isPrefixOf_iff_prefix]
  constructor
  · rintro ⟨t, ht⟩; exact ⟨t, by simpa using ht.symm⟩
  · rintro ⟨t, ht⟩; exact ⟨t, by simpa using ht.symm⟩
theorem cut2_spec : ∀ l : List UInt8,
    ((Lib.cut l [58, 58]).2.2 = true ∧ l = (Lib.cut l [58, 58]).1 ++ 58 :: 58 :: (Lib.cut l [58, 58]).2.1 ∧ ∀ u t, l = u ++ 58 :: 58 :: t → (Lib.cut l [58, 58]).1.length ≤ u.length) ∨
    ((Lib.cut l [58, 58]).2.2 = false ∧ (Lib.cut l [58, 58]).1 = l ∧ (Lib.cut l [58, 58]).2.1 = [] ∧ ∀ u t, l ≠ u ++ 58 :: 58 :: t)
  | [] => .inr ⟨by rw [cut2_nil], by rw [cut2_nil], by rw [cut2_nil], fun u t h => by simp at h⟩
  | x :: l => by
    by_cases hp : [58, 58].isPrefixOf (x :: l) = true
    · obtain ⟨t, ht⟩ := (prefix2 x l).1 hp
      rw [ht, cut2_hit]
      exact .inl ⟨rfl, rfl, fun u t _ => by simp⟩
    · have hp' : [58, 58].isPrefixOf (x :: l) = false := Bool.eq_false_iff.2 hp
      rw [cut2_miss x l hp']
      rcases cut2_spec l with ⟨h1, h2, h3⟩ | ⟨h1, h2, h3, h4⟩
      · refine .inl ⟨h1, by rw [List.cons_append, ← h2], fun u t e => ?_⟩
        cases u with
        | nil => exact absurd ((prefix2 x l).2 ⟨t, by simpa using e⟩) hp
        | cons y u =>
          simp only [List.cons_append, List.cons.injEq] at e
          have := h3 u t e.2
          simp; omega
      · refine .inr ⟨h1, by rw [h2], h3, fun u t e => ?_⟩
        cases u with
        | nil => exact absurd ((prefix2 x l).2 ⟨t, by simpa using e⟩) hp
        | cons y u =>
          simp only [List.cons_append, List.cons.injEq] at e
          exact h4 u t e.2
theorem grps_full {l : List UInt8} {g : List Nat} (h : grps l = some g) (hg : g.length = 8) : parse6P l = some g := by
  rcases cut2_spec l with ⟨h1, h2, h3⟩ | ⟨h1, h2, h3, h4⟩
  · rw [h2, grps_two] at h; simp at h
  · unfold parse6P
    rw [h2, h3, h1, h]
    simp [grps, hg, joinG]
/-- One "::" that fits. -/
def Hit (l : List UInt8) (i : Nat) (x y : List Nat) : Prop := (∃ t, l = l.take i ++ 58 :: 58 :: t ∧ l.drop (i + 2) = t) ∧ grps (l.take i) = some x ∧ grps (l.drop (i + 2)) = some y ∧ x.length + y.length ≤ 7
theorem hit_parse {l : List UInt8} {i : Nat} {x y : List Nat} (h : Hit l i x y) : parse6P l = some (joinG x y) := by
  obtain ⟨⟨t, e, ht⟩, hx, hy, hl⟩ := h
  rcases cut2_spec l with ⟨h1, h2, h3⟩ | ⟨h1, h2, h3, h4⟩
  · have hle := h3 _ _ e
    generalize hp : (Lib.cut l [58, 58]).1 = p at *
    generalize hq : (Lib.cut l [58, 58]).2.1 = q at *
    have hpi : p = l.take i := by
      rcases Nat.lt_or_ge p.length (l.take i).length with hlt | hge
      · exfalso
        -- the beginning holds the first "::" or its first half
        have hpre : l.take i = (p ++ 58 :: 58 :: q).take i := by rw [← h2]
        have hi : (l.take i).length = i := by
          have := congrArg List.length e
          simp at this ⊢
          omega
        rw [hi] at hlt
        obtain ⟨d, hd⟩ : ∃ d, i = p.length + (d + 1) := ⟨i - p.length - 1, by omega⟩
        rw [hd, List.take_length_add_append, List.take_succ_cons] at hpre
        rw [← hd] at hpre
        rw [hpre] at hx
        cases d with
        | zero => rw [List.take_zero, grps_last] at hx; simp at hx
        | succ d => rw [List.take_succ_cons, grps_two] at hx; simp at hx
      · have hlen : p.length = (l.take i).length := by omega
        have e2 : p ++ 58 :: 58 :: q = l.take i ++ 58 :: 58 :: t := by rw [← h2]; exact e
        exact (List.append_inj e2 hlen).1
    have hqt : q = t := by
      have e2 : p ++ 58 :: 58 :: q = l.take i ++ 58 :: 58 :: t := by rw [← h2]; exact e
      rw [hpi] at e2
      simpa using e2
    unfold parse6P
    rw [hp, hq, h1, hpi, hx, hqt, ← ht, hy]
    simp only [if_true]
    rw [if_pos (by omega)]
  · exact absurd e (h4 _ _)
theorem no_hit {l : List UInt8} (h8 : ∀ g, grps l = some g → g.length ≠ 8) (h : ∀ i x y, i + 2 ≤ l.length → ¬ Hit l i x y) : parse6P l = none := by
  rcases cut2_spec l with ⟨h1, h2, h3⟩ | ⟨h1, h2, h3, h4⟩
  · unfold parse6P
    generalize hp : (Lib.cut l [58, 58]).1 = p at *
    generalize hq : (Lib.cut l [58, 58]).2.1 = q at *
    have htp : l.take p.length = p := by rw [h2]; simp
    have hdp : l.drop (p.length + 2) = q := by
      rw [h2, ← List.drop_drop, List.drop_left]; rfl
    cases hx : grps p with
    | none => rfl
    | some x =>
      cases hy : grps q with
      | none => rfl
      | some y =>
        simp only [h1, if_true]
        rw [if_neg]
        intro hl
        refine h p.length x y (by rw [h2]; simp) ⟨⟨q, by rw [htp]; exact h2, hdp⟩, by rw [htp]; exact hx, by rw [hdp]; exact hy, by omega⟩
  · unfold parse6P
    rw [h2, h3, h1]
    cases hx : grps l with
    | none => rfl
    | some x =>
      have := h8 x hx
      simp [grps, this]
#print axioms no_hit
end Go.Proofs.YtoifolmcdkfniabGreatDoor
