/-
  A line's text, plain: where the first slash, blank stand.
-/
import Derived.Test.YtoifolmcdkfniaaDoorSx
import Derived.Test.YtoifolmcdkfniaaDoorTxt
namespace Go.Proofs.YtoifolmcdkfniaaDoor
open Go.ChangeShapes Go.WideShapes Go.ChangeAt Go.RowKit
set_option linter.unusedVariables false
set_option linter.unusedSimpArgs false
set_option maxRecDepth 100000

theorem split_at (c : UInt8) : ∀ l : List UInt8, c ∈ l → ∃ p r, l = p ++ c :: r ∧ c ∉ p
  | [], h => by simp at h
  | x :: l, h => by
    by_cases hx : x = c
    · subst hx; exact ⟨[], l, rfl, by simp⟩
    · obtain ⟨p, r, h1, h2⟩ := split_at c l (by simpa [Ne.symm hx] using h)
      exact ⟨x :: p, r, by rw [h1]; rfl, by simp [h2, Ne.symm hx]⟩
theorem idx_not (c : UInt8) : ∀ l : List UInt8, c ∉ l → Lib.index l [c] = -1
  | [], _ => by simp [Lib.index]
  | x :: l, h => by
    have hx : x ≠ c := fun e => h (by simp [e])
    rw [index_miss c x l hx, idx_not c l (fun h' => h (by simp [h']))]; rfl
theorem idx_app (c : UInt8) : ∀ p r : List UInt8, c ∉ p → Lib.index (p ++ c :: r) [c] = (p.length : Int)
  | [], r, _ => by simp [Lib.index, List.isPrefixOf]
  | x :: p, r, h => by
    have hx : x ≠ c := fun e => h (by simp [e])
    have ih := idx_app c p r (fun h' => h (by simp [h']))
    rw [List.cons_append, index_miss c x _ hx, ih, if_neg (by omega)]
    simp
theorem cut_app (c : UInt8) : ∀ p r : List UInt8, c ∉ p → Lib.cut (p ++ c :: r) [c] = (p, r, true)
  | [], r, _ => cut_hit c r
  | x :: p, r, h => by
    have hx : x ≠ c := fun e => h (by simp [e])
    rw [List.cons_append, cut_miss c x _ hx, cut_app c p r (fun h' => h (by simp [h']))]
theorem cut_not (c : UInt8) : ∀ l : List UInt8, c ∉ l → Lib.cut l [c] = (l, [], false)
  | [], _ => cut_nil c
  | x :: l, h => by
    have hx : x ≠ c := fun e => h (by simp [e])
    rw [cut_miss c x l hx, cut_not c l (fun h' => h (by simp [h']))]
theorem idx_at (c : UInt8) (l : List UInt8) (k : Nat) (hno : ∀ (j : Nat) (y : UInt8), j < k → l[j]? = some y → y ≠ c) (h : l[k]? = some c) : Lib.index l [c] = (k : Int) := by
  have hk := (List.getElem?_eq_some_iff.1 h).1
  have e : l = l.take k ++ c :: l.drop (k + 1) := by
    rw [← (List.getElem?_eq_some_iff.1 h).2, ← List.drop_eq_getElem_cons hk, List.take_append_drop]
  have hp : c ∉ l.take k := fun hm => by
    obtain ⟨j, hj, hjc⟩ := List.mem_iff_getElem.1 hm
    have hjk : j < k := by rw [List.length_take] at hj; omega
    refine hno j c hjk ?_ rfl
    rw [← hjc, List.getElem_take]
    exact List.getElem?_eq_getElem (by omega)
  have := idx_app c (l.take k) (l.drop (k + 1)) hp
  rw [← e] at this
  rw [this, List.length_take, Nat.min_eq_left (by omega)]
theorem idx_no (c : UInt8) (l : List UInt8) (hno : ∀ (j : Nat) (y : UInt8), l[j]? = some y → y ≠ c) : Lib.index l [c] = -1 :=
  idx_not c l (fun hm => by
    obtain ⟨j, hj, hjc⟩ := List.mem_iff_getElem.1 hm
    exact hno j c (by rw [← hjc]; exact List.getElem?_eq_getElem hj) rfl)
theorem numR_nil : numR [] = none := by simp [numR, numOf]
/-! A blank is in no address. -/
theorem digs_blank (base : Nat) (hb : base ≤ 16) : ∀ (l : List UInt8) (n : Nat), (32 : UInt8) ∈ l → digs base n l = none
  | [], n, h => by simp at h
  | c :: l, n, h => by
    unfold digs
    by_cases hc : c = 32
    · subst hc
      rw [if_neg (by have : dig 32 = 99 := by decide
                     omega)]
    · split
      · exact digs_blank base hb l _ (by simpa [Ne.symm hc] using h)
      · rfl
theorem numOf_blank {base most : Nat} (hb : base ≤ 16) {l : List UInt8} (h : (32 : UInt8) ∈ l) : numOf base most l = none := by
  unfold numOf; split
  · rfl
  · exact digs_blank base hb l 0 h
theorem dec_blank {l : List UInt8} (h : (32 : UInt8) ∈ l) : dec l = none := by
  unfold dec; rw [numOf_blank (by decide) h]
theorem pieces_mem (c : UInt8) : ∀ (l : List UInt8) (x : UInt8), x ∈ l → x ≠ c → ∃ p ∈ pieces c l, x ∈ p
  | [], x, h, _ => by simp at h
  | y :: l, x, h, hx => by
    have hne := pieces_ne c l
    obtain ⟨a, r, hr⟩ : ∃ a r, pieces c l = a :: r := by
      cases hq : pieces c l with
      | nil => exact absurd hq hne
      | cons a r => exact ⟨a, r, rfl⟩
    by_cases hy : y = c
    · subst hy
      have hxl : x ∈ l := by simpa [hx] using h
      obtain ⟨p, hp, hxp⟩ := pieces_mem y l x hxl hx
      exact ⟨p, by rw [pieces_hit]; simp [hp], hxp⟩
    · rw [pieces_miss l hy, hr]
      simp only [pcons, List.headD_cons, List.tail_cons]
      rcases List.mem_cons.1 h with rfl | hxl
      · exact ⟨_, List.mem_cons_self .., by simp⟩
      · obtain ⟨p, hp, hxp⟩ := pieces_mem c l x hxl hx
        rw [hr] at hp
        rcases List.mem_cons.1 hp with rfl | hp
        · exact ⟨_, List.mem_cons_self .., by simp [hxp]⟩
        · exact ⟨p, by simp [hp], hxp⟩
theorem grps_blank {l : List UInt8} (h : (32 : UInt8) ∈ l) : grps l = none := by
  unfold grps
  rw [if_neg (fun e => by rw [e] at h; simp at h)]
  obtain ⟨p, hp, hx⟩ := pieces_mem 58 l 32 h (by decide)
  exact alls_none _ _ p hp (numOf_blank (by decide) hx)
theorem cut2_mem (l : List UInt8) (x : UInt8) (h : x ∈ l) (hx : x ≠ 58) : x ∈ (Lib.cut l [58, 58]).1 ∨ x ∈ (Lib.cut l [58, 58]).2.1 := by
  rcases cut2_spec l with ⟨-, h1, -⟩ | ⟨-, h1, -⟩
  · rw [h1] at h
    rcases List.mem_append.1 h with h | h
    · exact .inl h
    · rcases List.mem_cons.1 h with h | h
      · exact absurd h hx
      · rcases List.mem_cons.1 h with h | h
        · exact absurd h hx
        · exact .inr h
  · exact .inl (by rw [h1]; exact h)
theorem parse_blank {l : List UInt8} (h : (32 : UInt8) ∈ l) : (parseP l).2.2 ≠ 0 := by
  unfold parseP
  split
  · have : parse6P l = none := by
      unfold parse6P
      rcases cut2_mem l 32 h (by decide) with h1 | h1
      · rw [grps_blank h1]
      · rw [grps_blank h1]; cases grps (Lib.cut l [58, 58]).1 <;> rfl
    rw [this]; decide
  · have : parse4P l = none := by
      unfold parse4P
      obtain ⟨p, hp, hx⟩ := pieces_mem 46 l 32 h (by decide)
      rw [alls_none _ _ p hp (dec_blank hx)]
    rw [this]; decide
theorem line_def (l : List UInt8) : lineP l = match parseP (Lib.cut l [47]).1, numR (Lib.cut (Lib.cut l [47]).2.1 [32]).1, numR (Lib.cut (Lib.cut l [47]).2.1 [32]).2.1 with
  | (v, b, e), some n, some k => if e = 0 then some ⟨v, b, n, k⟩ else none
  | _, _, _ => none := rfl
theorem line_none {l : List UInt8} (h : Lib.index l [47] < 0 ∨ Lib.index l [32] < Lib.index l [47]) : lineP l = none := by
  by_cases h47 : (47 : UInt8) ∈ l
  · obtain ⟨p, r, rfl, hp⟩ := split_at 47 l h47
    rw [idx_app 47 p r hp] at h
    rw [line_def, cut_app 47 p r hp]
    by_cases h32 : (32 : UInt8) ∈ p
    · have := parse_blank h32
      generalize parseP p = q at *
      obtain ⟨v, b, e⟩ := q
      have he : e ≠ 0 := this
      split
      · rename_i v' b' e' n k h1 h2 h3
        simp only [Prod.mk.injEq] at h1
        rw [if_neg (by rw [← h1.2.2]; exact he)]
      · rfl
    · by_cases hr : (32 : UInt8) ∈ r
      · exfalso
        obtain ⟨q, t, rfl, hq⟩ := split_at 32 r hr
        have hpq : (32 : UInt8) ∉ p ++ 47 :: q := by simp [h32, hq]
        have := idx_app 32 (p ++ 47 :: q) t hpq
        rw [show p ++ 47 :: (q ++ 32 :: t) = (p ++ 47 :: q) ++ 32 :: t from by simp] at h
        rw [this] at h
        simp at h
        omega
      · simp only [cut_not 32 r hr, numR_nil]
        split
        · rename_i h3; simp at h3
        · rfl
  · rw [line_def, cut_not 47 l h47]
    simp only [cut_nil, numR_nil]
theorem line_some {l : List UInt8} {i k : Nat} (hi : Lib.index l [47] = (i : Int)) (hk : Lib.index l [32] = (k : Int)) (hik : i ≤ k) :
    i + 1 ≤ k ∧ k + 1 ≤ l.length ∧ (Lib.cut l [47]).1 = l.take i ∧ (Lib.cut (Lib.cut l [47]).2.1 [32]).1 = (l.take k).drop (i + 1) ∧ (Lib.cut (Lib.cut l [47]).2.1 [32]).2.1 = l.drop (k + 1) := by
  have h47 : (47 : UInt8) ∈ l := by
    by_cases h : (47 : UInt8) ∈ l
    · exact h
    · rw [idx_not 47 l h] at hi; omega
  obtain ⟨p, r, rfl, hp⟩ := split_at 47 l h47
  rw [idx_app 47 p r hp] at hi
  have hpi : p.length = i := by omega
  rw [cut_app 47 p r hp]
  have h32 : (32 : UInt8) ∉ p := fun h => by
    obtain ⟨a, b, rfl, ha⟩ := split_at 32 p h
    rw [show (a ++ 32 :: b) ++ 47 :: r = a ++ 32 :: (b ++ 47 :: r) from by simp, idx_app 32 a _ ha] at hk
    simp at hpi
    omega
  by_cases hr : (32 : UInt8) ∈ r
  · obtain ⟨q, t, rfl, hq⟩ := split_at 32 r hr
    have hpq : (32 : UInt8) ∉ p ++ 47 :: q := by simp [h32, hq]
    rw [show p ++ 47 :: (q ++ 32 :: t) = (p ++ 47 :: q) ++ 32 :: t from by simp, idx_app 32 _ t hpq] at hk
    simp at hk
    have hk' : p.length + (q.length + 1) = k := by omega
    subst hpi; subst hk'
    refine ⟨by omega, by simp; omega, by simp, ?_, ?_⟩
    · rw [cut_app 32 q t hq]
      simp [List.take_append, List.drop_append]
    · rw [cut_app 32 q t hq]
      have : p ++ 47 :: (q ++ 32 :: t) = (p ++ 47 :: q ++ [32]) ++ t := by simp
      rw [this, List.drop_append_of_le_length (by simp; omega), List.drop_eq_nil_of_le (by simp; omega)]
      rfl
  · exfalso
    rw [idx_not 32 _ (by simp [h32, hr])] at hk
    omega
end Go.Proofs.YtoifolmcdkfniaaDoor
