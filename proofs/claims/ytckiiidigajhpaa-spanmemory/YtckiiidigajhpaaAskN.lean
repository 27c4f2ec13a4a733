/-
  The document's list of a set, by its ends: plain data.
-/
import Derived.Test.YtckiiidigajhpaaNum
namespace Go.Proofs.Ytckiiidigajhpaa
set_option linter.unusedVariables false
set_option maxHeartbeats 1000000

/-- A number into a rising list. -/
def putI (n : Int) : List Int → List Int
  | [] => [n]
  | x :: r => if x < n then x :: putI n r else if x = n then n :: r else n :: x :: r
def Rise (l : List Int) : Prop := l.Pairwise (fun a b => a < b)
theorem putI_mem {n x : Int} : ∀ {l : List Int}, x ∈ putI n l ↔ x = n ∨ x ∈ l
  | [] => by simp [putI]
  | y :: r => by
    unfold putI
    split
    · rw [List.mem_cons, putI_mem, List.mem_cons]; exact or_left_comm
    · split
      · rename_i h; subst h; simp
      · simp
theorem putI_rise {n : Int} : ∀ {l : List Int}, Rise l → Rise (putI n l)
  | [], _ => by simp [putI, Rise]
  | y :: r, h => by
    obtain ⟨h1, h2⟩ := List.pairwise_cons.1 h
    unfold putI
    split
    · rename_i hy
      refine List.pairwise_cons.2 ⟨fun z hz => ?_, putI_rise h2⟩
      rcases putI_mem.1 hz with rfl | hz
      · exact hy
      · exact h1 z hz
    · split
      · rename_i h'; subst h'; exact h
      · refine List.pairwise_cons.2 ⟨fun z hz => ?_, h⟩
        rcases List.mem_cons.1 hz with rfl | hz
        · omega
        · have := h1 z hz; omega
theorem putI_len {n : Int} : ∀ {l : List Int}, (putI n l).length ≤ l.length + 1
  | [] => by simp [putI]
  | y :: r => by
    unfold putI
    have := putI_len (n := n) (l := r)
    split
    · simp; omega
    · split <;> simp
/-- Where the number goes. -/
theorem putI_at {n : Int} : ∀ {l : List Int} {k : Nat}, k ≤ l.length → (∀ x ∈ l.take k, x < n) → (∀ y, l[k]? = some y → n ≤ y) → putI n l = l.take k ++ n :: (if l[k]? = some n then l.drop (k + 1) else l.drop k)
  | [], k, hk, _, _ => by simp [putI]
  | x :: r, 0, _, _, h2 => by
    have hx := h2 x rfl
    unfold putI
    rw [if_neg (by omega)]
    by_cases h : x = n
    · subst h; simp
    · simp [h]
  | x :: r, k + 1, hk, h1, h2 => by
    have hx := h1 x (by simp)
    unfold putI
    rw [if_pos hx, putI_at (l := r) (k := k) (by simpa using hk) (fun y hy => h1 y (by simp [hy])) (fun y hy => h2 y (by simpa using hy))]
    simp
theorem rise_at {e : List Int} (h : Rise e) {i j : Nat} {a b : Int} (hi : e[i]? = some a) (hj : e[j]? = some b) (hij : i < j) : a < b := by
  obtain ⟨h1, rfl⟩ := List.getElem?_eq_some_iff.1 hi
  obtain ⟨h2, rfl⟩ := List.getElem?_eq_some_iff.1 hj
  exact List.pairwise_iff_getElem.1 h i j h1 h2 hij
/-- No end lies between two neighbours. -/
theorem rise_gap {e : List Int} (h : Rise e) {k : Nat} {a b x : Int} (hi : e[k]? = some a) (hj : e[k + 1]? = some b) (hx : x ∈ e) : x ≤ a ∨ b ≤ x := by
  obtain ⟨j, hjl, rfl⟩ := List.getElem_of_mem hx
  have hq : e[j]? = some e[j] := List.getElem?_eq_getElem hjl
  rcases Nat.lt_trichotomy j k with h1 | h1 | h1
  · have := rise_at h hq hi h1; omega
  · subst h1; rw [hq] at hi; simp at hi; omega
  · rcases Nat.lt_or_ge (k + 1) j with h2 | h2
    · have := rise_at h hj hq h2; omega
    · obtain rfl : j = k + 1 := by omega
      rw [hq] at hj; simp at hj; omega
theorem rise_first {e : List Int} (h : Rise e) {a x : Int} (hi : e[0]? = some a) (hx : x ∈ e) : a ≤ x := by
  obtain ⟨j, hjl, rfl⟩ := List.getElem_of_mem hx
  have hq : e[j]? = some e[j] := List.getElem?_eq_getElem hjl
  rcases Nat.eq_zero_or_pos j with h1 | h1
  · subst h1; rw [hq] at hi; simp at hi; omega
  · have := rise_at h hi hq h1; omega
theorem rise_last {e : List Int} (h : Rise e) {k : Nat} {a x : Int} (hi : e[k]? = some a) (hk : e.length ≤ k + 1) (hx : x ∈ e) : x ≤ a := by
  obtain ⟨j, hjl, rfl⟩ := List.getElem_of_mem hx
  have hq : e[j]? = some e[j] := List.getElem?_eq_getElem hjl
  rcases Nat.lt_or_ge j k with h1 | h1
  · have := rise_at h hq hi h1; omega
  · obtain rfl : j = k := by omega
    rw [hq] at hi; simp at hi; omega
theorem rise_short : ∀ (e : List Int) (a : Int), Rise e → (∀ x ∈ e, a ≤ x ∧ x ≤ 65535) → (e.length : Int) ≤ max 0 (65536 - a)
  | [], a, _, _ => by simp; omega
  | x :: r, a, h, hb => by
    obtain ⟨h1, h2⟩ := List.pairwise_cons.1 h
    have hx := hb x (by simp)
    have := rise_short r (x + 1) h2 (fun y hy => ⟨by have := h1 y hy; omega, (hb y (by simp [hy])).2⟩)
    simp only [List.length_cons]
    omega
/-- All ends of spans. -/
def endsP (l : List Sp) : List Int := l.foldl (fun e s => putI s.2 (putI s.1 e)) []
theorem ends_snoc (l : List Sp) (s : Sp) : endsP (l ++ [s]) = putI s.2 (putI s.1 (endsP l)) := by simp [endsP]
theorem ends_fold : ∀ (r : List Sp) (e : List Int) (x : Int), x ∈ r.foldl (fun e s => putI s.2 (putI s.1 e)) e ↔ x ∈ e ∨ ∃ s ∈ r, x = s.1 ∨ x = s.2
  | [], e, x => by simp
  | s :: r, e, x => by
    rw [List.foldl_cons, ends_fold, putI_mem, putI_mem]
    simp only [List.mem_cons, exists_eq_or_imp]
    constructor
    · rintro ((h | h | h) | h)
      · exact .inr (.inl (.inr h))
      · exact .inr (.inl (.inl h))
      · exact .inl h
      · exact .inr (.inr h)
    · rintro (h | (h | h) | h)
      · exact .inl (.inr (.inr h))
      · exact .inl (.inr (.inl h))
      · exact .inl (.inl h)
      · exact .inr h
theorem ends_mem {l : List Sp} {x : Int} : x ∈ endsP l ↔ ∃ s ∈ l, x = s.1 ∨ x = s.2 := by unfold endsP; rw [ends_fold]; simp
theorem rise_fold : ∀ (r : List Sp) (e : List Int), Rise e → Rise (r.foldl (fun e s => putI s.2 (putI s.1 e)) e)
  | [], e, h => h
  | s :: r, e, h => by rw [List.foldl_cons]; exact rise_fold r _ (putI_rise (putI_rise h))
theorem ends_rise (l : List Sp) : Rise (endsP l) := rise_fold l [] (by simp [Rise])
theorem ends_in {l : List Sp} (h : ∀ s ∈ l, Is s) : ∀ x ∈ endsP l, 0 ≤ x ∧ x ≤ 65535 := fun x hx => by
  obtain ⟨s, hs, h1 | h1⟩ := ends_mem.1 hx
  · have := h s hs; omega
  · have := h s hs; omega
theorem ends_len {l : List Sp} (h : ∀ s ∈ l, Is s) : (endsP l).length ≤ 65536 := by
  have := rise_short _ 0 (ends_rise l) (ends_in h)
  omega
theorem ends_take {l : List Sp} (h : ∀ s ∈ l, Is s) (k : Nat) : (endsP (l.take k)).length ≤ 65536 := ends_len (fun s hs => h s (List.mem_of_mem_take hs))
theorem in_still {l : List Sp} {e : List Int} (he : Rise e) (hm : ∀ s ∈ l, s.1 ∈ e ∧ s.2 ∈ e) {k : Nat} {a b : Int} (hi : e[k]? = some a) (hj : e[k + 1]? = some b) {n : Int} (h1 : a ≤ n) (h2 : n < b) : inB l n = inB l a := by
  rw [Bool.eq_iff_iff, inB_iff, inB_iff]
  constructor
  · rintro ⟨s, hs, h3, h4⟩
    have g1 := rise_gap he hi hj (hm s hs).1
    have g2 := rise_gap he hi hj (hm s hs).2
    exact ⟨s, hs, by omega, by omega⟩
  · rintro ⟨s, hs, h3, h4⟩
    have g1 := rise_gap he hi hj (hm s hs).1
    have g2 := rise_gap he hi hj (hm s hs).2
    exact ⟨s, hs, by omega, by omega⟩
/-- The numbers of a, without those of b. -/
def setP (a b : List Sp) (n : Int) : Bool := inB a n && !inB b n
/-- So far: the right list of what lies below m. -/
structure Ls (out : List Sp) (f : Int → Bool) (m : Int) : Prop where
  right : rightP out = true
  top : endOf (-1) out ≤ m
  has : ∀ n, inB out n = (f n && decide (n < m))
theorem Ls.start {f : Int → Bool} {m : Int} (h0 : 0 ≤ m) (h : ∀ n, f n = true → m ≤ n) : Ls [] f m :=
  ⟨rfl, by show (-1 : Int) ≤ m; omega, fun n => by
    rw [inB_nil]; symm; rw [Bool.eq_false_iff]; intro hq
    simp only [Bool.and_eq_true, decide_eq_true_eq] at hq
    have := h n hq.1; omega⟩
theorem Ls.fin {out : List Sp} {f : Int → Bool} {m : Int} (h : Ls out f m) (ht : ∀ n, f n = true → n < m) : Of out f :=
  ⟨h.right, fun n => by
    rw [h.has]
    cases hf : f n
    · rfl
    · simp [ht n hf]⟩
theorem Ls.skip {out : List Sp} {f : Int → Bool} {m m' : Int} (h : Ls out f m) (hm : m < m') (hs : ∀ n, m ≤ n → n < m' → f n = false) : Ls out f m' :=
  ⟨h.right, by have := h.top; omega, fun n => by
    rw [h.has]
    by_cases h1 : n < m
    · simp [h1, show n < m' by omega]
    · by_cases h2 : n < m'
      · simp [h1, h2, hs n (by omega) h2]
      · simp [h1, h2]⟩
theorem Ls.add {out : List Sp} {f : Int → Bool} {m m' : Int} (h : Ls out f m) (h0 : 0 ≤ m) (hm : m < m') (ht : m' ≤ 65535) (hs : ∀ n, m ≤ n → n < m' → f n = true) (he : endOf (-1) out ≠ m) : Ls (out ++ [(m, m')]) f m' := by
  have hr := h.right
  have htp := h.top
  refine ⟨?_, ?_, fun n => ?_⟩
  · unfold rightP at hr ⊢
    rw [rf_append, hr, Bool.true_and, rf_cons]
    exact ⟨⟨h0, hm, ht⟩, by simp only; omega, rfl⟩
  · rw [endOf_append]; exact Int.le_refl _
  · rw [inB_append, h.has, inB_cons, inB_nil, Bool.or_false]
    by_cases h1 : n < m
    · have : inS (m, m') n = false := by rw [Bool.eq_false_iff, ne_eq, inS_iff]; simp only; omega
      simp [h1, this, show n < m' by omega]
    · by_cases h2 : n < m'
      · have : inS (m, m') n = true := by rw [inS_iff]; simp only; omega
        simp [h2, this, hs n (by omega) h2]
      · have : inS (m, m') n = false := by rw [Bool.eq_false_iff, ne_eq, inS_iff]; simp only; omega
        simp [h1, h2, this]
theorem endOf_snoc (o : List Sp) (p : Sp) (e : Int) : endOf e (o ++ [p]) = p.2 := by rw [endOf_append]; rfl
theorem Ls.more {o : List Sp} {p : Sp} {f : Int → Bool} {m m' : Int} (h : Ls (o ++ [p]) f m) (hp : p.2 = m) (hm : m < m') (ht : m' ≤ 65535) (hs : ∀ n, m ≤ n → n < m' → f n = true) : Ls (o ++ [(p.1, m')]) f m' := by
  have hr := h.right
  unfold rightP at hr
  rw [rf_append, Bool.and_eq_true, rf_cons] at hr
  obtain ⟨hr1, hr2, hr3, -⟩ := hr
  obtain ⟨q1, q2, q3⟩ := hr2
  refine ⟨?_, ?_, fun n => ?_⟩
  · unfold rightP
    rw [rf_append, hr1, Bool.true_and, rf_cons]
    exact ⟨⟨q1, by simp only; omega, ht⟩, hr3, rfl⟩
  · rw [endOf_snoc]; exact Int.le_refl _
  · have hh := h.has n
    rw [inB_append, inB_cons, inB_nil, Bool.or_false] at hh ⊢
    by_cases h1 : n < m
    · have e : inS (p.1, m') n = inS p n := by
        rw [Bool.eq_iff_iff, inS_iff, inS_iff]; simp only; omega
      rw [e, hh]
      simp [h1, show n < m' by omega]
    · have e : inS p n = false := by rw [Bool.eq_false_iff, ne_eq, inS_iff]; omega
      rw [e, Bool.or_false] at hh
      have e0 : inB o n = false := by rw [hh]; simp [h1]
      rw [e0, Bool.false_or]
      by_cases h2 : n < m'
      · have : inS (p.1, m') n = true := by rw [inS_iff]; simp only; omega
        simp [h2, this, hs n (by omega) h2]
      · have : inS (p.1, m') n = false := by rw [Bool.eq_false_iff, ne_eq, inS_iff]; simp only; omega
        simp [h2, this]
#print axioms Ls.more
end Go.Proofs.Ytckiiidigajhpaa
