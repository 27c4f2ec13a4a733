/-
  What the three last loops of Ip6Memory do, as plain data: the marks, the appends, what is found.
-/
import Derived.Test.YtbmppdihceaacaaLots
namespace Go.Proofs.Ytbmppdihceaacaa
set_option linter.unusedVariables false

/-- The lists ahead of i are marked whole, list i in its first k bytes; where they lie and how long they are is as in P0. -/
structure Marked (P0 : List (Value × List Int)) (i k : Nat) (P : List (Value × List Int)) : Prop where
  len : P.length = P0.length
  at' : ∀ (j : Nat) (p : Value × List Int), P[j]? = some p → ∃ l0, P0[j]? = some (p.1, l0) ∧ p.2.length = l0.length ∧ (j < i → ∀ x, x < p.2.length → p.2[x]? = some (1 + (j : Int))) ∧ (j = i → ∀ x, x < k → x < p.2.length → p.2[x]? = some (1 + (j : Int)))
theorem Marked.start (P0 : List (Value × List Int)) : Marked P0 0 0 P0 :=
  ⟨rfl, fun j p hp => ⟨p.2, hp, rfl, fun h => by omega, fun _ x h => by omega⟩⟩
theorem Marked.step {P0 P : List (Value × List Int)} {i k : Nat} {v : Value} {l : List Int} (h : Marked P0 i k P) (hp : P[i]? = some (v, l)) (hk : k < l.length) : Marked P0 i (k + 1) (P.set i (v, l.set k (1 + (i : Int)))) := by
  refine ⟨by simp [h.len], fun j p hj => ?_⟩
  rcases set_cases hj with ⟨rfl, rfl, _⟩ | ⟨hne, hj⟩
  · obtain ⟨l0, h1, h2, h3, h4⟩ := h.at' i _ hp
    refine ⟨l0, h1, by simpa using h2, fun hh => by omega, fun _ x hx hl => ?_⟩
    rw [List.getElem?_set]
    by_cases e : k = x
    · subst e; simp [hk]
    · rw [if_neg e]; exact h4 rfl x (by omega) (by simpa using hl)
  · obtain ⟨l0, h1, h2, h3, h4⟩ := h.at' j p hj
    exact ⟨l0, h1, h2, h3, fun e => absurd e.symm hne⟩
theorem Marked.next {P0 P : List (Value × List Int)} {i k : Nat} {v : Value} {l : List Int} (h : Marked P0 i k P) (hp : P[i]? = some (v, l)) (hk : l.length ≤ k) : Marked P0 (i + 1) 0 P := by
  refine ⟨h.len, fun j p hj => ?_⟩
  obtain ⟨l0, h1, h2, h3, h4⟩ := h.at' j p hj
  refine ⟨l0, h1, h2, fun hji x hx => ?_, fun _ x hx => by omega⟩
  rcases Nat.lt_or_ge j i with hh | hh
  · exact h3 hh x hx
  · obtain rfl : j = i := by omega
    rw [hp] at hj
    obtain rfl := Option.some.inj hj
    exact h4 rfl x (by simp at hx; omega) hx
/-- The lists ahead of i are longer by 80, list i by k; N: their lengths ahead of it. -/
structure Longer (N : List Nat) (i k : Nat) (P : List (Value × List Int)) : Prop where
  len : P.length = N.length
  at' : ∀ (j : Nat) (p : Value × List Int), P[j]? = some p → ∃ n, N[j]? = some n ∧ p.2.length = n + (if j < i then 80 else if j = i then k else 0) ∧ ∀ x, x < p.2.length → p.2[x]? = some (if x < n then 1 + (j : Int) else 101 + (j : Int))
theorem Longer.start {P0 P : List (Value × List Int)} (h : Marked P0 P0.length 0 P) : Longer (P0.map (·.2.length)) 0 0 P := by
  refine ⟨by simp [h.len], fun j p hj => ?_⟩
  obtain ⟨l0, h1, h2, h3, h4⟩ := h.at' j p hj
  have hj0 : j < P0.length := by
    rcases Nat.lt_or_ge j P0.length with h | h
    · exact h
    · rw [List.getElem?_eq_none h] at h1; cases h1
  refine ⟨l0.length, by simp [h1], by simp [h2], fun x hx => ?_⟩
  rw [if_pos (by omega)]
  exact h3 hj0 x hx
theorem Longer.step {N : List Nat} {P : List (Value × List Int)} {i k : Nat} {v v' : Value} {l : List Int} (h : Longer N i k P) (hp : P[i]? = some (v, l)) : Longer N i (k + 1) (P.set i (v', l ++ [101 + (i : Int)])) := by
  refine ⟨by simp [h.len], fun j p hj => ?_⟩
  rcases set_cases hj with ⟨rfl, rfl, _⟩ | ⟨hne, hj⟩
  · obtain ⟨n, h1, h2, h3⟩ := h.at' i _ hp
    rw [if_neg (by omega), if_pos rfl] at h2
    simp only at h2 h3
    refine ⟨n, h1, by simp; omega, fun x hx => ?_⟩
    simp only [List.length_append, List.length_cons, List.length_nil] at hx
    rcases Nat.lt_or_ge x l.length with hh | hh
    · rw [List.getElem?_append_left hh]; exact h3 x hh
    · obtain rfl : x = l.length := by omega
      rw [if_neg (by omega)]; simp
  · obtain ⟨n, h1, h2, h3⟩ := h.at' j p hj
    rw [if_neg (fun e : j = i => hne e.symm)] at h2
    exact ⟨n, h1, by rw [if_neg (fun e : j = i => hne e.symm)]; exact h2, h3⟩
theorem Longer.next {N : List Nat} {P : List (Value × List Int)} {i : Nat} (h : Longer N i 80 P) : Longer N (i + 1) 0 P := by
  refine ⟨h.len, fun j p hj => ?_⟩
  obtain ⟨n, h1, h2, h3⟩ := h.at' j p hj
  refine ⟨n, h1, ?_, h3⟩
  rw [h2]
  congr 1
  rcases Nat.lt_trichotomy j i with hh | hh | hh
  · rw [if_pos hh, if_pos (by omega)]
  · rw [if_neg (by omega), if_pos hh, if_pos (by omega)]
  · rw [if_neg (by omega), if_neg (by omega), if_neg (by omega)]; split <;> rfl
/-- What the last loop finds. -/
theorem Longer.found {N : List Nat} {P : List (Value × List Int)} {i k j x n : Nat} {v : Value} {l : List Int} (h : Longer N i k P) (hp : P[j]? = some (v, l)) (hn : N[j]? = some n) (hx : x < l.length) :
    (x < n → l[x]? = some (1 + (j : Int))) ∧ (n ≤ x → l[x]? = some (101 + (j : Int))) := by
  obtain ⟨m, h1, h2, h3⟩ := h.at' j _ hp
  rw [hn] at h1
  obtain rfl := Option.some.inj h1
  have := h3 x hx
  simp only at this
  exact ⟨fun hh => by rw [this, if_pos hh], fun hh => by rw [this, if_neg (by omega)]⟩
theorem Longer.bytes {N : List Nat} {P : List (Value × List Int)} {i k j : Nat} {v : Value} {l : List Int} (h : Longer N i k P) (hp : P[j]? = some (v, l)) (hj : j < 8) : Bytes l := by
  obtain ⟨m, h1, h2, h3⟩ := h.at' j _ hp
  intro b hb
  obtain ⟨x, hx, rfl⟩ := List.mem_iff_getElem.1 hb
  have := h3 x hx
  simp only [List.getElem?_eq_getElem hx] at this
  have e := Option.some.inj this
  rw [e]
  split <;> omega
#print axioms Longer.bytes
end Go.Proofs.Ytbmppdihceaacaa
