/-
  Which sockets are bound, plain.
-/
import Derived.Test.YtemdgggpfadecaaBd
namespace Go.Proofs.Ytemdgggpfadecaa
open Go.ChangeShapes Go.WideShapes Go.ChangeAt Go.RowKit
set_option linter.unusedVariables false
set_option linter.unusedSimpArgs false
set_option maxRecDepth 100000

/-- An address that came in: sixteen bytes. -/
def Byt (l : List Int) : Prop := l.length = 16 ∧ ∀ b ∈ l, 0 ≤ b ∧ b ≤ 255
theorem z16_byt : Byt z16 := ⟨rfl, by decide⟩
def hit (v : Int) (l : List Int) (p : Int) (y : Bd) : Bool := (decide (y.v = v) && eqL y.l l) && decide (y.p = p)
theorem hit_iff {v : Int} {l : List Int} {p : Int} {y : Bd} : hit v l p y = true ↔ y.v = v ∧ y.l = l ∧ y.p = p := by simp [hit, eqL, and_assoc]
/-- The first place that fits. -/
def idxP (f : Bd → Bool) (bs : List Bd) : Option Nat := bs.findIdx? f
theorem idx_some {f : Bd → Bool} {bs : List Bd} {k : Nat} {y : Bd} (hy : bs[k]? = some y) (hf : f y = true) (hn : ∀ (j : Nat) (z : Bd), j < k → bs[j]? = some z → f z = false) : idxP f bs = some k := by
  unfold idxP
  have hk : k < bs.length := (List.getElem?_eq_some_iff.1 hy).1
  rw [List.findIdx?_eq_some_iff_getElem]
  refine ⟨hk, by rw [(List.getElem?_eq_some_iff.1 hy).2]; exact hf, fun j hj => ?_⟩
  have := hn j (bs[j]'(by omega)) hj (by simp)
  simpa using this
theorem idx_none {f : Bd → Bool} {bs : List Bd} (hn : ∀ (j : Nat) (z : Bd), bs[j]? = some z → f z = false) : idxP f bs = none := by
  unfold idxP
  rw [List.findIdx?_eq_none_iff]
  intro x hx
  obtain ⟨j, hj⟩ := List.getElem?_of_mem hx
  exact hn j x hj
theorem idx_get {f : Bd → Bool} {bs : List Bd} {k : Nat} (h : idxP f bs = some k) : ∃ y, bs[k]? = some y ∧ f y = true ∧ ∀ (j : Nat) (z : Bd), j < k → bs[j]? = some z → f z = false := by
  unfold idxP at h
  rw [List.findIdx?_eq_some_iff_getElem] at h
  obtain ⟨hk, h1, h2⟩ := h
  refine ⟨bs[k], by simp, h1, fun j z hj hz => ?_⟩
  have h3 := h2 j hj
  rw [(List.getElem?_eq_some_iff.1 hz).2] at h3
  simpa using h3
theorem idx_not {f : Bd → Bool} {bs : List Bd} (h : idxP f bs = none) : ∀ y ∈ bs, f y = false := by
  unfold idxP at h
  rw [List.findIdx?_eq_none_iff] at h
  exact h
theorem idx_lt {f : Bd → Bool} {bs : List Bd} {k : Nat} (h : idxP f bs = some k) : k < bs.length := by
  obtain ⟨y, h1, -⟩ := idx_get h
  exact (List.getElem?_eq_some_iff.1 h1).1
/-- The number at a place; 0: none. -/
def numAt (bs : List Bd) : Option Nat → Int
  | some i => match bs[i]? with | some y => y.n | none => 0
  | none => 0
def justP (bs : List Bd) (v : Int) (l : List Int) (p : Int) : Int := numAt bs (idxP (hit v l p) bs)
def findP (bs : List Bd) (v : Int) (l : List Int) (p : Int) : Int := if justP bs v l p = 0 then justP bs v z16 p else justP bs v l p
def isN (n : Int) (y : Bd) : Bool := decide (y.n = n)
/-- The least free port from k on, of m that are asked; 0: none. -/
def freeK (bs : List Bd) (v : Int) (l : List Int) (k : Int) : Nat → Int
  | 0 => 0
  | m + 1 => if justP bs v l k = 0 then k else freeK bs v l (k + 1) m
def freeP (bs : List Bd) (v : Int) (l : List Int) : Int := freeK bs v l 49152 16384
structure Tb where
  most : Int
  last : Int
  bs : List Bd
/-- What holds of a table along any calls. -/
structure WfT (t : Tb) : Prop where
  m0 : 1 ≤ t.most
  m1 : t.most ≤ 32
  len : (t.bs.length : Int) ≤ t.most
  ok : ∀ y ∈ t.bs, Byt y.l
  num : ∀ y ∈ t.bs, 1 ≤ y.n ∧ y.n ≤ t.last
  prt : ∀ y ∈ t.bs, 1 ≤ y.p ∧ y.p ≤ 65535
  up : ∀ (i j : Nat) (y z : Bd), i < j → t.bs[i]? = some y → t.bs[j]? = some z → y.n < z.n
  l0 : 0 ≤ t.last
theorem WfT.okd {t : Tb} (h : WfT t) : ∀ y ∈ t.bs, Okd y := fun y hy => (h.ok y hy).1
theorem WfT.le {t : Tb} (h : WfT t) : t.bs.length ≤ 32 := by have := h.len; have := h.m1; omega
def mayP (v : Int) (l : List Int) : Bool := decide (kindP v l = 1) || decide (kindP v l = 5)
/-- What Bind tells, and the table behind it. -/
def bindP (t : Tb) (v : Int) (l : List Int) (p : Int) : (Int × Int × Int) × Tb :=
  if mayP v l = false ∨ p < 0 ∨ 65535 < p then ((0, 0, 1), t)
  else if justP t.bs v l p ≠ 0 then ((0, 0, 200), t)
  else if (t.bs.length : Int) = t.most then ((0, 0, 201), t)
  else ((t.last + 1, if p = 0 then freeP t.bs v l else p, 0), ⟨t.most, t.last + 1, t.bs ++ [⟨t.last + 1, v, l, if p = 0 then freeP t.bs v l else p⟩]⟩)
def closeP (t : Tb) (n : Int) : Int × Tb := match idxP (isN n) t.bs with
  | some i => (0, ⟨t.most, t.last, t.bs.eraseIdx i⟩)
  | none => (1, t)
def atP (t : Tb) (n : Int) : Int × List Int × Int × Int := match idxP (isN n) t.bs with
  | some i => match t.bs[i]? with
    | some y => (y.v, y.l, y.p, 0)
    | none => (0, z16, 0, 1)
  | none => (0, z16, 0, 1)
/-! A free port there always is. -/
theorem justP_pos {t : Tb} (h : WfT t) {v : Int} {l : List Int} {p : Int} (hj : justP t.bs v l p ≠ 0) : ∃ y ∈ t.bs, hit v l p y = true := by
  unfold justP at hj
  cases hi : idxP (hit v l p) t.bs with
  | none => rw [hi] at hj; simp [numAt] at hj
  | some k =>
    obtain ⟨y, h1, h2, -⟩ := idx_get hi
    exact ⟨y, List.mem_of_getElem? h1, h2⟩
theorem justP_some {t : Tb} (h : WfT t) {v : Int} {l : List Int} {p : Int} {k : Nat} (hi : idxP (hit v l p) t.bs = some k) : justP t.bs v l p ≠ 0 ∧ 0 < justP t.bs v l p := by
  obtain ⟨y, h1, h2, -⟩ := idx_get hi
  have h3 := (h.num y (List.mem_of_getElem? h1)).1
  unfold justP
  rw [hi]
  simp only [numAt, h1]
  omega
theorem justP_none {bs : List Bd} {v : Int} {l : List Int} {p : Int} (hi : idxP (hit v l p) bs = none) : justP bs v l p = 0 := by
  unfold justP; rw [hi]; rfl
theorem justP_zero {t : Tb} (h : WfT t) {v : Int} {l : List Int} : justP t.bs v l 0 = 0 := by
  apply justP_none
  apply idx_none
  intro j z hz
  have := (h.prt z (List.mem_of_getElem? hz)).1
  simp only [hit, Bool.and_eq_false_iff, decide_eq_false_iff_not]
  right; omega
theorem pigeon : ∀ (m : Nat) (bs : List Bd) (k : Int), (∀ i : Nat, i < m → ∃ y ∈ bs, y.p = k + i) → m ≤ bs.length
  | 0, _, _, _ => Nat.zero_le _
  | m + 1, bs, k, h => by
    obtain ⟨y, hy, hp⟩ := h m (by omega)
    obtain ⟨a, b, rfl⟩ := List.append_of_mem hy
    have := pigeon m (a ++ b) k (fun i hi => by
      obtain ⟨z, hz, hq⟩ := h i (by omega)
      refine ⟨z, ?_, hq⟩
      simp only [List.mem_append, List.mem_cons] at hz ⊢
      rcases hz with hz | rfl | hz
      · exact .inl hz
      · omega
      · exact .inr hz)
    simp at this ⊢
    omega
theorem freeK_zero {bs : List Bd} {v : Int} {l : List Int} : ∀ (m : Nat) (k : Int), 0 < k → freeK bs v l k m = 0 → ∀ i : Nat, i < m → justP bs v l (k + i) ≠ 0
  | 0, _, _, _, i, hi => by omega
  | m + 1, k, hk, h, i, hi => by
    unfold freeK at h
    split at h
    · omega
    · rename_i h0
      cases i with
      | zero => simpa using h0
      | succ i =>
        have := freeK_zero m (k + 1) (by omega) h i (by omega)
        rw [show k + 1 + (i : Int) = k + ((i + 1 : Nat) : Int) from by omega] at this
        exact this
theorem freeK_some {bs : List Bd} {v : Int} {l : List Int} : ∀ (m : Nat) (k : Int), freeK bs v l k m ≠ 0 → k ≤ freeK bs v l k m ∧ freeK bs v l k m < k + m ∧ justP bs v l (freeK bs v l k m) = 0 ∧ ∀ q, k ≤ q → q < freeK bs v l k m → justP bs v l q ≠ 0
  | 0, _, h => by simp [freeK] at h
  | m + 1, k, h => by
    unfold freeK at h ⊢
    split
    · rename_i h0
      exact ⟨by omega, by omega, h0, fun q h1 h2 => by omega⟩
    · rename_i h0
      rw [if_neg h0] at h
      obtain ⟨h1, h2, h3, h4⟩ := freeK_some m (k + 1) h
      refine ⟨by omega, by omega, h3, fun q h5 h6 => ?_⟩
      by_cases hq : q = k
      · subst hq; exact h0
      · exact h4 q (by omega) h6
theorem freeP_ne {t : Tb} (h : WfT t) (v : Int) (l : List Int) : freeP t.bs v l ≠ 0 := by
  intro h0
  have h1 := freeK_zero 16384 49152 (by omega) h0
  have h2 := pigeon 16384 t.bs 49152 (fun i hi => by
    obtain ⟨y, hy, hh⟩ := justP_pos h (h1 i hi)
    exact ⟨y, hy, (hit_iff.1 hh).2.2⟩)
  have := h.le
  omega
/-- What the least free port is. -/
theorem freeP_is {t : Tb} (h : WfT t) (v : Int) (l : List Int) : 49152 ≤ freeP t.bs v l ∧ freeP t.bs v l ≤ 65535 ∧ justP t.bs v l (freeP t.bs v l) = 0 ∧ ∀ q, 49152 ≤ q → q < freeP t.bs v l → justP t.bs v l q ≠ 0 := by
  have h0 := freeP_ne h v l
  unfold freeP at h0 ⊢
  obtain ⟨h1, h2, h3, h4⟩ := freeK_some 16384 49152 h0
  exact ⟨h1, by omega, h3, h4⟩
/-- Counted from the front: where the least free port is. -/
theorem freeP_at {t : Tb} (h : WfT t) {v : Int} {l : List Int} {k : Int} (h0 : 49152 ≤ k) (h1 : justP t.bs v l k = 0) (h2 : ∀ q, 49152 ≤ q → q < k → justP t.bs v l q ≠ 0) : freeP t.bs v l = k := by
  obtain ⟨a, b, c, d⟩ := freeP_is h v l
  rcases Int.lt_trichotomy (freeP t.bs v l) k with h3 | h3 | h3
  · exact absurd c (h2 _ a h3)
  · exact h3
  · exact absurd h1 (d k h0 h3)
/-! Calls keep it so. -/
theorem WfT.new {m : Int} (h0 : 1 ≤ m) (h1 : m ≤ 32) : WfT ⟨m, 0, []⟩ := ⟨h0, h1, by simp; omega, by simp, by simp, by simp, fun i j y z hij hy => by simp at hy, Int.le_refl _⟩
theorem WfT.bind {t : Tb} (h : WfT t) (v : Int) (l : List Int) (p : Int) (hl : Byt l) : WfT (bindP t v l p).2 := by
  unfold bindP
  split
  · exact h
  · rename_i h1
    split
    · exact h
    · split
      · exact h
      · rename_i h2 h3
        have hf := freeP_is h v l
        have hlen := h.len
        have hl0 := h.l0
        simp only [not_or, Int.not_lt] at h1
        have hp : 1 ≤ (if p = 0 then freeP t.bs v l else p) ∧ (if p = 0 then freeP t.bs v l else p) ≤ 65535 := by
          split
          · exact ⟨by omega, by omega⟩
          · exact ⟨by omega, h1.2.2⟩
        refine ⟨h.m0, h.m1, ?_, ?_, ?_, ?_, ?_, ?_⟩
        · simp; omega
        · intro y hy
          rcases List.mem_append.1 hy with h4 | h4
          · exact h.ok y h4
          · simp at h4; subst h4; exact hl
        · intro y hy
          rcases List.mem_append.1 hy with h4 | h4
          · have := h.num y h4; exact ⟨this.1, by show _ ≤ t.last + 1; omega⟩
          · simp at h4; subst h4; exact ⟨by show 1 ≤ t.last + 1; omega, Int.le_refl _⟩
        · intro y hy
          rcases List.mem_append.1 hy with h4 | h4
          · exact h.prt y h4
          · simp at h4; subst h4; exact hp
        · intro i j y z hij hy hz
          have hjl : j < (t.bs ++ [(⟨t.last + 1, v, l, if p = 0 then freeP t.bs v l else p⟩ : Bd)]).length := (List.getElem?_eq_some_iff.1 hz).1
          simp only [List.length_append, List.length_cons, List.length_nil] at hjl
          have hi : i < t.bs.length := by omega
          rw [List.getElem?_append_left hi] at hy
          by_cases hj : j < t.bs.length
          · rw [List.getElem?_append_left hj] at hz
            exact h.up i j y z hij hy hz
          · rw [show j = t.bs.length from by omega] at hz
            simp at hz
            have := (h.num y (List.mem_of_getElem? hy)).2
            subst hz
            show y.n < t.last + 1
            omega
        · show 0 ≤ t.last + 1; omega
theorem up_erase {bs : List Bd} (h : ∀ (i j : Nat) (y z : Bd), i < j → bs[i]? = some y → bs[j]? = some z → y.n < z.n) (k : Nat) : ∀ (i j : Nat) (y z : Bd), i < j → (bs.eraseIdx k)[i]? = some y → (bs.eraseIdx k)[j]? = some z → y.n < z.n := by
  intro i j y z hij hy hz
  rw [List.getElem?_eraseIdx] at hy hz
  split at hy <;> split at hz
  · exact h i j y z hij hy hz
  · exact h i (j + 1) y z (by omega) hy hz
  · omega
  · exact h (i + 1) (j + 1) y z (by omega) hy hz
theorem WfT.close {t : Tb} (h : WfT t) (n : Int) : WfT (closeP t n).2 := by
  unfold closeP
  split
  · rename_i i hi
    refine ⟨h.m0, h.m1, ?_, fun y hy => h.ok y (List.mem_of_mem_eraseIdx hy), fun y hy => h.num y (List.mem_of_mem_eraseIdx hy), fun y hy => h.prt y (List.mem_of_mem_eraseIdx hy), up_erase h.up i, h.l0⟩
    have := h.len
    have h1 := idx_lt hi
    show ((t.bs.eraseIdx i).length : Int) ≤ t.most
    rw [List.length_eraseIdx]; split <;> omega
  · exact h
theorem bind_last {t : Tb} (h : WfT t) (v : Int) (l : List Int) (p : Int) : (bindP t v l p).2.last ≤ t.last + 1 := by
  unfold bindP
  split
  · show t.last ≤ _; omega
  · split
    · show t.last ≤ _; omega
    · split
      · show t.last ≤ _; omega
      · exact Int.le_refl _
theorem close_last (t : Tb) (n : Int) : (closeP t n).2.last = t.last := by
  unfold closeP; split <;> rfl
theorem bind_most (t : Tb) (v : Int) (l : List Int) (p : Int) : (bindP t v l p).2.most = t.most := by
  unfold bindP
  split
  · rfl
  · split
    · rfl
    · split <;> rfl
theorem close_most (t : Tb) (n : Int) : (closeP t n).2.most = t.most := by
  unfold closeP; split <;> rfl
end Go.Proofs.Ytemdgggpfadecaa
