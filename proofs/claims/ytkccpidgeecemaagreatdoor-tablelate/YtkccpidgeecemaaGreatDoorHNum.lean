/-
  Spans as plain data: lists that rise, what they hold, and that a set has one right list alone.
-/
namespace Go.Proofs.YtkccpidgeecemaaGreatDoor.H
set_option linter.unusedVariables false
abbrev Sp := Int × Int
def Is (s : Sp) : Prop := 0 ≤ s.1 ∧ s.1 < s.2 ∧ s.2 ≤ 65535
def isB (s : Sp) : Bool := decide (0 ≤ s.1 ∧ s.1 < s.2 ∧ s.2 ≤ 65535)
def inS (s : Sp) (n : Int) : Bool := decide (s.1 ≤ n ∧ n < s.2)
def inB (l : List Sp) (n : Int) : Bool := l.any (fun s => inS s n)
theorem isB_iff {s : Sp} : isB s = true ↔ Is s := by simp [isB, Is]
theorem inS_iff {s : Sp} {n : Int} : inS s n = true ↔ s.1 ≤ n ∧ n < s.2 := by simp [inS]
theorem inB_iff {l : List Sp} {n : Int} : inB l n = true ↔ ∃ s ∈ l, s.1 ≤ n ∧ n < s.2 := by simp [inB, inS]
theorem inB_nil (n : Int) : inB [] n = false := rfl
theorem inB_cons (s : Sp) (r : List Sp) (n : Int) : inB (s :: r) n = (inS s n || inB r n) := rfl
theorem inB_append (a b : List Sp) (n : Int) : inB (a ++ b) n = (inB a n || inB b n) := by simp [inB]
def rightFrom : Int → List Sp → Bool
  | _, [] => true
  | e, s :: r => isB s && decide (e < s.1) && rightFrom s.2 r
def rightP (l : List Sp) : Bool := rightFrom (-1) l
def endOf : Int → List Sp → Int
  | e, [] => e
  | _, s :: r => endOf s.2 r
theorem rf_cons {e : Int} {s : Sp} {r : List Sp} : rightFrom e (s :: r) = true ↔ Is s ∧ e < s.1 ∧ rightFrom s.2 r = true := by simp [rightFrom, isB_iff, and_assoc]
theorem rf_append : ∀ (a b : List Sp) (e : Int), rightFrom e (a ++ b) = (rightFrom e a && rightFrom (endOf e a) b)
  | [], b, e => by simp [rightFrom, endOf]
  | s :: r, b, e => by simp [rightFrom, endOf, rf_append r b s.2, Bool.and_assoc]
theorem endOf_append : ∀ (a b : List Sp) (e : Int), endOf e (a ++ b) = endOf (endOf e a) b
  | [], b, e => rfl
  | s :: r, b, e => by simp [endOf, endOf_append r b s.2]
theorem rf_mono {e f : Int} {l : List Sp} (h : rightFrom e l = true) (hf : f ≤ e) : rightFrom f l = true := by
  cases l with
  | nil => rfl
  | cons s r => rw [rf_cons] at h ⊢; exact ⟨h.1, by omega, h.2.2⟩
theorem rf_above : ∀ {l : List Sp} {e n : Int}, rightFrom e l = true → inB l n = true → e < n
  | [], e, n, h, hn => by simp [inB] at hn
  | s :: r, e, n, h, hn => by
    obtain ⟨h1, h2, h3⟩ := rf_cons.1 h
    rw [inB_cons, Bool.or_eq_true] at hn
    rcases hn with hn | hn
    · rw [inS_iff] at hn; omega
    · have := rf_above h3 hn
      unfold Is at h1; omega
theorem rf_is : ∀ {l : List Sp} {e : Int}, rightFrom e l = true → ∀ s ∈ l, Is s ∧ e < s.1
  | [], e, h, s, hs => by simp at hs
  | x :: r, e, h, s, hs => by
    obtain ⟨h1, h2, h3⟩ := rf_cons.1 h
    rcases List.mem_cons.1 hs with rfl | hs
    · exact ⟨h1, h2⟩
    · have := rf_is h3 s hs
      unfold Is at h1
      exact ⟨this.1, by omega⟩
theorem rf_end : ∀ {l : List Sp} {e : Int}, rightFrom e l = true → e ≤ endOf e l ∧ (∀ s ∈ l, s.2 ≤ endOf e l)
  | [], e, h => ⟨Int.le_refl _, by simp⟩
  | x :: r, e, h => by
    obtain ⟨h1, h2, h3⟩ := rf_cons.1 h
    obtain ⟨i1, i2⟩ := rf_end h3
    unfold Is at h1
    refine ⟨by show e ≤ endOf x.2 r; omega, fun s hs => ?_⟩
    rcases List.mem_cons.1 hs with rfl | hs
    · exact i1
    · exact i2 s hs
theorem rf_tip : ∀ {l : List Sp} {e : Int}, rightFrom e l = true → ∀ s ∈ l, inB l s.2 = false
  | [], e, h, s, hs => by simp at hs
  | x :: r, e, h, s, hs => by
    obtain ⟨h1, h2, h3⟩ := rf_cons.1 h
    rw [inB_cons, Bool.or_eq_false_iff]
    rcases List.mem_cons.1 hs with rfl | hs
    · refine ⟨by simp [inS], ?_⟩
      rw [Bool.eq_false_iff]; intro hc
      have := rf_above h3 hc
      omega
    · refine ⟨?_, rf_tip h3 s hs⟩
      rw [Bool.eq_false_iff]; intro hc
      rw [inS_iff] at hc
      have := rf_is h3 s hs
      unfold Is at this
      omega
theorem uniq : ∀ {a b : List Sp} {e f : Int}, rightFrom e a = true → rightFrom f b = true → (∀ n, inB a n = inB b n) → a = b
  | [], [], e, f, ha, hb, h => rfl
  | [], t :: q, e, f, ha, hb, h => by
    obtain ⟨h1, h2, h3⟩ := rf_cons.1 hb
    have := h t.1
    unfold Is at h1
    rw [inB_cons, show inS t t.1 = true from by rw [inS_iff]; omega] at this
    simp [inB] at this
  | s :: r, [], e, f, ha, hb, h => by
    obtain ⟨h1, h2, h3⟩ := rf_cons.1 ha
    have := h s.1
    unfold Is at h1
    rw [inB_cons, show inS s s.1 = true from by rw [inS_iff]; omega] at this
    simp [inB] at this
  | s :: r, t :: q, e, f, ha, hb, h => by
    have ta := rf_tip ha s (by simp)
    have tb := rf_tip hb t (by simp)
    obtain ⟨a1, a2, a3⟩ := rf_cons.1 ha
    obtain ⟨b1, b2, b3⟩ := rf_cons.1 hb
    have a1' := a1
    have b1' := b1
    unfold Is at a1' b1'
    have sin : ∀ n, s.1 ≤ n → n < s.2 → t.1 ≤ n := by
      intro n h1 h2
      have hx : inB (s :: r) n = true := by rw [inB_cons, show inS s n = true from by rw [inS_iff]; omega]; rfl
      rw [h, inB_cons, Bool.or_eq_true] at hx
      rcases hx with hx | hx
      · rw [inS_iff] at hx; omega
      · have := rf_above b3 hx; omega
    have tin : ∀ n, t.1 ≤ n → n < t.2 → s.1 ≤ n := by
      intro n h1 h2
      have hx : inB (t :: q) n = true := by rw [inB_cons, show inS t n = true from by rw [inS_iff]; omega]; rfl
      rw [← h, inB_cons, Bool.or_eq_true] at hx
      rcases hx with hx | hx
      · rw [inS_iff] at hx; omega
      · have := rf_above a3 hx; omega
    have e1 : s.1 = t.1 := by
      have := sin s.1 (by omega) (by omega)
      have := tin t.1 (by omega) (by omega)
      omega
    have e2 : s.2 = t.2 := by
      rcases Int.lt_trichotomy s.2 t.2 with hl | hl | hl
      · rw [h, inB_cons, show inS t s.2 = true from by rw [inS_iff]; omega] at ta; simp at ta
      · exact hl
      · rw [← h, inB_cons, show inS s t.2 = true from by rw [inS_iff]; omega] at tb; simp at tb
    have est : s = t := Prod.ext e1 e2
    subst est
    rw [uniq a3 b3 (fun n => ?_)]
    have hn := h n
    rw [inB_cons, inB_cons] at hn
    cases hs : inS s n with
    | false => simpa [hs] using hn
    | true =>
      rw [inS_iff] at hs
      have n1 : inB r n = false := by rw [Bool.eq_false_iff]; intro hc; have := rf_above a3 hc; omega
      have n2 : inB q n = false := by rw [Bool.eq_false_iff]; intro hc; have := rf_above b3 hc; omega
      rw [n1, n2]
structure Of (l : List Sp) (f : Int → Bool) : Prop where
  right : rightP l = true
  has : ∀ n, inB l n = f n
theorem Of.uniq {a b : List Sp} {f : Int → Bool} (ha : Of a f) (hb : Of b f) : a = b := Go.Proofs.YtkccpidgeecemaaGreatDoor.H.uniq ha.right hb.right (fun n => by rw [ha.has, hb.has])
/-! Norm. -/
def stepJ (out : List Sp) (s : Sp) : List Sp :=
  match out.getLast? with
  | none => [s]
  | some p => if p.2 < s.1 then out ++ [s] else out.dropLast ++ [(p.1, max p.2 s.2)]
theorem stepJ_nil (s : Sp) : stepJ [] s = [s] := rfl
theorem stepJ_snoc (o : List Sp) (p s : Sp) : stepJ (o ++ [p]) s = if p.2 < s.1 then o ++ [p] ++ [s] else o ++ [(p.1, max p.2 s.2)] := by simp [stepJ]
theorem nil_or_snoc (l : List Sp) : l = [] ∨ ∃ o p, l = o ++ [p] := by
  rcases List.eq_nil_or_concat l with h | ⟨o, p, h⟩
  · exact .inl h
  · exact .inr ⟨o, p, by simpa using h⟩
structure Jd (out l : List Sp) (m : Int) : Prop where
  right : rightFrom (-1) out = true
  has : ∀ n, inB out n = inB l n
  from_ : ∀ o p, out = o ++ [p] → p.1 ≤ m
theorem Jd.step {out l : List Sp} {m : Int} {s : Sp} (h : Jd out l m) (hs : Is s) (hm : m ≤ s.1) : Jd (stepJ out s) (l ++ [s]) s.1 := by
  obtain ⟨h1, h2, h3⟩ := h
  rcases nil_or_snoc out with rfl | ⟨o, p, rfl⟩
  · rw [stepJ_nil]
    refine ⟨by rw [rf_cons]; unfold Is at hs; exact ⟨hs, by omega, rfl⟩, fun n => ?_, fun o p ho => ?_⟩
    · rw [inB_append, ← h2]; simp [inB]
    · rcases o with _ | ⟨x, o⟩
      · simp at ho; rw [ho]; exact Int.le_refl _
      · simp at ho
  · have hp := h3 o p rfl
    rw [stepJ_snoc]
    rw [rf_append, Bool.and_eq_true, rf_cons] at h1
    obtain ⟨k1, k2, k3, -⟩ := h1
    by_cases hc : p.2 < s.1
    · rw [if_pos hc]
      refine ⟨?_, fun n => ?_, fun o' p' ho => ?_⟩
      · rw [rf_append, Bool.and_eq_true]
        refine ⟨by rw [rf_append, Bool.and_eq_true, rf_cons]; exact ⟨k1, k2, k3, rfl⟩, ?_⟩
        rw [rf_cons, endOf_append]
        exact ⟨hs, hc, rfl⟩
      · rw [inB_append, inB_append l, h2]
      · have := (List.append_inj' ho rfl).2
        simp at this; rw [← this]; exact Int.le_refl _
    · rw [if_neg hc]
      refine ⟨?_, fun n => ?_, fun o' p' ho => ?_⟩
      · rw [rf_append, Bool.and_eq_true, rf_cons]
        unfold Is at k2 hs
        exact ⟨k1, ⟨k2.1, by simp only; omega, by simp only; omega⟩, k3, rfl⟩
      · rw [inB_append l, ← h2, inB_append, inB_append, Bool.or_assoc]
        congr 1
        rw [Bool.eq_iff_iff, Bool.or_eq_true]
        simp only [inB, List.any_cons, List.any_nil, Bool.or_false, inS_iff]
        unfold Is at k2 hs
        omega
      · have := (List.append_inj' ho rfl).2
        simp at this; rw [← this]; simp only; omega
def allIs (l : List Sp) : Bool := l.all isB
theorem allIs_iff {l : List Sp} : allIs l = true ↔ ∀ s ∈ l, Is s := by simp [allIs, isB_iff]
theorem right_all {l : List Sp} (h : rightP l = true) : allIs l = true := allIs_iff.2 (fun s hs => (rf_is h s hs).1)
/-! Add. -/
/-! Cut. -/
def putP (f t : Int) : List Sp := if f < t then [(f, t)] else []
def cutP (l : List Sp) (s : Sp) : List Sp := l.flatMap (fun x => putP x.1 (min x.2 s.1) ++ putP (max x.1 s.2) x.2)
theorem putP_in (f t n : Int) : inB (putP f t) n = decide (f ≤ n ∧ n < t) := by
  unfold putP
  split
  · simp [inB, inS]
  · rw [inB_nil]; symm; rw [decide_eq_false_iff_not]; omega
theorem putP_right {e f t : Int} (h0 : 0 ≤ f) (ht : t ≤ 65535) (he : e < f) : rightFrom e (putP f t) = true := by
  unfold putP
  split
  · rw [rf_cons]; exact ⟨⟨h0, by assumption, ht⟩, he, rfl⟩
  · rfl
theorem putP_end {e f t : Int} (he : e < f) : endOf e (putP f t) ≤ max e t := by
  unfold putP
  split
  · show t ≤ _; omega
  · show e ≤ _; omega
theorem cut_from : ∀ (l : List Sp) (s : Sp) (e : Int), Is s → rightFrom e l = true → rightFrom e (cutP l s) = true ∧ ∀ n, inB (cutP l s) n = (inB l n && !inS s n)
  | [], s, e, hs, hl => ⟨rfl, fun n => rfl⟩
  | x :: r, s, e, hs, hl => by
    obtain ⟨h1, h2, h3⟩ := rf_cons.1 hl
    obtain ⟨k1, k2⟩ := cut_from r s x.2 hs h3
    have hcons : cutP (x :: r) s = putP x.1 (min x.2 s.1) ++ putP (max x.1 s.2) x.2 ++ cutP r s := by simp [cutP]
    rw [hcons]
    unfold Is at h1 hs
    have e1 : endOf e (putP x.1 (min x.2 s.1)) ≤ max e (min x.2 s.1) := putP_end h2
    have e2 : endOf (endOf e (putP x.1 (min x.2 s.1))) (putP (max x.1 s.2) x.2) ≤ max (endOf e (putP x.1 (min x.2 s.1))) x.2 := putP_end (by omega)
    refine ⟨?_, fun n => ?_⟩
    · rw [rf_append, rf_append, Bool.and_eq_true, Bool.and_eq_true, endOf_append]
      exact ⟨⟨putP_right h1.1 (by omega) h2, putP_right (by omega) (by omega) (by omega)⟩, rf_mono k1 (by omega)⟩
    · rw [inB_append, inB_append, k2, putP_in, putP_in, inB_cons]
      cases hb : inB r n with
      | false =>
        rw [Bool.eq_iff_iff]
        simp only [Bool.or_eq_true, Bool.and_eq_true, decide_eq_true_eq, Bool.not_eq_true', Bool.false_and, Bool.or_false, inS_iff]
        cases hq : inS s n with
        | true => rw [inS_iff] at hq; simp; omega
        | false =>
          have : ¬ (s.1 ≤ n ∧ n < s.2) := by rw [← inS_iff, hq]; simp
          simp; omega
      | true =>
        have := rf_above h3 hb
        rw [Bool.eq_iff_iff]
        simp only [Bool.or_eq_true, Bool.and_eq_true, decide_eq_true_eq, Bool.true_and, inS_iff]
        cases hq : inS s n with
        | true => simp; omega
        | false => simp
theorem cut_of {l : List Sp} {s : Sp} (hl : rightP l = true) (hs : Is s) : Of (cutP l s) (fun n => inB l n && !inS s n) := ⟨(cut_from l s _ hs hl).1, (cut_from l s _ hs hl).2⟩
/-! Holes. -/
/-! Has, Meets, Size. -/
def hasP (l : List Sp) (s : Sp) : Bool := l.any (fun x => decide (x.1 ≤ s.1 ∧ s.2 ≤ x.2))
theorem has_iff {l : List Sp} {s : Sp} (hl : rightP l = true) (hs : Is s) : hasP l s = true ↔ ∀ n, inS s n = true → inB l n = true := by
  unfold Is at hs
  simp only [hasP, List.any_eq_true, decide_eq_true_eq]
  constructor
  · rintro ⟨x, hx, h1, h2⟩ n hn
    rw [inS_iff] at hn
    exact inB_iff.2 ⟨x, hx, by omega, by omega⟩
  · intro h
    obtain ⟨x, hx, h1, h2⟩ := inB_iff.1 (h s.1 (by rw [inS_iff]; omega))
    refine ⟨x, hx, h1, ?_⟩
    have ht := rf_tip hl x hx
    rcases Int.lt_or_le x.2 s.2 with hc | hc
    · rw [h x.2 (by rw [inS_iff]; omega)] at ht; simp at ht
    · exact hc
def lenP (l : List Sp) : Int := (l.map (fun s => s.2 - s.1)).sum
def cnt (f : Int → Bool) : Nat → Int
  | 0 => 0
  | n + 1 => cnt f n + if f n then 1 else 0
theorem cnt_congr {f g : Int → Bool} : ∀ {N : Nat}, (∀ n : Nat, n < N → f n = g n) → cnt f N = cnt g N
  | 0, h => rfl
  | N + 1, h => by unfold cnt; rw [cnt_congr (fun n hn => h n (by omega)), h N (by omega)]
theorem cnt_or (f g : Int → Bool) : ∀ N : Nat, (∀ n, f n = true → g n = false) → cnt (fun n => f n || g n) N = cnt f N + cnt g N
  | 0, h => rfl
  | N + 1, h => by
    unfold cnt
    rw [cnt_or f g N h]
    have := h N
    cases hf : f N <;> cases hg : g N <;> simp_all <;> omega
theorem cnt_none : ∀ N : Nat, cnt (fun _ => false) N = 0
  | 0 => rfl
  | N + 1 => by unfold cnt; rw [cnt_none N]; rfl
theorem cnt_span (s : Sp) (h0 : 0 ≤ s.1) : ∀ N : Nat, cnt (inS s) N = max 0 (min s.2 N - s.1)
  | 0 => by show (0 : Int) = _; omega
  | N + 1 => by
    unfold cnt
    rw [cnt_span s h0 N]
    cases hq : inS s N with
    | true => rw [inS_iff] at hq; rw [if_pos rfl]; omega
    | false =>
      have : ¬ (s.1 ≤ (N : Int) ∧ (N : Int) < s.2) := by rw [← inS_iff, hq]; simp
      rw [if_neg (by simp)]; omega
theorem len_cnt : ∀ (l : List Sp) (e : Int), rightFrom e l = true → lenP l = cnt (inB l) 65535
  | [], e, h => (cnt_none 65535).symm
  | s :: r, e, h => by
    obtain ⟨h1, h2, h3⟩ := rf_cons.1 h
    have := cnt_or (inS s) (inB r) 65535 (fun n hn => by
      rw [Bool.eq_false_iff]; intro hc
      have := rf_above h3 hc
      rw [inS_iff] at hn; omega)
    have e1 : cnt (inB (s :: r)) 65535 = cnt (fun n => inS s n || inB r n) 65535 := rfl
    rw [e1, this, ← len_cnt r s.2 h3, cnt_span s h1.1]
    unfold Is at h1
    unfold lenP
    simp only [List.map_cons, List.sum_cons]
    omega
def sizeP (l : List Sp) : Int := if rightP l then lenP l else 0
theorem size_cnt {l : List Sp} (h : rightP l = true) : sizeP l = cnt (inB l) 65535 := by unfold sizeP; rw [if_pos h]; exact len_cnt l _ h
theorem rf_short : ∀ (l : List Sp) (e : Int), rightFrom e l = true → -1 ≤ e → 2 * (l.length : Int) + e ≤ max e 65535
  | [], e, h, he => by simp; omega
  | s :: r, e, h, he => by
    obtain ⟨h1, h2, h3⟩ := rf_cons.1 h
    unfold Is at h1
    have := rf_short r s.2 h3 (by omega)
    rw [List.length_cons]
    push_cast
    omega
theorem right_short {l : List Sp} (h : rightP l = true) : l.length ≤ 32768 := by
  have := rf_short l (-1) h (by omega)
  omega
end Go.Proofs.YtkccpidgeecemaaGreatDoor.H
