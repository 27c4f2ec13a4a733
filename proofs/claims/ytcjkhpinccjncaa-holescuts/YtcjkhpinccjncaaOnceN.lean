/-
  What HolesOnce asks, as plain data.
-/
import Derived.Test.YtcjkhpinccjncaaRkit
namespace Go.Proofs.Ytcjkhpinccjncaa
set_option linter.unusedVariables false
set_option linter.unusedSimpArgs false

theorem aprt_of {a b : List Sp} (ha : ∀ x ∈ a, Is x) (hb : ∀ y ∈ b, Is y) (h : ∀ n, inB a n = true → inB b n = false) : Aprt a b := fun x hx y hy hc => by
  have h1 := ha x hx
  have h2 := hb y hy
  unfold Is at h1 h2
  have h3 : inB a (max x.1 y.1) = true := inB_iff.2 ⟨x, hx, by omega, by omega⟩
  have h4 : inB b (max x.1 y.1) = true := inB_iff.2 ⟨y, hy, by omega, by omega⟩
  rw [h _ h3] at h4
  simp at h4
theorem lenP_append (a b : List Sp) : lenP (a ++ b) = lenP a + lenP b := by simp [lenP]
/-- What was told so far. -/
structure Tld (T : Int → Bool) (all : List Sp) (k : Nat) : Prop where
  is : ∀ x ∈ all, Is x
  has : ∀ n, inB all n = T n
  len : lenP all = cnt T 65535
  short : all.length ≤ k * 40000
theorem len_none {c : Int} (h : c = 0) : lenP [] = c := by rw [h]; rfl
theorem Tld.none : Tld (fun _ => false) [] 0 where
  is := by simp
  has := fun n => rfl
  len := len_none (cnt_none 65535)
  short := by simp
theorem Tld.mono {T : Int → Bool} {all : List Sp} {k j : Nat} (h : Tld T all k) (hj : k ≤ j) : Tld T all j := ⟨h.is, h.has, h.len, Nat.le_trans h.short (Nat.mul_le_mul_right _ hj)⟩
/-- All that HolesOnce asks of a Put that was taken. -/
structure OnceR (T : Int → Bool) (m : List Sp) (e off n : Int) (more : Bool) (all : List Sp) (k : Nat) (a h : List Sp) (e' : Int) : Prop where
  ra : rightP a = true
  rh : rightP h = true
  wi : ∀ x ∈ a, off ≤ x.1 ∧ x.2 ≤ off + n
  m1 : Aprt a all
  m2 : Aprt h a
  tld : Tld (fun i => T i || inS (off, off + n) i) (all ++ a) (k + 1)
  sum : lenP (all ++ a) + lenP h = topOf e'
  b1 : 0 ≤ lenP (all ++ a) ∧ 0 ≤ lenP h
  m3 : Aprt (all ++ a) h
  dn : doneP h e' = (decide (0 ≤ e') && decide (h = []))
  ee : e' = -1 ∨ (1 ≤ e' ∧ e' ≤ 65535)
theorem once_r {T : Int → Bool} {m : List Sp} {e off n : Int} {more : Bool} {all : List Sp} {k : Nat} (hh : Ho T m e) (hok : putOk m e off n more = true) (ht : Tld T all k) :
    OnceR T m e off n more all k (freshP m (off, off + n)) (putM m off n more) (putE e off n more) := by
  have hp := put_ho hh hok
  have hok' := hok
  unfold putOk at hok'
  rw [Bool.and_eq_true] at hok'
  have hf := fresh_ho hh hok'.1 hok'.2
  have hfi := right_is hf.right
  have hhi := right_is hp.of.right
  have key : ∀ i, inB (all ++ freshP m (off, off + n)) i = (T i || inS (off, off + n) i) := fun i => by
    rw [inB_append, ht.has, hf.has]
    cases T i <;> cases inS (off, off + n) i <;> rfl
  have hti : ∀ x ∈ all ++ freshP m (off, off + n), Is x := fun x hx => by
    rw [List.mem_append] at hx
    rcases hx with hx | hx
    · exact ht.is x hx
    · exact hfi x hx
  have hlen : lenP (all ++ freshP m (off, off + n)) = cnt (fun i => T i || inS (off, off + n) i) 65535 := by
    have h1 := cnt_or T (fun i => inS (off, off + n) i && !T i) 65535 (fun i hi => by simp [hi])
    rw [lenP_append, ht.len, show lenP (freshP m (off, off + n)) = cnt (fun i => inS (off, off + n) i && !T i) 65535 from by
      rw [len_cnt _ _ hf.right]; exact cnt_congr (fun i _ => hf.has i), ← h1]
    refine cnt_congr (fun i _ => ?_)
    cases T i <;> cases inS (off, off + n) i <;> rfl
  have hsh := right_short hf.right
  refine ⟨hf.right, hp.of.right, fun x hx => ?_, aprt_of hfi ht.is (fun i hi => ?_), aprt_of hhi hfi (fun i hi => ?_), ⟨hti, key, hlen, ?_⟩, ?_, ⟨(len_bound _ hti).1, (len_bound _ hhi).1⟩, aprt_of hti hhi (fun i hi => ?_), ?_, hp.en⟩
  · have hi := hfi x hx
    unfold Is at hi
    have h1 : inB (freshP m (off, off + n)) x.1 = true := inB_iff.2 ⟨x, hx, by omega, by omega⟩
    have h2 : inB (freshP m (off, off + n)) (x.2 - 1) = true := inB_iff.2 ⟨x, hx, by omega, by omega⟩
    rw [hf.has, Bool.and_eq_true, inS_iff] at h1 h2
    simp only at h1 h2
    omega
  · rw [hf.has, Bool.and_eq_true] at hi
    rw [ht.has]
    simpa using hi.2
  · rw [hp.of.has] at hi
    rw [hf.has]
    cases h1 : inS (off, off + n) i
    · rfl
    · rw [h1] at hi; simp at hi
  · rw [List.length_append]
    have := ht.short
    omega
  · rw [hlen, show lenP (putM m off n more) = cnt (fun i => decide (0 ≤ i ∧ i < topOf (putE e off n more)) && !(T i || inS (off, off + n) i)) 65535 from by
      rw [len_cnt _ _ hp.of.right]; exact cnt_congr (fun i _ => hp.of.has i)]
    rw [← cnt_or _ _ 65535 (fun i hi => by show (_ && !(T i || inS (off, off + n) i)) = false; rw [show (T i || inS (off, off + n) i) = true from hi]; simp)]
    have h2 := cnt_span (0, topOf (putE e off n more)) (by simp) 65535
    have htop : 0 ≤ topOf (putE e off n more) ∧ topOf (putE e off n more) ≤ 65535 := by
      have := hp.en
      unfold topOf
      split <;> omega
    rw [show (max 0 (min (topOf (putE e off n more)) ((65535 : Nat) : Int) - 0) : Int) = topOf (putE e off n more) from by omega] at h2
    refine Eq.trans (cnt_congr (g := inS (0, topOf (putE e off n more))) (fun i _ => ?_)) h2
    have h3 := hp.there i
    show ((T i || inS (off, off + n) i) || (decide (0 ≤ (i : Int) ∧ (i : Int) < topOf (putE e off n more)) && !(T i || inS (off, off + n) i))) = decide (0 ≤ (i : Int) ∧ (i : Int) < topOf (putE e off n more))
    cases h4 : (T i || inS (off, off + n) i)
    · simp
    · rw [decide_eq_true (h3 h4)]; rfl
  · rw [key] at hi
    rw [hp.of.has, hi]
    simp
  · unfold doneP
    have := hp.en
    congr 1
    rw [decide_eq_decide]
    omega
theorem fits_len {T : Int → Bool} {all : List Sp} {k : Nat} (h : Tld T all k) (hk : k ≤ 201) : all.length ≤ 8040000 := by have := h.short; omega
#print axioms once_r
end Go.Proofs.Ytcjkhpinccjncaa
