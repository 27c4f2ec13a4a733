/-
  For EntryHolds: what its book asks of a Put, and what an entry tells behind it.
-/
import Derived.Test.YtkccpidgeecemaaGreatDoorHHol
import Derived.Test.YtkccpidgeecemaaGreatDoorEnI
import Derived.Test.YtkccpidgeecemaaGreatDoorEPut
namespace Go.Proofs.YtkccpidgeecemaaGreatDoor.H
set_option linter.unusedVariables false
set_option linter.unusedSimpArgs false
def stB (f : Int → Bool) (n : Int) : Bool := f n && !f (n - 1)
theorem st_cons {s : Sp} {r : List Sp} {e : Int} (h : rightFrom e (s :: r) = true) (n : Int) : stB (inB (s :: r)) n = (inS (s.1, s.1 + 1) n || stB (inB r) n) := by
  obtain ⟨h1, h2, h3⟩ := rf_cons.1 h
  have hs : s.1 < s.2 := h1.2.1
  unfold stB
  rw [inB_cons, inB_cons]
  by_cases hr : inB r n = true
  · have h4 := rf_above h3 hr
    have e1 : inS s n = false := by rw [Bool.eq_false_iff]; intro hc; rw [inS_iff] at hc; omega
    have e2 : inS s (n - 1) = false := by rw [Bool.eq_false_iff]; intro hc; rw [inS_iff] at hc; omega
    have e3 : inS (s.1, s.1 + 1) n = false := by rw [Bool.eq_false_iff]; intro hc; rw [inS_iff] at hc; simp only at hc; omega
    rw [e1, e2, e3, hr]; simp
  · rw [Bool.not_eq_true] at hr
    rw [hr]
    simp only [Bool.or_false, Bool.false_and]
    by_cases h5 : n = s.1
    · have e1 : inS s n = true := by rw [inS_iff]; omega
      have e2 : inS s (n - 1) = false := by rw [Bool.eq_false_iff]; intro hc; rw [inS_iff] at hc; omega
      have e3 : inS (s.1, s.1 + 1) n = true := by rw [inS_iff]; simp only; omega
      have e4 : inB r (n - 1) = false := by rw [Bool.eq_false_iff]; intro hc; have := rf_above h3 hc; omega
      rw [e1, e2, e3, e4]; rfl
    · have e3 : inS (s.1, s.1 + 1) n = false := by rw [Bool.eq_false_iff]; intro hc; rw [inS_iff] at hc; simp only at hc; omega
      rw [e3]
      by_cases h6 : inS s n = true
      · have e2 : inS s (n - 1) = true := by rw [inS_iff] at h6 ⊢; omega
        rw [e2, h6]; rfl
      · rw [Bool.not_eq_true] at h6
        rw [h6]; rfl
theorem st_len : ∀ (l : List Sp) (e : Int) (N : Nat), rightFrom e l = true → -1 ≤ e → endOf e l ≤ N → cnt (stB (inB l)) N = l.length
  | [], e, N, h, he, hN => by
    rw [cnt_congr (g := fun _ => false) (fun n _ => by simp [stB, inB]), cnt_none]; rfl
  | s :: r, e, N, h, he, hN => by
    obtain ⟨h1, h2, h3⟩ := rf_cons.1 h
    have hs : s.1 < s.2 := h1.2.1
    have hN2 : endOf s.2 r ≤ N := hN
    have h4 := (rf_end h3).1
    rw [cnt_congr (g := fun n => inS (s.1, s.1 + 1) n || stB (inB r) n) (fun n _ => st_cons h n), cnt_or, cnt_span _ (by simp only; omega), st_len r s.2 N h3 (by omega) hN2]
    · simp only [List.length_cons]; omega
    · intro n hn
      rw [inS_iff] at hn
      simp only at hn
      rw [Bool.eq_false_iff]
      intro hc
      unfold stB at hc
      rw [Bool.and_eq_true] at hc
      have := rf_above h3 hc.1
      omega
theorem cnt_upto {f g : Int → Bool} {M : Nat} (hf : ∀ n : Nat, n < M → f n = g n) : ∀ N : Nat, M ≤ N → (∀ n : Nat, M ≤ n → n < N → f n = false) → cnt f N = cnt g M
  | 0, h1, h2 => by
    obtain rfl : M = 0 := by omega
    rfl
  | N + 1, h1, h2 => by
    by_cases h : M = N + 1
    · subst h; exact cnt_congr hf
    · show cnt f N + (if f N = true then 1 else 0) = _
      rw [cnt_upto hf N (by omega) (fun n a b => h2 n a (by omega)), h2 N (by omega) (by omega)]
      simp
theorem right_end {m : List Sp} (h : rightP m = true) : endOf (-1) m ≤ 65535 := by
  unfold rightP at h
  cases m with
  | nil => simp [endOf]
  | cons s r =>
    have : ∀ (l : List Sp) (e : Int), rightFrom e l = true → e ≤ 65535 → endOf e l ≤ 65535 := by
      intro l
      induction l with
      | nil => intro e _ he; exact he
      | cons x q ih =>
        intro e hx he
        obtain ⟨h1, h2, h3⟩ := rf_cons.1 hx
        exact ih x.2 h3 h1.2.2
    exact this _ _ h (by omega)
def gapB (B : Int → Bool) (n : Int) : Bool := !B n && (decide (n = 0) || B (n - 1))
theorem holes_end {T : Int → Bool} {m : List Sp} {e : Int} (h : Ho T m e) (he : e ≠ -1) : (m.length : Int) = cnt (gapB T) e.toNat := by
  have hen := h.en
  rw [← st_len m (-1) 65535 h.of.right (by omega) (right_end h.of.right)]
  refine cnt_upto (M := e.toNat) (fun n hn => ?_) 65535 (by omega) (fun n h1 h2 => ?_)
  · unfold stB gapB
    rw [h.of.has, h.of.has]
    have ht : topOf e = e := by unfold topOf; rw [if_neg he]
    rw [ht]
    have e1 : decide (0 ≤ (n : Int) ∧ (n : Int) < e) = true := by rw [decide_eq_true_eq]; omega
    rw [e1]
    by_cases h0 : n = 0
    · subst h0; simp
    · have e2 : decide (0 ≤ (n : Int) - 1 ∧ (n : Int) - 1 < e) = true := by rw [decide_eq_true_eq]; omega
      have e3 : decide ((n : Int) = 0) = false := by rw [decide_eq_false_iff_not]; omega
      rw [e2, e3]; simp
  · unfold stB
    rw [h.of.has]
    have ht : topOf e = e := by unfold topOf; rw [if_neg he]
    rw [ht]
    have e1 : decide (0 ≤ (n : Int) ∧ (n : Int) < e) = false := by rw [decide_eq_false_iff_not]; omega
    rw [e1]; simp
theorem holes_open {T : Int → Bool} {m : List Sp} (h : Ho T m (-1)) {k : Nat} (hk : k < 65535) (h1 : k = 0 ∨ T ((k : Int) - 1) = true) (h2 : ∀ n : Int, k ≤ n → T n = false) : (m.length : Int) = 1 + cnt (gapB T) k := by
  rw [← st_len m (-1) 65535 h.of.right (by omega) (right_end h.of.right)]
  have hc : cnt (gapB T) (k + 1) = 1 + cnt (gapB T) k := by
    have e1 : gapB T (k : Int) = true := by
      unfold gapB
      rw [h2 k (by omega)]
      rcases h1 with h1 | h1
      · subst h1; simp
      · rw [h1]; simp
    show cnt (gapB T) k + _ = _
    rw [e1]; simp; omega
  rw [← hc]
  have ht : topOf (-1) = 65535 := rfl
  refine cnt_upto (M := k + 1) (fun n hn => ?_) 65535 (by omega) (fun n a b => ?_)
  · unfold stB gapB
    rw [h.of.has, h.of.has, ht]
    have e1 : decide (0 ≤ (n : Int) ∧ (n : Int) < 65535) = true := by rw [decide_eq_true_eq]; omega
    rw [e1]
    by_cases h0 : n = 0
    · subst h0; simp
    · have e2 : decide (0 ≤ (n : Int) - 1 ∧ (n : Int) - 1 < 65535) = true := by rw [decide_eq_true_eq]; omega
      have e3 : decide ((n : Int) = 0) = false := by rw [decide_eq_false_iff_not]; omega
      rw [e2, e3]; simp
  · unfold stB
    rw [h.of.has, h.of.has, ht, h2 ((n : Int) - 1) (by omega)]
    have e1 : decide (0 ≤ (n : Int) ∧ (n : Int) < 65535) = true := by rw [decide_eq_true_eq]; omega
    have e2 : decide (0 ≤ (n : Int) - 1 ∧ (n : Int) - 1 < 65535) = true := by rw [decide_eq_true_eq]; omega
    rw [e1, e2]; simp
end Go.Proofs.YtkccpidgeecemaaGreatDoor.H
namespace Go.Proofs.YtkccpidgeecemaaGreatDoor
set_option linter.unusedVariables false
set_option linter.unusedSimpArgs false
set_option maxRecDepth 20000
theorem over_at {d xs : List Int} {i : Nat} (h : i + xs.length ≤ d.length) (n : Nat) : (over d i xs)[n]? = if i ≤ n ∧ n < i + xs.length then xs[n - i]? else d[n]? := by
  unfold over
  by_cases h1 : n < i
  · rw [if_neg (by omega), List.append_assoc, List.getElem?_append_left (by simp; omega), List.getElem?_take, if_pos h1]
  · have e1 : (d.take i).length = i := by simp; omega
    rw [List.append_assoc, List.getElem?_append_right (by omega), e1]
    by_cases h2 : n < i + xs.length
    · rw [if_pos (by omega), List.getElem?_append_left (by omega)]
    · rw [if_neg (by omega), List.getElem?_append_right (by omega), List.getElem?_drop]
      congr 1; omega
theorem laySp_at {p : Pk} (hq : Plc p) {d : List Int} {s : H.Sp} (hs : p.off ≤ s.1 ∧ s.1 < s.2 ∧ s.2 ≤ endP p) (hd : endP p ≤ d.length) (n : Nat) :
    (laySp p.off p.d d s)[n]? = if H.inS s n = true then p.d[n - p.off.toNat]? else d[n]? := by
  have h0 := hq.o0
  unfold endP at hs hd
  have hl : ((p.d.drop (s.1 - p.off).toNat).take (s.2 - s.1).toNat).length = (s.2 - s.1).toNat := by
    rw [List.length_take, List.length_drop]; omega
  unfold laySp
  rw [over_at (by rw [hl]; omega), hl]
  by_cases h1 : H.inS s n = true
  · rw [if_pos h1]
    rw [H.inS_iff] at h1
    rw [if_pos (by omega), List.getElem?_take, if_pos (by omega), List.getElem?_drop]
    congr 1; omega
  · rw [if_neg h1]
    rw [H.inS_iff] at h1
    rw [if_neg (by omega)]
theorem layd_at {p : Pk} (hq : Plc p) : ∀ (fr : List H.Sp) (d : List Int), FrIn p fr → endP p ≤ d.length → ∀ n : Nat, (fr.foldl (laySp p.off p.d) d)[n]? = if H.inB fr n = true then p.d[n - p.off.toNat]? else d[n]?
  | [], d, hf, hd, n => by simp [H.inB]
  | s :: r, d, hf, hd, n => by
    have hs := hf s (by simp)
    have h0 := hq.o0
    have hl : (laySp p.off p.d d s).length = d.length := by
      have := layd_len hq [s] d (fun x hx => by simp at hx; subst hx; exact hs) hd
      simpa using this
    rw [List.foldl_cons, layd_at hq r _ (fun x hx => hf x (by simp [hx])) (by rw [hl]; exact hd) n, laySp_at hq hs hd, H.inB_cons]
    cases H.inS s n <;> cases H.inB r n <;> simp
theorem grow_at {d : List Int} {n k : Nat} (h : k < d.length) : (grow d n)[k]? = d[k]? := by
  unfold grow
  rw [List.getElem?_append_left h]
theorem take_drop_iff {d x : List Int} {o : Nat} (h : o + x.length ≤ d.length) : (d.drop o).take x.length = x ↔ ∀ i : Nat, i < x.length → d[o + i]? = x[i]? := by
  constructor
  · intro he i hi
    have := congrArg (fun l => l[i]?) he
    simp only [List.getElem?_take, if_pos hi, List.getElem?_drop] at this
    exact this
  · intro he
    apply List.ext_getElem?
    intro i
    rw [List.getElem?_take]
    by_cases hi : i < x.length
    · rw [if_pos hi, List.getElem?_drop]; exact he i hi
    · rw [if_neg hi, List.getElem?_eq_none (by omega)]
structure Hd (s : Es) (T : Int → Bool) (Y : Nat → Int) : Prop where
  iv : Iv s T
  ok : s.bad = false
  byt : ∀ n : Nat, T n = true → s.d[n]? = some (Y n)
  lt : ∀ n : Int, T n = true → n < 4000
  el : s.e ≤ 4000
  pe : ∀ o, 0 < (s.ps o).1 → (s.ps o).2 = false → s.e ≠ -1
theorem hd_new (k : Pk) (t : Int) (Y : Nat → Int) : Hd (newS k t) (fun _ => false) Y :=
  ⟨iv_new k t, rfl, by simp, by simp, by simp [newS], by simp [newS]⟩
def YY (Y : Nat → Int) (p : Pk) : Nat → Int := fun k => if H.inS (p.off, p.off + p.d.length) k = true then (p.d[k - p.off.toNat]?).getD 0 else Y k
def Other (T : Int → Bool) (Y : Nat → Int) (p : Pk) : Prop := ∃ i : Nat, i < p.d.length ∧ T (p.off + i) = true ∧ p.d[i]? ≠ some (Y (p.off.toNat + i))
def All (T : Int → Bool) (p : Pk) : Prop := ∀ i : Nat, i < p.d.length → T (p.off + i) = true
def None' (T : Int → Bool) (p : Pk) : Prop := ∀ i : Nat, i < p.d.length → T (p.off + i) = false
section
variable {s : Es} {T : Int → Bool} {Y : Nat → Int} {p : Pk}
theorem inS_at (hq : Plc p) (k : Int) : H.inS (p.off, p.off + p.d.length) k = true ↔ ∃ i : Nat, i < p.d.length ∧ k = p.off + i := by
  rw [H.inS_iff]
  simp only
  constructor
  · intro h; exact ⟨(k - p.off).toNat, by omega, by omega⟩
  · rintro ⟨i, h1, rfl⟩; omega
theorem fresh_nil (h : H.Ho T s.m s.e) (hok : H.putOk s.m s.e p.off p.d.length p.more = true) (hq : Plc p) : freshE s p = [] ↔ All T p := by
  obtain ⟨h1, h2, h3, h4⟩ := fresh_fin h hok hq
  constructor
  · intro he i hi
    have := h4 (p.off + i)
    rw [he, (inS_at hq _).2 ⟨i, hi, rfl⟩] at this
    simpa [H.inB] using this
  · intro ha
    cases hf : freshE s p with
    | nil => rfl
    | cons x r =>
      exfalso
      have h5 := h1 x (by rw [hf]; simp)
      have h6 := h4 x.1
      rw [hf, show H.inB (x :: r) x.1 = true from H.inB_iff.2 ⟨x, by simp, by omega, by omega⟩] at h6
      have h6 := h6.symm
      rw [Bool.and_eq_true] at h6
      obtain ⟨i, hi, he⟩ := (inS_at hq _).1 h6.1
      rw [he, ha i hi] at h6
      simp at h6
theorem fresh_all (h : H.Ho T s.m s.e) (hok : H.putOk s.m s.e p.off p.d.length p.more = true) (hq : Plc p) : H.sizeP (freshE s p) = p.d.length ↔ None' T p := by
  obtain ⟨h1, h2, h3, h4⟩ := fresh_fin h hok hq
  have h0 := hq.o0
  have htt := hq.tt
  rw [H.size_cnt h3]
  have hc : H.cnt (H.inS (p.off, p.off + p.d.length)) 65535 = p.d.length := by
    rw [H.cnt_span _ h0]; simp only; omega
  have hsum : H.cnt (H.inB (freshE s p)) 65535 + H.cnt (fun k => H.inS (p.off, p.off + p.d.length) k && T k) 65535 = p.d.length := by
    refine Eq.trans ?_ hc
    rw [← H.cnt_or _ _ 65535 (fun n hn => by rw [h4, Bool.and_eq_true] at hn; simp at hn; simp [hn.2])]
    refine H.cnt_congr (fun n _ => ?_)
    rw [h4]
    cases H.inS (p.off, p.off + p.d.length) n <;> cases T n <;> rfl
  constructor
  · intro he i hi
    have hz : H.cnt (fun k => H.inS (p.off, p.off + p.d.length) k && T k) 65535 = 0 := by omega
    have : ∀ N : Nat, H.cnt (fun k => H.inS (p.off, p.off + p.d.length) k && T k) N = 0 → ∀ n : Nat, n < N → (H.inS (p.off, p.off + p.d.length) n && T n) = false := by
      intro N
      induction N with
      | zero => intro _ n hn; omega
      | succ N ih =>
        intro hz n hn
        have hz' : H.cnt (fun k => H.inS (p.off, p.off + p.d.length) k && T k) N + (if (H.inS (p.off, p.off + p.d.length) N && T N) = true then 1 else 0) = 0 := hz
        have hge := (cnt_le (fun k => H.inS (p.off, p.off + p.d.length) k && T k) N).1
        by_cases hN : n = N
        · subst hN
          rw [Bool.eq_false_iff]; intro hc
          rw [if_pos hc] at hz'; omega
        · exact ih (by split at hz' <;> omega) n (by omega)
    have h5 := this 65535 hz (p.off.toNat + i) (by omega)
    rw [show ((p.off.toNat + i : Nat) : Int) = p.off + i from by omega, (inS_at hq _).2 ⟨i, hi, rfl⟩] at h5
    simpa using h5
  · intro hn
    have hz : H.cnt (fun k => H.inS (p.off, p.off + p.d.length) k && T k) 65535 = 0 := by
      rw [H.cnt_congr (g := fun _ => false) (fun n _ => ?_), H.cnt_none]
      cases hs : H.inS (p.off, p.off + p.d.length) n with
      | false => rfl
      | true =>
        obtain ⟨i, hi, he⟩ := (inS_at hq _).1 hs
        rw [he, hn i hi]; rfl
    omega
theorem lay_at (h : Hd s T Y) (hok : H.putOk s.m s.e p.off p.d.length p.more = true) (hq : Plc p) (s2 : Es) (hd : s2.d = s.d) (n : Nat) (hn : TT T p n = true) :
    (layS s2 p (freshE s p)).d[n]? = if T n = true then some (Y n) else p.d[n - p.off.toNat]? := by
  obtain ⟨h1, h2, h3, h4⟩ := fresh_fin h.iv.ho hok hq
  have hend := end_nat' hq
  show (freshE s p |>.foldl (laySp p.off p.d) (grow s2.d (endP p).toNat))[n]? = _
  rw [layd_at hq _ _ h1 (by rw [grow_len]; unfold endP at *; omega), h4]
  unfold TT at hn
  by_cases hT : T n = true
  · rw [if_neg (by rw [hT]; simp), if_pos hT, grow_at (by rw [hd]; have := h.iv.there n hT; omega), hd, h.byt n hT]
  · rw [if_neg hT]
    rw [Bool.not_eq_true] at hT
    rw [hT] at hn ⊢
    simp only [Bool.false_or] at hn
    rw [hn]; simp
theorem agr_iff (h : Hd s T Y) (hok : H.putOk s.m s.e p.off p.d.length p.more = true) (hq : Plc p) (s2 : Es) (hd : s2.d = s.d) : agrP (layS s2 p (freshE s p)) p = true ↔ ¬ Other T Y p := by
  obtain ⟨h1, h2, h3, h4⟩ := fresh_fin h.iv.ho hok hq
  have h0 := hq.o0
  have hend := end_nat' hq
  have hl := lays_len' (s := s2) hq h1
  unfold agrP
  rw [decide_eq_true_eq, take_drop_iff (by rw [hl]; omega)]
  have hat : ∀ i : Nat, i < p.d.length → (layS s2 p (freshE s p)).d[p.off.toNat + i]? = if T (p.off + i) = true then some (Y (p.off.toNat + i)) else p.d[i]? := fun i hi => by
    have e1 : ((p.off.toNat + i : Nat) : Int) = p.off + i := by omega
    have := lay_at h hok hq s2 hd (p.off.toNat + i) (by unfold TT; rw [e1, (inS_at hq _).2 ⟨i, hi, rfl⟩]; simp)
    rw [this, e1]
    congr 2; omega
  constructor
  · rintro ha ⟨i, hi, ht, hne⟩
    have := ha i hi
    rw [hat i hi, if_pos ht] at this
    exact hne this.symm
  · intro hno i hi
    rw [hat i hi]
    by_cases ht : T (p.off + i) = true
    · rw [if_pos ht]
      apply Classical.byContradiction
      intro hne
      exact hno ⟨i, hi, ht, fun e => hne e.symm⟩
    · rw [if_neg ht]
end
section
variable {s : Es} {T : Int → Bool} {Y : Nat → Int} {p : Pk}
theorem put_of (h4 : (takeS s p).1 ≠ 4) : H.putOk s.m s.e p.off p.d.length p.more = true := by
  cases hk : H.putOk s.m s.e p.off p.d.length p.more with
  | true => rfl
  | false => exfalso; apply h4; unfold takeS; rw [if_pos hk]
theorem take_me (h4 : (takeS s p).1 ≠ 4) : (takeS s p).2.m = H.putM s.m p.off p.d.length p.more ∧ (takeS s p).2.e = H.putE s.e p.off p.d.length p.more := by
  have hok := put_of h4
  obtain ⟨b1, b2, -, -, -, -, -, -⟩ := beg_eq (listS s p) p
  unfold takeS at h4 ⊢
  rw [if_neg (by rw [hok]; simp)] at h4 ⊢
  split
  · unfold take6
    split
    · exact ⟨b1, b2⟩
    · split <;> exact ⟨b1, b2⟩
  · unfold take4
    split
    · exact ⟨b1, b2⟩
    · split
      · exact ⟨b1, b2⟩
      · split <;> exact ⟨b1, b2⟩
theorem yy_in (hq : Plc p) {i : Nat} (hi : i < p.d.length) : p.d[i]? = some (YY Y p (p.off.toNat + i)) := by
  have h0 := hq.o0
  unfold YY
  rw [if_pos (by rw [inS_at hq]; exact ⟨i, hi, by omega⟩), show p.off.toNat + i - p.off.toNat = i from by omega, List.getElem?_eq_getElem hi]
  rfl
theorem yy_out {n : Nat} (h : H.inS (p.off, p.off + p.d.length) n = false) : YY Y p n = Y n := by unfold YY; rw [if_neg (by rw [h]; simp)]
theorem putE_ne (hq : Plc p) {e : Int} (h : p.more = false ∨ e ≠ -1) : H.putE e p.off p.d.length p.more ≠ -1 := by
  have h0 := hq.o0
  have h1 := hq.n1
  unfold H.putE
  split
  · rename_i hm; rcases h with h | h
    · rw [hm] at h; simp at h
    · exact h
  · omega
theorem laid_byt (h : Hd s T Y) (hok : H.putOk s.m s.e p.off p.d.length p.more = true) (hq : Plc p) (hno : ¬ Other T Y p) (s2 : Es) (hd : s2.d = s.d) : ∀ n : Nat, TT T p n = true → (layS s2 p (freshE s p)).d[n]? = some (YY Y p n) := fun n hn => by
  have h0 := hq.o0
  rw [lay_at h hok hq s2 hd n hn]
  cases hs : H.inS (p.off, p.off + p.d.length) n with
  | false =>
    rw [yy_out hs]
    unfold TT at hn
    rw [hs, Bool.or_false] at hn
    rw [if_pos hn]
  | true =>
    obtain ⟨i, hi, he⟩ := (inS_at hq _).1 hs
    have e1 : n = p.off.toNat + i := by omega
    subst e1
    rw [← yy_in hq hi]
    by_cases hT : T ((p.off.toNat + i : Nat) : Int) = true
    · rw [if_pos hT]
      apply Classical.byContradiction
      intro hne
      exact hno ⟨i, hi, by rw [← he]; exact hT, fun e => hne e.symm⟩
    · rw [if_neg hT]; congr 1; omega
theorem not_long (h : Hd s T Y) (hq : Plc p) (hw : Wf p) (ho : p.o.length ≤ 40) (hto : p.off + p.d.length ≤ 4000) : long4 (begS (listS s p) p) = false := by
  obtain ⟨b1, b2, -, -, -, -, -, -⟩ := beg_eq (listS s p) p
  have hhd : (begS (listS s p) p).hd ≤ 60 := by
    unfold begS
    split
    · exact h.iv.hd.2
    · exact (hd_bd p ho).2
  have he : (begS (listS s p) p).e ≤ 4000 := by
    rw [b2]
    show H.putE s.e p.off p.d.length p.more ≤ 4000
    have := h.el
    unfold H.putE
    split <;> omega
  unfold long4
  rw [decide_eq_false_iff_not]
  omega
theorem take_four (h : Hd s T Y) (hq : Plc p) (hw : Wf p) (ho : p.o.length ≤ 40) (hto : p.off + p.d.length ≤ 4000) (hv : p.v ≠ 6) (hok : H.putOk s.m s.e p.off p.d.length p.more = true) :
    (Other T Y p → (takeS s p).1 = 4) ∧ (¬ Other T Y p → (takeS s p).1 ≠ 4 ∧ ((All T p ∧ H.putE s.e p.off p.d.length p.more = s.e → (takeS s p).1 = 3) ∧ (¬ (All T p ∧ H.putE s.e p.off p.d.length p.more = s.e) → (takeS s p).1 = progN (takeS s p).2)) ∧
      (∀ n : Nat, TT T p n = true → (takeS s p).2.d[n]? = some (YY Y p n)) ∧ (takeS s p).2.ps = s.ps) := by
  obtain ⟨b1, b2, b3, b4, b5, b6, b7, b8⟩ := beg_eq (listS s p) p
  have hlg := not_long h hq hw ho hto
  have hag := agr_iff h hok hq (begS (listS s p) p) b3
  have hlb := fun hno => laid_byt h hok hq hno (begS (listS s p) p) b3
  have hfn := fresh_nil h.iv.ho hok hq
  have he : (begS (listS s p) p).e = H.putE s.e p.off p.d.length p.more := b2
  have hps : (begS (listS s p) p).ps = s.ps := b5
  unfold takeS
  rw [if_neg (by rw [hok]; simp), if_neg hv]
  unfold take4
  rw [hlg, if_neg (by simp), he]
  constructor
  · intro hO
    rw [if_pos (by rw [Bool.eq_false_iff]; intro hc; exact hag.1 hc hO)]
  · intro hO
    rw [if_neg (by rw [hag.2 hO]; simp)]
    have hpr : progN (begS (listS s p) p) ≠ 4 := by unfold progN; split <;> omega
    by_cases hc : freshE s p = [] ∧ H.putE s.e p.off p.d.length p.more = s.e
    · rw [if_pos hc]
      exact ⟨by simp, ⟨fun _ => rfl, fun hx => absurd ⟨hfn.1 hc.1, hc.2⟩ hx⟩, hlb hO, hps⟩
    · rw [if_neg hc]
      exact ⟨hpr, ⟨fun hx => absurd ⟨hfn.2 hx.1, hx.2⟩ hc, fun _ => rfl⟩, hlb hO, hps⟩
theorem take_six (h : Hd s T Y) (hq : Plc p) (hv : p.v = 6) (hok : H.putOk s.m s.e p.off p.d.length p.more = true) :
    (None' T p → (takeS s p).1 = progN (takeS s p).2 ∧ (∀ n : Nat, TT T p n = true → (takeS s p).2.d[n]? = some (YY Y p n)) ∧ (takeS s p).2.ps = (fun o => if o = p.off then (endP p, p.more) else s.ps o)) ∧
    (¬ None' T p → (takeS s p).1 = 4 ∨ ((takeS s p).1 = 3 ∧ All T p ∧ ¬ Other T Y p ∧ (p.more = true ∨ s.e ≠ -1) ∧ (takeS s p).2.d = s.d ∧ (takeS s p).2.ps = s.ps)) := by
  obtain ⟨b1, b2, b3, b4, b5, b6, b7, b8⟩ := beg_eq (listS s p) p
  have hlb := fun hno => laid_byt h hok hq hno (begS (listS s p) p) b3
  have hfa := fresh_all h.iv.ho hok hq
  have hps : (begS (listS s p) p).ps = s.ps := b5
  have hdd : (begS (listS s p) p).d = s.d := b3
  have h0 := hq.o0
  have h1 := hq.n1
  unfold takeS
  rw [if_neg (by rw [hok]; simp), if_pos hv]
  unfold take6
  constructor
  · intro hn
    rw [if_pos (hfa.2 hn)]
    refine ⟨rfl, hlb ?_, ?_⟩
    · rintro ⟨i, hi, ht, -⟩
      rw [hn i hi] at ht; simp at ht
    · show (fun o => if o = p.off then (endP p, p.more) else (begS (listS s p) p).ps o) = _
      rw [hps]
  · intro hn
    rw [if_neg (fun hc => hn (hfa.1 hc))]
    by_cases h7 : (begS (listS s p) p).ps p.off = (endP p, p.more) ∧ agrP (begS (listS s p) p) p = true
    · rw [if_pos h7]
      right
      have h8 : s.ps p.off = (endP p, p.more) := by rw [← hps]; exact h7.1
      have hall : All T p := fun i hi => h.iv.pt p.off (p.off + i) h0 (by omega) (by rw [h8]; unfold endP; simp only; omega)
      have hlen : p.off.toNat + p.d.length ≤ s.d.length := by
        have := h.iv.ps p.off
        rw [h8] at this
        unfold endP at this
        simp only at this
        omega
      refine ⟨rfl, hall, ?_, ?_, hdd, hps⟩
      · rintro ⟨i, hi, ht, hne⟩
        have ha := h7.2
        unfold agrP at ha
        rw [decide_eq_true_eq, hdd, take_drop_iff hlen] at ha
        have hb := h.byt (p.off.toNat + i) (by rw [show ((p.off.toNat + i : Nat) : Int) = p.off + i from by omega]; exact ht)
        exact hne (by rw [← ha i hi, hb])
      · cases hm : p.more with
        | true => exact .inl rfl
        | false => exact .inr (h.pe p.off (by rw [h8]; unfold endP; simp only; omega) (by rw [h8]; exact hm))
    · rw [if_neg h7]; exact .inl rfl
theorem take_hd (h : Hd s T Y) (hq : Plc p) (hw : Wf p) (ho : p.o.length ≤ 40) (hto : p.off + p.d.length ≤ 4000) (h4 : (takeS s p).1 ≠ 4) : Hd (takeS s p).2 (TT T p) (YY Y p) := by
  have hok := put_of h4
  have hiv := take_iv h.iv hq hw ho h4
  obtain ⟨hm, he⟩ := take_me h4
  have h0 := hq.o0
  have h1 := hq.n1
  refine ⟨hiv, by rw [(take_bad s p).1]; exact h.ok, ?_, fun n hn => ?_, ?_, ?_⟩
  · by_cases hv : p.v = 6
    · obtain ⟨t1, t2⟩ := take_six h hq hv hok
      by_cases hn : None' T p
      · exact (t1 hn).2.1
      · rcases t2 hn with hc | ⟨-, hall, hno, -, hd, -⟩
        · exact absurd hc h4
        · intro n hn
          rw [hd]
          cases hs : H.inS (p.off, p.off + p.d.length) n with
          | false =>
            rw [yy_out hs]
            unfold TT at hn
            rw [hs, Bool.or_false] at hn
            exact h.byt n hn
          | true =>
            obtain ⟨i, hi, he⟩ := (inS_at hq _).1 hs
            have e1 : n = p.off.toNat + i := by omega
            subst e1
            rw [h.byt _ (by rw [he]; exact hall i hi), ← yy_in hq hi]
            apply Classical.byContradiction
            intro hne
            exact hno ⟨i, hi, hall i hi, fun e => hne e.symm⟩
    · obtain ⟨t1, t2⟩ := take_four h hq hw ho hto hv hok
      by_cases hO : Other T Y p
      · exact absurd (t1 hO) h4
      · exact (t2 hO).2.2.1
  · unfold TT at hn
    rw [Bool.or_eq_true] at hn
    rcases hn with hn | hn
    · exact h.lt n hn
    · rw [H.inS_iff] at hn; simp only at hn; omega
  · rw [he]
    have := h.el
    unfold H.putE
    split <;> omega
  · intro o hp hf
    rw [he]
    by_cases hv : p.v = 6
    · obtain ⟨t1, t2⟩ := take_six h hq hv hok
      by_cases hn : None' T p
      · rw [(t1 hn).2.2] at hp hf
        dsimp only at hp hf
        by_cases ho : o = p.off
        · rw [if_pos ho] at hf; exact putE_ne hq (.inl hf)
        · rw [if_neg ho] at hp hf; exact putE_ne hq (.inr (h.pe o hp hf))
      · rcases t2 hn with hc | ⟨-, -, -, -, -, hps⟩
        · exact absurd hc h4
        · rw [hps] at hp hf; exact putE_ne hq (.inr (h.pe o hp hf))
    · obtain ⟨t1, t2⟩ := take_four h hq hw ho hto hv hok
      by_cases hO : Other T Y p
      · exact absurd (t1 hO) h4
      · rw [(t2 hO).2.2.2] at hp hf; exact putE_ne hq (.inr (h.pe o hp hf))
end
def BadE (s : Es) (T : Int → Bool) (p : Pk) : Prop := (p.more = true ∧ s.e ≠ -1 ∧ s.e < endP p) ∨ (p.more = false ∧ ((∃ n : Int, endP p ≤ n ∧ T n = true) ∨ (s.e ≠ -1 ∧ s.e ≠ endP p)))
def Again (s : Es) (T : Int → Bool) (p : Pk) : Prop := All T p ∧ (p.more = true ∨ s.e ≠ -1)
def Full (e : Int) (T : Int → Bool) : Prop := e ≠ -1 ∧ ∀ n : Int, 0 ≤ n → n < e → T n = true
section
variable {s : Es} {T : Int → Bool} {Y : Nat → Int} {p : Pk}
theorem putOk_iff (h : Hd s T Y) (hq : Plc p) : H.putOk s.m s.e p.off p.d.length p.more = true ↔ ¬ BadE s T p := by
  have h0 := hq.o0
  have h1 := hq.n1
  have h2 := hq.tt
  unfold H.putOk
  rw [Bool.and_eq_true, H.arg_iff, H.end_iff h.iv.ho (by omega) (by omega)]
  have hen := h.iv.ho.en
  unfold BadE endP
  cases hm : p.more with
  | true =>
    simp only [if_pos, true_and, Bool.true_eq_false, false_and, or_false]
    constructor
    · rintro ⟨-, hc⟩ ⟨h3, h4⟩; omega
    · intro hc
      refine ⟨by omega, ?_⟩
      apply Classical.byContradiction
      intro hn
      exact hc ⟨by omega, by omega⟩
  | false =>
    simp only [Bool.false_eq_true, if_false, false_and, false_or, true_and]
    constructor
    · rintro ⟨-, hc⟩ hb
      rcases hc with ⟨he, hc⟩ | ⟨he, hc⟩
      · rcases hb with ⟨n, hn, ht⟩ | ⟨hb, -⟩
        · rw [hc n hn] at ht; simp at ht
        · exact hb he
      · rcases hb with ⟨n, hn, ht⟩ | ⟨-, hb⟩
        · have := h.iv.ho.there n ht
          unfold H.topOf at this
          rw [if_neg he] at this
          omega
        · omega
    · intro hc
      refine ⟨by omega, ?_⟩
      by_cases he : s.e = -1
      · left
        refine ⟨he, fun n hn => ?_⟩
        rw [Bool.eq_false_iff]
        intro ht
        exact hc (.inl ⟨n, hn, ht⟩)
      · right
        refine ⟨he, ?_⟩
        apply Classical.byContradiction
        intro hn
        exact hc (.inr ⟨he, by omega⟩)
theorem hold_bad (h : Hd s T Y) (hq : Plc p) (hw : Wf p) (ho : p.o.length ≤ 40) (hto : p.off + p.d.length ≤ 4000) (hb : Other T Y p ∨ BadE s T p) : (takeS s p).1 = 4 := by
  by_cases hk : H.putOk s.m s.e p.off p.d.length p.more = true
  · have hO : Other T Y p := by
      rcases hb with hb | hb
      · exact hb
      · exact absurd hb ((putOk_iff h hq).1 hk)
    by_cases hv : p.v = 6
    · have hn : ¬ None' T p := fun hn => by
        obtain ⟨i, hi, ht, -⟩ := hO
        rw [hn i hi] at ht; simp at ht
      rcases (take_six h hq hv hk).2 hn with hc | ⟨-, -, hno, -⟩
      · exact hc
      · exact absurd hO hno
    · exact (take_four h hq hw ho hto hv hk).1 hO
  · unfold takeS
    rw [Bool.not_eq_true] at hk
    rw [if_pos hk]
theorem prog_or (s : Es) : progN s = 5 ∨ progN s = 6 := by unfold progN; split <;> simp
theorem again_e (hq : Plc p) (hb : ¬ BadE s T p) : H.putE s.e p.off p.d.length p.more = s.e ↔ (p.more = true ∨ s.e ≠ -1) := by
  have h0 := hq.o0
  have h1 := hq.n1
  unfold H.putE
  cases hm : p.more with
  | true => simp
  | false =>
    simp only [Bool.false_eq_true, if_false, false_or]
    constructor
    · intro h; omega
    · intro h
      apply Classical.byContradiction
      intro hn
      exact hb (.inr ⟨hm, .inr ⟨h, by unfold endP; omega⟩⟩)
theorem hold_good (h : Hd s T Y) (hq : Plc p) (hw : Wf p) (ho : p.o.length ≤ 40) (hto : p.off + p.d.length ≤ 4000) (hO : ¬ Other T Y p) (hb : ¬ BadE s T p) (h6 : p.v = 6 → None' T p ∨ (takeS s p).1 = 3) :
    (takeS s p).1 ≠ 4 ∧ ((takeS s p).1 = 3 → Again s T p) ∧ (p.v ≠ 6 → Again s T p → (takeS s p).1 = 3) ∧ ((takeS s p).1 = 3 ∨ (takeS s p).1 = progN (takeS s p).2) := by
  have hk := (putOk_iff h hq).2 hb
  by_cases hv : p.v = 6
  · obtain ⟨t1, t2⟩ := take_six h hq hv hk
    by_cases hn : None' T p
    · have t := (t1 hn).1
      have hp := prog_or (takeS s p).2
      refine ⟨by omega, fun h3 => by omega, fun hc => absurd hv hc, .inr t⟩
    · rcases t2 hn with hc | ⟨hc, hall, -, hm, -, -⟩
      · rcases h6 hv with h6 | h6
        · exact absurd h6 hn
        · omega
      · exact ⟨by omega, fun _ => ⟨hall, hm⟩, fun hc => absurd hv hc, .inl hc⟩
  · obtain ⟨t4, ⟨ta, tb⟩, -, -⟩ := (take_four h hq hw ho hto hv hk).2 hO
    have hp := prog_or (takeS s p).2
    have hag := again_e (s := s) (T := T) hq hb
    refine ⟨t4, fun h3 => ?_, fun _ ha => ta ⟨ha.1, hag.2 ha.2⟩, ?_⟩
    · apply Classical.byContradiction
      intro hn
      have := tb (fun hx => hn ⟨hx.1, hag.1 hx.2⟩)
      omega
    · by_cases hx : All T p ∧ H.putE s.e p.off p.d.length p.more = s.e
      · exact .inl (ta hx)
      · exact .inr (tb hx)
theorem done_full (h : Hd s T Y) : doneB s = true ↔ Full s.e T := by
  have hho := h.iv.ho
  unfold doneB Full
  rw [Bool.and_eq_true, decide_eq_true_eq, decide_eq_true_eq]
  constructor
  · rintro ⟨he, hm⟩
    refine ⟨he, fun n h0 h1 => ?_⟩
    have := hho.of.has n
    rw [hm] at this
    unfold H.topOf at this
    rw [if_neg he] at this
    have e1 : decide (0 ≤ n ∧ n < s.e) = true := by rw [decide_eq_true_eq]; omega
    rw [e1] at this
    simpa [H.inB] using this
  · rintro ⟨he, ha⟩
    refine ⟨he, ?_⟩
    have : H.Of [] (fun n => decide (0 ≤ n ∧ n < H.topOf s.e) && !T n) := ⟨rfl, fun n => by
      rw [H.inB_nil]
      unfold H.topOf
      rw [if_neg he]
      by_cases hn : 0 ≤ n ∧ n < s.e
      · rw [ha n hn.1 hn.2]; simp
      · simp [hn]⟩
    exact hho.of.uniq this
theorem whole_byt (h : Hd s T Y) (hf : Full s.e T) : s.d.take s.e.toNat = (List.range s.e.toNat).map Y := by
  have hen := h.iv.ho.en
  have h1 := hf.1
  apply List.ext_getElem?
  intro i
  rw [List.getElem?_take, List.getElem?_map]
  by_cases hi : i < s.e.toNat
  · rw [if_pos hi, h.byt i (hf.2 i (by omega) (by omega)), List.getElem?_range hi]; rfl
  · rw [if_neg hi, List.getElem?_eq_none (by simp; omega)]; rfl
end
end Go.Proofs.YtkccpidgeecemaaGreatDoor
