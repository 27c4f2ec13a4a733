/-
  The hole list as plain data: what is missing, the end, what a Put tells.
-/
import Derived.Test.YtkccpidgeecemaaGreatDoorHNum
namespace Go.Proofs.YtkccpidgeecemaaGreatDoor.H
set_option linter.unusedVariables false
set_option linter.unusedSimpArgs false
def clipS (s x : Sp) : Sp := (max x.1 s.1, min x.2 s.2)
def freshP (m : List Sp) (s : Sp) : List Sp := m.flatMap (fun x => putP (max x.1 s.1) (min x.2 s.2))
theorem fresh_from : ∀ (l : List Sp) (s : Sp) (e : Int), Is s → rightFrom e l = true → rightFrom e (freshP l s) = true ∧ ∀ n, inB (freshP l s) n = (inB l n && inS s n)
  | [], s, e, hs, hl => ⟨rfl, fun n => rfl⟩
  | x :: r, s, e, hs, hl => by
    obtain ⟨h1, h2, h3⟩ := rf_cons.1 hl
    obtain ⟨k1, k2⟩ := fresh_from r s x.2 hs h3
    have hcons : freshP (x :: r) s = putP (max x.1 s.1) (min x.2 s.2) ++ freshP r s := by simp [freshP]
    rw [hcons]
    unfold Is at h1 hs
    have e1 : endOf e (putP (max x.1 s.1) (min x.2 s.2)) ≤ max e (min x.2 s.2) := putP_end (by omega)
    refine ⟨?_, fun n => ?_⟩
    · rw [rf_append, Bool.and_eq_true]
      exact ⟨putP_right (by omega) (by omega) (by omega), rf_mono k1 (by omega)⟩
    · rw [inB_append, k2, putP_in, inB_cons]
      cases hb : inB r n with
      | false =>
        rw [Bool.eq_iff_iff]
        simp only [Bool.or_eq_true, Bool.and_eq_true, decide_eq_true_eq, Bool.false_and, Bool.or_false, inS_iff]
        omega
      | true =>
        have := rf_above h3 hb
        rw [Bool.eq_iff_iff]
        simp only [Bool.or_eq_true, Bool.and_eq_true, decide_eq_true_eq, Bool.true_and, inS_iff]
        cases hq : inS x n with
        | true => rw [inS_iff] at hq; omega
        | false => simp; omega
theorem fresh_of {l : List Sp} {s : Sp} (hl : rightP l = true) (hs : Is s) : Of (freshP l s) (fun n => inB l n && inS s n) := ⟨(fresh_from l s _ hs hl).1, (fresh_from l s _ hs hl).2⟩
/-! The holes that meet a span. -/
structure Met (m : List Sp) (s : Sp) (i j : Nat) : Prop where
  le : i ≤ j
  len : j ≤ m.length
  a : ∀ x ∈ m.take i, x.2 ≤ s.1
  m1 : ∀ x ∈ (m.drop i).take (j - i), s.1 < x.2 ∧ x.1 < s.2
  b : ∀ x ∈ m.drop j, s.2 ≤ x.1
theorem parts (m : List Sp) {i j : Nat} (h : i ≤ j) : m = m.take i ++ ((m.drop i).take (j - i) ++ m.drop j) := by
  conv => lhs; rw [← List.take_append_drop i m, ← List.take_append_drop (j - i) (m.drop i), List.drop_drop]
  rw [show i + (j - i) = j from by omega]
theorem met_of {m : List Sp} {s : Sp} {i j : Nat} (hs : Is s) (hm : ∀ x ∈ m, Is x) (hi : i ≤ m.length) (hj : j ≤ m.length)
    (h1 : ∀ t x, t < i → m[t]? = some x → x.2 ≤ s.1) (h2 : ∀ t x, i ≤ t → m[t]? = some x → s.1 < x.2)
    (h3 : ∀ t x, t < j → m[t]? = some x → x.1 < s.2) (h4 : ∀ t x, j ≤ t → m[t]? = some x → s.2 ≤ x.1) : Met m s i j := by
  have hle : i ≤ j := by
    rcases Nat.lt_or_ge j i with h | h
    · exfalso
      have hx : m[j]? = some (m[j]'(by omega)) := by simp
      have a1 := h1 j _ h hx
      have a2 := h4 j _ (Nat.le_refl _) hx
      have a3 := hm _ (List.mem_of_getElem? hx)
      unfold Is at a3 hs
      omega
    · exact h
  refine ⟨hle, hj, fun x hx => ?_, fun x hx => ?_, fun x hx => ?_⟩
  · obtain ⟨t, ht⟩ := List.getElem?_of_mem hx
    rw [List.getElem?_take] at ht
    split at ht
    · exact h1 t x (by assumption) ht
    · simp at ht
  · obtain ⟨t, ht⟩ := List.getElem?_of_mem hx
    rw [List.getElem?_take] at ht
    split at ht
    · rw [List.getElem?_drop] at ht
      exact ⟨h2 _ x (by omega) ht, h3 _ x (by omega) ht⟩
    · simp at ht
  · obtain ⟨t, ht⟩ := List.getElem?_of_mem hx
    rw [List.getElem?_drop] at ht
    exact h4 _ x (by omega) ht
theorem putP_one {f t : Int} (h : f < t) : putP f t = [(f, t)] := by unfold putP; rw [if_pos h]
theorem putP_none {f t : Int} (h : t ≤ f) : putP f t = [] := by unfold putP; rw [if_neg (by omega)]
theorem cut_out {l : List Sp} {s : Sp} (hs : Is s) (hl : ∀ x ∈ l, Is x) (h : ∀ x ∈ l, x.2 ≤ s.1 ∨ s.2 ≤ x.1) : cutP l s = l := by
  induction l with
  | nil => rfl
  | cons x r ih =>
    have hcons : cutP (x :: r) s = putP x.1 (min x.2 s.1) ++ putP (max x.1 s.2) x.2 ++ cutP r s := by simp [cutP]
    rw [hcons, ih (fun y hy => hl y (by simp [hy])) (fun y hy => h y (by simp [hy]))]
    have a1 := hl x (by simp)
    unfold Is at a1 hs
    rcases h x (by simp) with a2 | a2
    · rw [putP_one (by omega), putP_none (by omega), show min x.2 s.1 = x.2 from by omega]; rfl
    · rw [putP_none (by omega), putP_one (by omega), show max x.1 s.2 = x.1 from by omega]; rfl
theorem fresh_out {l : List Sp} {s : Sp} (hs : Is s) (hl : ∀ x ∈ l, Is x) (h : ∀ x ∈ l, x.2 ≤ s.1 ∨ s.2 ≤ x.1) : freshP l s = [] := by
  induction l with
  | nil => rfl
  | cons x r ih =>
    have hcons : freshP (x :: r) s = putP (max x.1 s.1) (min x.2 s.2) ++ freshP r s := by simp [freshP]
    rw [hcons, ih (fun y hy => hl y (by simp [hy])) (fun y hy => h y (by simp [hy]))]
    have a1 := hl x (by simp)
    unfold Is at a1 hs
    rw [putP_none (by have := h x (by simp); omega)]; rfl
theorem fresh_in {l : List Sp} {s : Sp} (hs : Is s) (hl : ∀ x ∈ l, Is x) (h : ∀ x ∈ l, s.1 < x.2 ∧ x.1 < s.2) : freshP l s = l.map (clipS s) := by
  induction l with
  | nil => rfl
  | cons x r ih =>
    have hcons : freshP (x :: r) s = putP (max x.1 s.1) (min x.2 s.2) ++ freshP r s := by simp [freshP]
    rw [hcons, ih (fun y hy => hl y (by simp [hy])) (fun y hy => h y (by simp [hy]))]
    have a1 := hl x (by simp)
    have a2 := h x (by simp)
    unfold Is at a1 hs
    rw [putP_one (by omega)]; rfl
theorem right_is {m : List Sp} (h : rightP m = true) : ∀ x ∈ m, Is x := fun x hx => (rf_is h x hx).1
theorem right_drop {m : List Sp} (h : rightP m = true) (i : Nat) : rightP (m.drop i) = true := by
  unfold rightP at h ⊢
  rw [← List.take_append_drop i m, rf_append, Bool.and_eq_true] at h
  have h0 : rightFrom (-1) (m.take i) = true := h.1
  exact rf_mono h.2 (rf_end h0).1
theorem right_take {m : List Sp} (h : rightP m = true) (i : Nat) : rightP (m.take i) = true := by
  unfold rightP at h ⊢
  rw [← List.take_append_drop i m, rf_append, Bool.and_eq_true] at h
  exact h.1
section
variable {m : List Sp} {s : Sp} {i j : Nat}
theorem Met.mid (h : Met m s i j) (hm : rightP m = true) : rightP ((m.drop i).take (j - i)) = true := right_take (right_drop hm i) _
theorem Met.cut (h : Met m s i j) (hm : rightP m = true) (hs : Is s) : cutP m s = m.take i ++ cutP ((m.drop i).take (j - i)) s ++ m.drop j := by
  have hi := right_is hm
  have e1 : cutP (m.take i) s = m.take i := cut_out hs (fun x hx => hi x (List.mem_of_mem_take hx)) (fun x hx => .inl (h.a x hx))
  have e2 : cutP (m.drop j) s = m.drop j := cut_out hs (fun x hx => hi x (List.mem_of_mem_drop hx)) (fun x hx => .inr (h.b x hx))
  have happ : ∀ a b : List Sp, cutP (a ++ b) s = cutP a s ++ cutP b s := fun a b => by simp [cutP]
  conv => lhs; rw [parts m h.le, happ, happ, e1, e2]
  rw [List.append_assoc]
theorem Met.fresh (h : Met m s i j) (hm : rightP m = true) (hs : Is s) : freshP m s = ((m.drop i).take (j - i)).map (clipS s) := by
  have hi := right_is hm
  have e1 : freshP (m.take i) s = [] := fresh_out hs (fun x hx => hi x (List.mem_of_mem_take hx)) (fun x hx => .inl (h.a x hx))
  have e2 : freshP (m.drop j) s = [] := fresh_out hs (fun x hx => hi x (List.mem_of_mem_drop hx)) (fun x hx => .inr (h.b x hx))
  have e3 := fresh_in hs (right_is (h.mid hm)) h.m1
  have happ : ∀ a b : List Sp, freshP (a ++ b) s = freshP a s ++ freshP b s := fun a b => by simp [freshP]
  conv => lhs; rw [parts m h.le, happ, happ, e1, e2, e3]
  simp
theorem Met.has (h : Met m s i j) (hm : rightP m = true) (hs : Is s) : hasP m s = hasP ((m.drop i).take (j - i)) s := by
  conv => lhs; rw [parts m h.le]
  have e1 : hasP (m.take i) s = false := by
    rw [Bool.eq_false_iff]; intro hc
    simp only [hasP, List.any_eq_true, decide_eq_true_eq] at hc
    obtain ⟨x, hx, h1, h2⟩ := hc
    have := h.a x hx
    unfold Is at hs; omega
  have e2 : hasP (m.drop j) s = false := by
    rw [Bool.eq_false_iff]; intro hc
    simp only [hasP, List.any_eq_true, decide_eq_true_eq] at hc
    obtain ⟨x, hx, h1, h2⟩ := hc
    have := h.b x hx
    unfold Is at hs; omega
  have happ : ∀ a b : List Sp, hasP (a ++ b) s = (hasP a s || hasP b s) := fun a b => by simp [hasP]
  rw [happ, happ, e1, e2]
  simp
end
/-! Put. -/
def argOk (off n : Int) : Bool := decide (0 ≤ off ∧ 1 ≤ n ∧ n ≤ 65535 - off)
def endOk (m : List Sp) (e to : Int) (more : Bool) : Bool :=
  if more = true then decide (e = -1 ∨ to ≤ e) else if e = -1 then decide (to = 65535) || hasP m (to, 65535) else decide (to = e)
def putOk (m : List Sp) (e off n : Int) (more : Bool) : Bool := argOk off n && endOk m e (off + n) more
def shutP (m : List Sp) (to : Int) : List Sp := if to < 65535 then cutP m (to, 65535) else m
def putM (m : List Sp) (off n : Int) (more : Bool) : List Sp := if more = true then cutP m (off, off + n) else shutP (cutP m (off, off + n)) (off + n)
def putE (e off n : Int) (more : Bool) : Int := if more = true then e else off + n
def topOf (e : Int) : Int := if e = -1 then 65535 else e
structure Ho (T : Int → Bool) (m : List Sp) (e : Int) : Prop where
  of : Of m (fun n => decide (0 ≤ n ∧ n < topOf e) && !T n)
  en : e = -1 ∨ (1 ≤ e ∧ e ≤ 65535)
  there : ∀ n, T n = true → 0 ≤ n ∧ n < topOf e
theorem ho_new : Ho (fun _ => false) [(0, 65535)] (-1) :=
  ⟨⟨rfl, fun n => by simp [inB, inS, topOf]⟩, .inl rfl, by simp⟩
theorem arg_iff {off n : Int} : argOk off n = true ↔ 0 ≤ off ∧ 1 ≤ n ∧ n ≤ 65535 - off := by simp [argOk]
theorem arg_is {off n : Int} (h : argOk off n = true) : Is (off, off + n) := by rw [arg_iff] at h; exact ⟨by simp only; omega, by simp only; omega, by simp only; omega⟩
theorem end_iff {T : Int → Bool} {m : List Sp} {e to : Int} (h : Ho T m e) (h0 : 1 ≤ to) (h1 : to ≤ 65535) (more : Bool) :
    endOk m e to more = true ↔ (if more = true then e = -1 ∨ to ≤ e else (e = -1 ∧ ∀ n, to ≤ n → T n = false) ∨ (e ≠ -1 ∧ to = e)) := by
  unfold endOk
  cases more with
  | true => simp
  | false =>
    simp only [if_neg (show ¬ (false = true) by simp)]
    by_cases he : e = -1
    · rw [if_pos he, Bool.or_eq_true, decide_eq_true_eq]
      have htop : topOf e = 65535 := by rw [he]; rfl
      constructor
      · intro hc
        refine .inl ⟨he, fun n hn => ?_⟩
        rw [Bool.eq_false_iff]; intro hT
        have := h.there n hT
        rcases hc with hc | hc
        · omega
        · rcases Int.lt_or_le to 65535 with hlt | hlt
          · have := (has_iff h.of.right (s := (to, 65535)) ⟨by simp only; omega, by simp only; omega, by simp only; omega⟩).1 hc n (by rw [inS_iff]; simp only; omega)
            rw [h.of.has, hT] at this
            simp at this
          · omega
      · rintro (⟨-, hc⟩ | ⟨hc, -⟩)
        · rcases Int.lt_or_le to 65535 with hlt | hlt
          · right
            refine (has_iff h.of.right (s := (to, 65535)) ⟨by simp only; omega, by simp only; omega, by simp only; omega⟩).2 (fun n hn => ?_)
            rw [inS_iff] at hn
            simp only at hn
            rw [h.of.has, hc n (by omega), htop]
            simp; omega
          · left; omega
        · exact absurd he hc
    · rw [if_neg he]
      simp [he]
theorem fresh_ho {T : Int → Bool} {m : List Sp} {e off n : Int} {more : Bool} (h : Ho T m e) (ha : argOk off n = true) (he : endOk m e (off + n) more = true) :
    Of (freshP m (off, off + n)) (fun k => inS (off, off + n) k && !T k) := by
  have hs := arg_is ha
  rw [arg_iff] at ha
  have hf := fresh_of h.of.right hs
  refine ⟨hf.right, fun k => ?_⟩
  rw [hf.has, h.of.has]
  have h2 := (end_iff h (by omega) (by omega) more).1 he
  cases hq : inS (off, off + n) k with
  | false => simp
  | true =>
    rw [inS_iff] at hq
    simp only at hq
    have : 0 ≤ k ∧ k < topOf e := by
      unfold topOf
      split
      · omega
      · cases more with
        | true => simp only [if_pos] at h2; omega
        | false => simp only [if_neg (show ¬ (false = true) by simp)] at h2; omega
    simp [this]
theorem put_ho {T : Int → Bool} {m : List Sp} {e off n : Int} {more : Bool} (h : Ho T m e) (hok : putOk m e off n more = true) :
    Ho (fun k => T k || inS (off, off + n) k) (putM m off n more) (putE e off n more) := by
  unfold putOk at hok
  rw [Bool.and_eq_true] at hok
  obtain ⟨ha, he⟩ := hok
  have hs := arg_is ha
  rw [arg_iff] at ha
  have h2 := (end_iff h (by omega) (by omega) more).1 he
  have hc := cut_of h.of.right hs
  have hte := h.there
  have hee := h.en
  cases more with
  | true =>
    simp only [if_pos] at h2
    refine ⟨⟨hc.right, fun k => ?_⟩, h.en, fun k hk => ?_⟩
    · show inB (cutP m (off, off + n)) k = (decide (0 ≤ k ∧ k < topOf e) && _)
      rw [hc.has, h.of.has]
      cases T k <;> cases inS (off, off + n) k <;> simp
    · show 0 ≤ k ∧ k < topOf e
      rw [Bool.or_eq_true, inS_iff] at hk
      rcases hk with hk | hk
      · exact h.there k hk
      · simp only at hk
        unfold topOf
        split <;> omega
  | false =>
    simp only [if_neg (show ¬ (false = true) by simp)] at h2
    have e1 : putE e off n false = off + n := rfl
    have htop : topOf (off + n) = off + n := by unfold topOf; rw [if_neg (by omega)]
    have hT : ∀ k, T k = true → k < off + n := fun k hk => by
      rcases h2 with ⟨-, h2⟩ | ⟨h3, h4⟩
      · rcases Int.lt_or_le k (off + n) with h5 | h5
        · exact h5
        · rw [h2 k h5] at hk; simp at hk
      · have := (hte k hk).2
        unfold topOf at this
        rw [if_neg h3] at this
        omega
    have hbelow : ∀ k, k < topOf e → ¬ (k < off + n) → e = -1 := fun k hk hn => by
      unfold topOf at hk
      split at hk
      · assumption
      · rcases h2 with ⟨h2, -⟩ | ⟨h3, h4⟩ <;> omega
    rw [e1]
    refine ⟨?_, .inr (by omega), fun k hk => ?_⟩
    · show Of (shutP (cutP m (off, off + n)) (off + n)) _
      unfold shutP
      rw [htop]
      have key : ∀ k, (inB (cutP m (off, off + n)) k && !inS (off + n, 65535) k) = (decide (0 ≤ k ∧ k < off + n) && !(T k || inS (off, off + n) k)) := fun k => by
        rw [hc.has, h.of.has]
        cases hk : T k with
        | true => simp
        | false =>
          cases hq : inS (off, off + n) k with
          | true => simp
          | false =>
            rw [Bool.eq_iff_iff]
            simp only [Bool.and_eq_true, Bool.not_eq_true', decide_eq_true_eq, Bool.not_false, Bool.or_false, and_true, Bool.and_true]
            have hni : inS (off + n, 65535) k = false ↔ ¬ (off + n ≤ k ∧ k < 65535) := by rw [← Bool.not_eq_true, inS_iff]
            rw [hni]
            unfold topOf
            split
            · omega
            · rcases h2 with ⟨h2, -⟩ | ⟨h3, h4⟩ <;> omega
      split
      · rename_i hlt
        have hc2 := cut_of hc.right (s := (off + n, 65535)) ⟨by simp only; omega, by simp only; omega, by simp only; omega⟩
        exact ⟨hc2.right, fun k => by rw [hc2.has]; exact key k⟩
      · rename_i hlt
        refine ⟨hc.right, fun k => ?_⟩
        have hk := key k
        rw [show inS (off + n, 65535) k = false from by rw [Bool.eq_false_iff]; intro hc; rw [inS_iff] at hc; simp only at hc; omega] at hk
        simpa using hk
    · rw [htop]
      rw [Bool.or_eq_true, inS_iff] at hk
      rcases hk with hk | hk
      · exact ⟨(hte k hk).1, hT k hk⟩
      · simp only at hk; omega
end Go.Proofs.YtkccpidgeecemaaGreatDoor.H
