/-
  Options as lists: how they are read and laid. Nothing of the program.
-/
import Derived.Test.YtbkeilboneaejaaGreatDoorRows
namespace Go.Proofs.YtbkeilboneaejaaGreatDoor
set_option linter.unusedVariables false

abbrev O := Int × List Int
/-- A list of bytes. -/
def Bytes (l : List Int) : Prop := ∀ n ∈ l, 0 ≤ n ∧ n ≤ 255
theorem Bytes.tail {a : Int} {l : List Int} (h : Bytes (a :: l)) : Bytes l := fun n hn => h n (List.mem_cons_of_mem _ hn)
theorem Bytes.head {a : Int} {l : List Int} (h : Bytes (a :: l)) : 0 ≤ a ∧ a ≤ 255 := h a List.mem_cons_self
theorem Bytes.take {l : List Int} (h : Bytes l) (k : Nat) : Bytes (l.take k) := fun n hn => h n (List.mem_of_mem_take hn)
theorem Bytes.drop {l : List Int} (h : Bytes l) (k : Nat) : Bytes (l.drop k) := fun n hn => h n (List.mem_of_mem_drop hn)
theorem Bytes.app {l m : List Int} (h : Bytes l) (k : Bytes m) : Bytes (l ++ m) := fun n hn => (List.mem_append.mp hn).elim (h n) (k n)
theorem Bytes.nil : Bytes [] := fun n hn => by simp at hn
theorem Bytes.cons {a : Int} {l : List Int} (h : Bytes l) (ha : 0 ≤ a) (ha' : a ≤ 255) : Bytes (a :: l) := fun n hn => by
  rcases List.mem_cons.mp hn with rfl | hn
  · exact ⟨ha, ha'⟩
  · exact h n hn
theorem Bytes.zeros (k : Nat) : Bytes (List.replicate k 0) := fun n hn => by rw [List.eq_of_mem_replicate hn]; omega
theorem Bytes.getD {l : List Int} (h : Bytes l) (k : Nat) : 0 ≤ l[k]?.getD 0 ∧ l[k]?.getD 0 ≤ 255 := by
  rcases Nat.lt_or_ge k l.length with hk | hk
  · rw [List.getElem?_eq_getElem hk]; exact h _ (List.getElem_mem hk)
  · rw [List.getElem?_eq_none hk]; simp

def zerosP (l : List Int) : Bool := l.all (· == 0)
theorem zerosP_iff (l : List Int) : zerosP l = true ↔ l = List.replicate l.length 0 := by
  unfold zerosP
  rw [List.all_eq_true]
  constructor
  · intro h
    exact List.eq_replicate_iff.2 ⟨rfl, fun x hx => by simpa using h x hx⟩
  · intro h x hx
    rw [h] at hx
    simp [List.eq_of_mem_replicate hx]
theorem zerosP_rep (k : Nat) : zerosP (List.replicate k 0) = true := by rw [zerosP_iff]; simp
theorem zerosP_app (l m : List Int) : zerosP (l ++ m) = (zerosP l && zerosP m) := by unfold zerosP; rw [List.all_append]
theorem zerosP_cons (x : Int) (l : List Int) : zerosP (x :: l) = ((x == 0) && zerosP l) := rfl

/-- The options that bytes are, with as many steps as may be wanted. -/
def parseF : Nat → List Int → Option (List O)
  | 0, _ => some []
  | _ + 1, [] => some []
  | f + 1, k :: r =>
    if k = 0 then (if zerosP r = true then some [] else none)
    else if k = 1 then (parseF f r).map ((1, []) :: ·)
    else match r with
      | [] => none
      | n :: s => if 2 ≤ n ∧ n.toNat ≤ s.length + 2 then (parseF f (s.drop (n.toNat - 2))).map ((k, s.take (n.toNat - 2)) :: ·) else none
theorem parseF_fuel : ∀ (f g : Nat) (l : List Int), l.length ≤ f → l.length ≤ g → parseF f l = parseF g l
  | 0, g, [], _, _ => by cases g <;> rfl
  | 0, _, _ :: _, h, _ => by simp at h
  | _ + 1, g, [], _, _ => by cases g <;> rfl
  | _ + 1, 0, _ :: _, _, h => by simp at h
  | f + 1, g + 1, k :: r, hf, hg => by
    simp only [List.length_cons] at hf hg
    unfold parseF
    rw [parseF_fuel f g r (by omega) (by omega)]
    cases r with
    | nil => rfl
    | cons n s =>
      simp only [List.length_cons] at hf hg
      dsimp only
      rw [parseF_fuel f g (s.drop (n.toNat - 2)) (by rw [List.length_drop]; omega) (by rw [List.length_drop]; omega)]
/-- The options that bytes are; none: they may not be. -/
def parseP (l : List Int) : Option (List O) := parseF l.length l
theorem parseP_nil : parseP [] = some [] := rfl
theorem parseP_zero (r : List Int) : parseP (0 :: r) = if zerosP r = true then some [] else none := by unfold parseP; rw [List.length_cons]; simp [parseF]
theorem parseP_one (r : List Int) : parseP (1 :: r) = (parseP r).map ((1, []) :: ·) := by unfold parseP; rw [List.length_cons]; simp [parseF]
theorem parseP_lone (k : Int) (h0 : k ≠ 0) (h1 : k ≠ 1) : parseP [k] = none := by unfold parseP; rw [List.length_cons]; simp [parseF, h0, h1]
theorem parseP_sized (k n : Int) (s : List Int) (h0 : k ≠ 0) (h1 : k ≠ 1) :
    parseP (k :: n :: s) = if 2 ≤ n ∧ n.toNat ≤ s.length + 2 then (parseP (s.drop (n.toNat - 2))).map ((k, s.take (n.toNat - 2)) :: ·) else none := by
  unfold parseP
  rw [List.length_cons, List.length_cons, parseF_fuel (s.drop (n.toNat - 2)).length (s.length + 1) (s.drop (n.toNat - 2)) (Nat.le_refl _) (by rw [List.length_drop]; omega)]
  conv => lhs; unfold parseF
  simp only [h0, h1, if_false]

/-- One option laid. -/
def layP (o : O) : List Int := if o.1 = 1 then [1] else o.1 :: (2 + o.2.length : Int) :: o.2
def szP (o : O) : Nat := if o.1 = 1 then 1 else 2 + o.2.length
theorem layP_len (o : O) : (layP o).length = szP o := by unfold layP szP; split <;> simp; omega
def flat (l : List O) : List Int := l.flatMap layP
def tot (l : List O) : Nat := (l.map szP).sum
theorem flat_nil : flat [] = [] := rfl
theorem flat_cons (o : O) (l : List O) : flat (o :: l) = layP o ++ flat l := by simp [flat]
theorem flat_app (l m : List O) : flat (l ++ m) = flat l ++ flat m := by simp [flat]
theorem tot_nil : tot [] = 0 := rfl
theorem tot_cons (o : O) (l : List O) : tot (o :: l) = szP o + tot l := by simp [tot]
theorem tot_app (l m : List O) : tot (l ++ m) = tot l + tot m := by simp [tot]
theorem flat_len : ∀ l : List O, (flat l).length = tot l
  | [] => rfl
  | o :: l => by rw [flat_cons, tot_cons, List.length_append, layP_len, flat_len l]
theorem szP_pos (o : O) : 1 ≤ szP o := by unfold szP; split <;> omega
theorem len_le_tot : ∀ l : List O, l.length ≤ tot l
  | [] => by simp
  | o :: l => by have := len_le_tot l; have := szP_pos o; rw [tot_cons, List.length_cons]; omega

/-- An option that bytes can be. -/
def Good (o : O) : Prop := 1 ≤ o.1 ∧ o.1 ≤ 255 ∧ (o.1 = 1 → o.2 = []) ∧ o.2.length ≤ 253
theorem lay_bytes {o : O} (h : Good o) (hb : Bytes o.2) : Bytes (layP o) := by
  obtain ⟨h1, h2, h3, h4⟩ := h
  unfold layP
  split
  · intro n hn; simp at hn; omega
  · exact (hb.cons (by omega) (by omega)).cons (by omega) h2
theorem flat_bytes : ∀ l : List O, (∀ o ∈ l, Good o) → (∀ o ∈ l, Bytes o.2) → Bytes (flat l)
  | [], _, _ => Bytes.nil
  | o :: l, h, hb => by
    rw [flat_cons]
    exact (lay_bytes (h o (by simp)) (hb o (by simp))).app (flat_bytes l (fun p hp => h p (by simp [hp])) (fun p hp => hb p (by simp [hp])))
theorem parse_lay (o : O) (h : Good o) (r : List Int) : parseP (layP o ++ r) = (parseP r).map (o :: ·) := by
  obtain ⟨h1, h2, h3, h4⟩ := h
  obtain ⟨k, d⟩ := o
  simp only at h1 h2 h3 h4
  unfold layP
  by_cases hk : k = 1
  · subst hk
    have : d = [] := h3 rfl
    subst this
    simp [parseP_one]
  · simp only [hk, if_false, List.cons_append]
    rw [parseP_sized _ _ _ (by omega) hk, if_pos ⟨by omega, by simp; omega⟩]
    have e : (2 + (d.length : Int)).toNat - 2 = d.length := by omega
    rw [e, List.drop_left, List.take_left]
theorem parse_flat : ∀ (l : List O) (r : List Int), (∀ o ∈ l, Good o) → parseP (flat l ++ r) = (parseP r).map (l ++ ·)
  | [], r, _ => by simp [flat_nil]
  | o :: l, r, h => by
    rw [flat_cons, List.append_assoc, parse_lay o (h o (by simp)), parse_flat l r (fun p hp => h p (by simp [hp]))]
    cases parseP r <;> simp
theorem parse_zeros (k : Nat) (c : List Int) (hk : 0 < k) : parseP (List.replicate k 0 ++ c) = if zerosP c = true then some [] else none := by
  obtain ⟨j, rfl⟩ : ∃ j, k = j + 1 := ⟨k - 1, by omega⟩
  rw [List.replicate_succ, List.cons_append, parseP_zero, zerosP_app, zerosP_rep, Bool.true_and]
theorem parse_pad (k : Nat) : parseP (List.replicate k 0) = some [] := by
  rcases Nat.eq_zero_or_pos k with rfl | h
  · exact parseP_nil
  · have := parse_zeros k [] h
    simpa [zerosP] using this
theorem parse_laid (l : List O) (k : Nat) (h : ∀ o ∈ l, Good o) : parseP (flat l ++ List.replicate k 0) = some l := by
  rw [parse_flat l _ h, parse_pad]; simp

/-- What is read is its options laid, and noughts. -/
theorem parse_shape : ∀ (n : Nat) (b : List Int) (l : List O), b.length ≤ n → Bytes b → parseP b = some l →
    (∀ o ∈ l, Good o ∧ Bytes o.2) ∧ ∃ k, b = flat l ++ List.replicate k 0
  | 0, b, l, hn, hb, h => by
    have : b = [] := List.eq_nil_of_length_eq_zero (by omega)
    subst this
    rw [parseP_nil] at h
    obtain rfl := Option.some.inj h
    exact ⟨by simp, 0, rfl⟩
  | n + 1, b, l, hn, hb, h => by
    match b, hn, hb, h with
    | [], _, _, h =>
      rw [parseP_nil] at h
      obtain rfl := Option.some.inj h
      exact ⟨by simp, 0, rfl⟩
    | x :: r, hn, hb, h =>
      have hx := hb.head
      simp only [List.length_cons] at hn
      by_cases h0 : x = 0
      · subst h0
        rw [parseP_zero] at h
        by_cases hz : zerosP r = true
        · rw [if_pos hz] at h
          obtain rfl := Option.some.inj h
          refine ⟨by simp, r.length + 1, ?_⟩
          rw [List.replicate_succ, flat_nil, List.nil_append, ← (zerosP_iff r).1 hz]
        · rw [if_neg hz] at h; simp at h
      · by_cases h1 : x = 1
        · subst h1
          rw [parseP_one] at h
          obtain ⟨m, hm, rfl⟩ := Option.map_eq_some_iff.1 h
          obtain ⟨g, k, e⟩ := parse_shape n r m (by omega) hb.tail hm
          refine ⟨fun o ho => ?_, k, ?_⟩
          · rcases List.mem_cons.1 ho with rfl | ho
            · exact ⟨⟨by simp, by simp, by simp, by simp⟩, Bytes.nil⟩
            · exact g o ho
          · rw [flat_cons]; simp [layP, ← e]
        · match r, hn, hb, h with
          | [], _, _, h => rw [parseP_lone _ h0 h1] at h; simp at h
          | y :: s, hn, hb, h =>
            have hy := hb.tail.head
            rw [parseP_sized _ _ _ h0 h1] at h
            by_cases hc : 2 ≤ y ∧ y.toNat ≤ s.length + 2
            · rw [if_pos hc] at h
              obtain ⟨m, hm, rfl⟩ := Option.map_eq_some_iff.1 h
              simp only [List.length_cons] at hn
              obtain ⟨g, k, e⟩ := parse_shape n (s.drop (y.toNat - 2)) m (by simp; omega) (hb.tail.tail.drop _) hm
              have hl : (s.take (y.toNat - 2)).length = y.toNat - 2 := by simp; omega
              refine ⟨fun o ho => ?_, k, ?_⟩
              · rcases List.mem_cons.1 ho with rfl | ho
                · exact ⟨⟨by simp; omega, by simp; omega, fun h => absurd h h1, by simp only; omega⟩, hb.tail.tail.take _⟩
                · exact g o ho
              · rw [flat_cons]
                simp only [layP, h1, if_false, hl, List.cons_append, List.append_assoc]
                rw [← e, List.take_append_drop, show (2 + ((y.toNat - 2 : Nat) : Int)) = y from by omega]
            · rw [if_neg hc] at h; simp at h

/-! Build. -/
def rightB (o : O) : Bool := decide (1 ≤ o.1) && decide (o.1 ≤ 255) && decide (o.2.length ≤ 38) && (decide (o.1 ≠ 1) || decide (o.2.length = 0))
theorem rightB_iff (o : O) : rightB o = true ↔ 1 ≤ o.1 ∧ o.1 ≤ 255 ∧ o.2.length ≤ 38 ∧ (o.1 = 1 → o.2 = []) := by
  unfold rightB
  simp only [Bool.and_eq_true, decide_eq_true_eq, Bool.or_eq_true, List.length_eq_zero_iff]
  constructor
  · rintro ⟨⟨⟨h1, h2⟩, h3⟩, h4⟩
    exact ⟨h1, h2, h3, fun e => h4.elim (fun h => absurd e h) id⟩
  · rintro ⟨h1, h2, h3, h4⟩
    refine ⟨⟨⟨h1, h2⟩, h3⟩, ?_⟩
    by_cases e : o.1 = 1
    · exact .inr (h4 e)
    · exact .inl e
theorem rightB_good {o : O} (h : rightB o = true) : Good o := by
  obtain ⟨h1, h2, h3, h4⟩ := (rightB_iff o).1 h
  exact ⟨h1, h2, h4, by omega⟩
def fillP (n : Nat) : Nat := (n + 3) / 4 * 4
def laidP (l : List O) : List Int := flat l ++ List.replicate (fillP (tot l) - tot l) 0
theorem fillP_le (n : Nat) : n ≤ fillP n ∧ fillP n < n + 4 ∧ fillP n % 4 = 0 := by unfold fillP; omega
theorem laidP_len (l : List O) : (laidP l).length = fillP (tot l) := by
  have := (fillP_le (tot l)).1
  simp [laidP, flat_len]; omega
/-- What Build tells: the bytes and the error. -/
def buildP (l : List O) : List Int × Int := if l.all rightB = true then (if 40 < tot l then ([], 3) else (laidP l, 0)) else ([], 40)
def validP (b : List Int) : Bool := decide (b.length ≤ 40) && decide (b.length % 4 = 0) && (parseP b).isSome
def carryP (b : List Int) : List Int := if validP b = true then (buildP (((parseP b).getD []).filter (fun o => decide (128 ≤ o.1)))).1 else []
theorem buildP_ok {l : List O} (h : ∀ o ∈ l, rightB o = true) (ht : tot l ≤ 40) : buildP l = (laidP l, 0) := by
  unfold buildP
  rw [if_pos (List.all_eq_true.2 h), if_neg (by omega)]
theorem laid_bytes {l : List O} (h : ∀ o ∈ l, rightB o = true) (hb : ∀ o ∈ l, Bytes o.2) : Bytes (laidP l) :=
  (flat_bytes l (fun o ho => rightB_good (h o ho)) hb).app (Bytes.zeros _)
theorem parse_laidP {l : List O} (h : ∀ o ∈ l, rightB o = true) : parseP (laidP l) = some l := parse_laid l _ (fun o ho => rightB_good (h o ho))
theorem fill40 {n : Nat} (h : n ≤ 40) : fillP n ≤ 40 := by unfold fillP; omega
theorem valid_laid {l : List O} (h : ∀ o ∈ l, rightB o = true) (ht : tot l ≤ 40) : validP (laidP l) = true := by
  unfold validP
  rw [parse_laidP h, laidP_len]
  have h1 := fill40 ht
  have h2 := (fillP_le (tot l)).2.2
  simp [h1, h2]
theorem tot_filter (p : O → Bool) : ∀ l : List O, tot (l.filter p) ≤ tot l
  | [] => by simp
  | o :: l => by
    have := tot_filter p l
    rw [tot_cons]
    by_cases hp : p o = true
    · rw [List.filter_cons_of_pos hp, tot_cons]; omega
    · rw [List.filter_cons_of_neg hp]; omega
theorem fill_mono {n m : Nat} (h : n ≤ m) : fillP n ≤ fillP m := by unfold fillP; omega
/-- A part of right options. -/
theorem right_filter {l : List O} (p : O → Bool) (h : ∀ o ∈ l, rightB o = true) : ∀ o ∈ l.filter p, rightB o = true := fun o ho => h o (List.mem_filter.1 ho).1
theorem mem_sz : ∀ {l : List O} {o : O}, o ∈ l → szP o ≤ tot l
  | x :: l, o, h => by
    rw [tot_cons]
    rcases List.mem_cons.1 h with rfl | h
    · omega
    · have := mem_sz h; omega
/-- What is Valid: its options are right, and fit. -/
theorem valid_parts {b : List Int} (hb : Bytes b) (hv : validP b = true) :
    ∃ l, parseP b = some l ∧ (∀ o ∈ l, rightB o = true) ∧ (∀ o ∈ l, Bytes o.2) ∧ tot l ≤ 40 ∧ ∃ k, b = laidP l ++ List.replicate k 0 := by
  unfold validP at hv
  simp only [Bool.and_eq_true, decide_eq_true_eq] at hv
  obtain ⟨⟨h1, h2⟩, h3⟩ := hv
  obtain ⟨l, hl⟩ := Option.isSome_iff_exists.1 h3
  obtain ⟨g, k, e⟩ := parse_shape _ b l (Nat.le_refl _) hb hl
  have hlen : b.length = tot l + k := by rw [e]; simp [flat_len]
  refine ⟨l, hl, fun o ho => ?_, fun o ho => (g o ho).2, by omega, k - (fillP (tot l) - tot l), ?_⟩
  · obtain ⟨⟨a1, a2, a3, a4⟩, _⟩ := g o ho
    refine (rightB_iff o).2 ⟨a1, a2, ?_, a3⟩
    have := mem_sz ho
    unfold szP at this
    by_cases h : o.1 = 1
    · rw [a3 h]; simp
    · rw [if_neg h] at this; omega
  · have hf := fillP_le (tot l)
    have : fillP (tot l) - tot l ≤ k := by omega
    rw [e]
    unfold laidP
    rw [List.append_assoc, List.replicate_append_replicate, show fillP (tot l) - tot l + (k - (fillP (tot l) - tot l)) = k from by omega]
theorem carry_parts {b : List Int} (hb : Bytes b) : ∃ m : List O, carryP b = laidP m ∧ (∀ o ∈ m, rightB o = true) ∧ (∀ o ∈ m, Bytes o.2) ∧ tot m ≤ 40 ∧ (∀ o ∈ m, 128 ≤ o.1) ∧ fillP (tot m) ≤ b.length := by
  by_cases hv : validP b = true
  · obtain ⟨l, hl, hr, hbs, ht, k, e⟩ := valid_parts hb hv
    have hle := tot_filter (fun o => decide (128 ≤ o.1)) l
    refine ⟨l.filter (fun o => decide (128 ≤ o.1)), ?_, right_filter _ hr, fun o ho => hbs o (List.mem_filter.1 ho).1, by omega, fun o ho => by simpa using (List.mem_filter.1 ho).2, ?_⟩
    · unfold carryP
      rw [if_pos hv, hl, Option.getD_some, buildP_ok (right_filter _ hr) (by omega)]
    · have := fill_mono hle
      rw [e, List.length_append, laidP_len]
      omega
  · refine ⟨[], ?_, by simp, by simp, by simp [tot_nil], by simp, by simp [tot_nil, fillP]⟩
    unfold carryP
    rw [if_neg hv]
    rfl
theorem carry_laid {m : List O} (h : ∀ o ∈ m, rightB o = true) (ht : tot m ≤ 40) : carryP (laidP m) = laidP (m.filter (fun o => decide (128 ≤ o.1))) := by
  have hle := tot_filter (fun o => decide (128 ≤ o.1)) m
  unfold carryP
  rw [if_pos (valid_laid h ht), parse_laidP h, Option.getD_some, buildP_ok (right_filter _ h) (by omega)]
theorem carry_twice {b : List Int} (hb : Bytes b) : carryP (carryP b) = carryP b := by
  obtain ⟨m, e, h1, h2, h3, h4, h5⟩ := carry_parts hb
  rw [e, carry_laid h1 h3, List.filter_eq_self.2 (fun o ho => by simpa using h4 o ho)]
theorem carry_valid {b : List Int} (hb : Bytes b) : validP (carryP b) = true ∧ (carryP b).length ≤ b.length ∧ Bytes (carryP b) ∧ (carryP b).length ≤ 40 := by
  obtain ⟨m, e, h1, h2, h3, h4, h5⟩ := carry_parts hb
  rw [e, laidP_len]
  exact ⟨valid_laid h1 h3, h5, laid_bytes h1 h2, fill40 h3⟩
#print axioms carry_valid
end Go.Proofs.YtbkeilboneaejaaGreatDoor
