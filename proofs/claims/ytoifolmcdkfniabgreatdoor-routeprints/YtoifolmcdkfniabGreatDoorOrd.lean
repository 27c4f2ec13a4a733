/-
  The order of addresses; nets.
-/
import Derived.Test.YtoifolmcdkfniabGreatDoorWithin
import Derived.Test.YtoifolmcdkfniabGreatDoorEq
namespace Go.Proofs.YtoifolmcdkfniabGreatDoor
open Go.ChangeShapes Go.WideShapes Go.ChangeAt Go.RowKit
set_option linter.unusedVariables false
set_option linter.unusedSimpArgs false
set_option maxRecDepth 100000

theorem cmp_self : ∀ l : List UInt8, Lib.compareBytes l l = 0
  | [] => rfl
  | a :: l => by simp [Lib.compareBytes, cmp_self l]
theorem cmp_anti : ∀ l m : List UInt8, Lib.compareBytes l m = - Lib.compareBytes m l
  | [], [] => rfl
  | [], _ :: _ => rfl
  | _ :: _, [] => rfl
  | a :: l, b :: m => by
    simp only [Lib.compareBytes]
    have ih := cmp_anti l m
    by_cases h1 : a < b
    · have h2 : ¬ b < a := UInt8.not_lt.2 (UInt8.le_of_lt h1)
      simp [h1, h2]
    · by_cases h2 : b < a
      · simp [h1, h2]
      · simp [h1, h2, ih]
theorem cmp_zero : ∀ l m : List UInt8, Lib.compareBytes l m = 0 → l = m
  | [], [], _ => rfl
  | [], _ :: _, h => by simp [Lib.compareBytes] at h
  | _ :: _, [], h => by simp [Lib.compareBytes] at h
  | a :: l, b :: m, h => by
    simp only [Lib.compareBytes] at h
    by_cases h1 : a < b
    · simp [h1] at h
    · by_cases h2 : b < a
      · simp [h1, h2] at h
      · simp only [h1, h2, if_false] at h
        have e : a = b := UInt8.le_antisymm (UInt8.not_lt.1 h2) (UInt8.not_lt.1 h1)
        rw [e, cmp_zero l m h]
theorem cmp_trans : ∀ l m n : List UInt8, Lib.compareBytes l m < 0 → Lib.compareBytes m n < 0 → Lib.compareBytes l n < 0
  | [], [], n, h, _ => by simp [Lib.compareBytes] at h
  | [], b :: m, [], _, h => by simp [Lib.compareBytes] at h
  | [], b :: m, c :: n, _, _ => by simp [Lib.compareBytes]
  | a :: l, [], n, h, _ => by simp [Lib.compareBytes] at h
  | a :: l, b :: m, [], _, h => by simp [Lib.compareBytes] at h
  | a :: l, b :: m, c :: n, h1, h2 => by
    simp only [Lib.compareBytes] at h1 h2 ⊢
    by_cases x1 : a < b
    · by_cases y1 : b < c
      · have : a < c := UInt8.lt_trans x1 y1
        simp [this]
      · by_cases y2 : c < b
        · simp [y1, y2] at h2
        · have e : b = c := UInt8.le_antisymm (UInt8.not_lt.1 y2) (UInt8.not_lt.1 y1)
          subst e; simp [x1]
    · by_cases x2 : b < a
      · simp [x1, x2] at h1
      · have e : a = b := UInt8.le_antisymm (UInt8.not_lt.1 x2) (UInt8.not_lt.1 x1)
        subst e
        simp only [x1, if_false] at h1
        by_cases y1 : a < c
        · simp [y1]
        · by_cases y2 : c < a
          · simp [y1, y2] at h2
          · simp only [y1, y2, if_false] at h2 ⊢
            exact cmp_trans l m n h1 h2
theorem bytesOf_inj {l m : List Int} (hl : ∀ y ∈ l, 0 ≤ y ∧ y ≤ 255) (hm : ∀ y ∈ m, 0 ≤ y ∧ y ≤ 255) (h : Lib.bytesOf l = Lib.bytesOf m) : l = m := by
  induction l generalizing m with
  | nil => cases m with
    | nil => rfl
    | cons b m => simp [Lib.bytesOf] at h
  | cons a l ih => cases m with
    | nil => simp [Lib.bytesOf] at h
    | cons b m =>
      simp only [Lib.bytesOf, List.map_cons, List.cons.injEq] at h
      have h1 := hl a (by simp); have h2 := hm b (by simp)
      have e : a = b := by
        have := congrArg UInt8.toNat h.1
        simp only [UInt8.toNat_ofNat'] at this
        omega
      rw [e, ih (fun y hy => hl y (by simp [hy])) (fun y hy => hm y (by simp [hy])) h.2]
theorem less_irr (v : Int) (l : List Int) : lessP v l v l = false := by simp [lessP, cmpL, cmp_self]
theorem less_one (v v' : Int) (l l' : List Int) (hl : ∀ y ∈ l, 0 ≤ y ∧ y ≤ 255) (hl' : ∀ y ∈ l', 0 ≤ y ∧ y ≤ 255) (h : ¬ (v = v' ∧ l = l')) : lessP v l v' l' = !lessP v' l' v l := by
  unfold lessP cmpL
  by_cases hv : v = v'
  · subst hv
    rw [if_pos rfl, if_pos rfl]
    have h1 := cmp_anti (Lib.bytesOf l) (Lib.bytesOf l')
    have h2 : Lib.compareBytes (Lib.bytesOf l) (Lib.bytesOf l') ≠ 0 := fun e => h ⟨rfl, bytesOf_inj hl hl' (cmp_zero _ _ e)⟩
    rw [Bool.eq_iff_iff]
    simp
    omega
  · rw [if_neg hv, if_neg (fun e => hv e.symm), Bool.eq_iff_iff]
    simp
    omega
theorem less_trans (v v' v'' : Int) (l l' l'' : List Int) (h1 : lessP v l v' l' = true) (h2 : lessP v' l' v'' l'' = true) : lessP v l v'' l'' = true := by
  unfold lessP cmpL at *
  by_cases a : v = v'
  · subst a
    rw [if_pos rfl] at h1
    by_cases b : v = v''
    · subst b
      rw [if_pos rfl] at h2 ⊢
      simp at h1 h2 ⊢
      exact cmp_trans _ _ _ h1 h2
    · rw [if_neg b] at h2 ⊢
      exact h2
  · rw [if_neg a] at h1
    by_cases b : v' = v''
    · subst b
      rw [if_neg a]
      exact h1
    · rw [if_neg b] at h2
      simp at h1 h2
      rw [if_neg (by omega)]
      simp
      omega
def mbOk : Bool := (List.range 9).all fun q => (List.range 256).all fun b => decide (mb (q : Int) (b : Int) = ((b - b % 2 ^ (8 - q) : Nat) : Int))
theorem mbOk_true : mbOk = true := by decide +kernel
theorem mb_eq (q b : Nat) (hq : q ≤ 8) (hb : b ≤ 255) : mb (q : Int) (b : Int) = ((b - b % 2 ^ (8 - q) : Nat) : Int) := by
  have h := mbOk_true
  unfold mbOk at h
  simp only [List.all_eq_true, List.mem_range, decide_eq_true_eq] at h
  exact h q (by omega) b (by omega)
theorem mbn (p q b : Nat) (hp : p ≤ 8) (hq : q ≤ 8) (hb : b ≤ 255) : (b - b % 2 ^ (8 - q)) - (b - b % 2 ^ (8 - q)) % 2 ^ (8 - p) = b - b % 2 ^ (8 - min q p) := by
  rcases Nat.lt_or_ge q p with h | h
  · rw [Nat.min_eq_left (by omega)]
    have e : 2 ^ (8 - p) ∣ 2 ^ (8 - q) := Nat.pow_dvd_pow 2 (by omega)
    have d : 2 ^ (8 - q) ∣ b - b % 2 ^ (8 - q) := Nat.dvd_sub_mod b
    have := Nat.mod_eq_zero_of_dvd (Nat.dvd_trans e d)
    omega
  · rw [Nat.min_eq_right h]
    have e : 2 ^ (8 - q) ∣ 2 ^ (8 - p) := Nat.pow_dvd_pow 2 (by omega)
    have h1 : (b - b % 2 ^ (8 - q)) / 2 ^ (8 - p) = b / 2 ^ (8 - p) := by
      have d : 2 ^ (8 - q) ∣ b - b % 2 ^ (8 - q) := Nat.dvd_sub_mod b
      obtain ⟨k, hk⟩ := e
      rw [hk, ← Nat.div_div_eq_div_mul, ← Nat.div_div_eq_div_mul]
      congr 1
      have pos : 0 < 2 ^ (8 - q) := Nat.pow_pos (by omega)
      have a1 : b - b % 2 ^ (8 - q) = 2 ^ (8 - q) * (b / 2 ^ (8 - q)) := by have := Nat.div_add_mod b (2 ^ (8 - q)); omega
      rw [a1, Nat.mul_div_cancel_left _ pos]
    have h2 := Nat.div_add_mod (b - b % 2 ^ (8 - q)) (2 ^ (8 - p))
    have h3 := Nat.div_add_mod b (2 ^ (8 - p))
    rw [h1] at h2
    have h4 := Nat.mod_le b (2 ^ (8 - q))
    omega
theorem mb_range (q b : Int) (hq : 0 ≤ q ∧ q ≤ 8) (hb : 0 ≤ b ∧ b ≤ 255) : 0 ≤ mb q b ∧ mb q b ≤ b := by
  obtain ⟨q, rfl⟩ := Int.eq_ofNat_of_zero_le hq.1
  obtain ⟨b, rfl⟩ := Int.eq_ofNat_of_zero_le hb.1
  rw [mb_eq q b (by omega) (by omega)]
  omega
theorem mb_mb (p q b : Int) (hp : 0 ≤ p ∧ p ≤ 8) (hq : 0 ≤ q ∧ q ≤ 8) (hb : 0 ≤ b ∧ b ≤ 255) : mb p (mb q b) = mb (min q p) b := by
  obtain ⟨p, rfl⟩ := Int.eq_ofNat_of_zero_le hp.1
  obtain ⟨q, rfl⟩ := Int.eq_ofNat_of_zero_le hq.1
  obtain ⟨b, rfl⟩ := Int.eq_ofNat_of_zero_le hb.1
  have e : min (q : Int) (p : Int) = ((min q p : Nat) : Int) := by omega
  rw [e, mb_eq q b (by omega) (by omega), mb_eq p _ (by omega) (by omega), mb_eq (min q p) b (by omega) (by omega), mbn p q b (by omega) (by omega) (by omega)]
theorem mb_zero (q : Int) (hq : 0 ≤ q ∧ q ≤ 8) : mb q 0 = 0 := by have := mb_range q 0 hq (by omega); omega
theorem kept_min (n m : Int) (k : Nat) : min (kept n k) (kept m k) = kept (min n m) k := by unfold kept; omega
theorem maskL_bytes (bs : Int) : ∀ (k : Nat) (l : List Int), (∀ y ∈ l, 0 ≤ y ∧ y ≤ 255) → ∀ y ∈ maskL bs k l, 0 ≤ y ∧ y ≤ 255
  | _, [], _ => by simp [maskL]
  | k, a :: l, h => by
    intro y hy
    simp only [maskL, List.mem_cons] at hy
    rcases hy with rfl | hy
    · have := mb_range (kept bs k) a (kept_bd bs k) (h a (by simp)); have := h a (by simp); omega
    · exact maskL_bytes bs (k + 1) l (fun y hy => h y (by simp [hy])) y hy
theorem maskL_maskL (n m : Int) : ∀ (k : Nat) (l : List Int), (∀ y ∈ l, 0 ≤ y ∧ y ≤ 255) → maskL m k (maskL n k l) = maskL (min n m) k l
  | _, [], _ => rfl
  | k, a :: l, h => by
    simp only [maskL]
    rw [mb_mb _ _ _ (kept_bd m k) (kept_bd n k) (h a (by simp)), kept_min, maskL_maskL n m (k + 1) l (fun y hy => h y (by simp [hy]))]
theorem maskL_drop (bs : Int) : ∀ (d k : Nat) (l : List Int), (maskL bs k l).drop d = maskL bs (k + d) (l.drop d)
  | 0, _, _ => rfl
  | d + 1, _, [] => rfl
  | d + 1, k, a :: l => by
    simp only [maskL, List.drop_succ_cons]
    rw [maskL_drop bs d (k + 1) l, Nat.add_right_comm, Nat.add_assoc]
theorem maskL_zeros (bs : Int) : ∀ (k n : Nat), maskL bs k (List.replicate n 0) = List.replicate n 0
  | _, 0 => rfl
  | k, n + 1 => by simp only [List.replicate_succ, maskL]; rw [mb_zero _ (kept_bd bs k), maskL_zeros bs (k + 1) n]
theorem valid_mask {v : Int} {l : List Int} (bs : Int) (h : validP v l = true) : validP v (maskL bs 0 l) = true := by
  unfold validP at h ⊢
  by_cases hv : v = 4
  · rw [if_pos hv] at h ⊢
    have e := eqL_true h
    rw [maskL_drop, e, show z12 = List.replicate 12 0 from rfl, maskL_zeros]
    exact eqL_self _
  · rw [if_neg hv] at h ⊢
    exact h
theorem cmp_ge : ∀ (bs : Int) (k : Nat) (l : List Int), (∀ y ∈ l, 0 ≤ y ∧ y ≤ 255) → 0 ≤ Lib.compareBytes (Lib.bytesOf l) (Lib.bytesOf (maskL bs k l))
  | _, _, [], _ => by simp [maskL, Lib.bytesOf, Lib.compareBytes]
  | bs, k, a :: l, h => by
    have ih := cmp_ge bs (k + 1) l (fun y hy => h y (by simp [hy]))
    have h1 := mb_range (kept bs k) a (kept_bd bs k) (h a (by simp))
    have h2 := h a (by simp)
    simp only [maskL, Lib.bytesOf, List.map_cons, Lib.compareBytes]
    have h3 : ¬ (UInt8.ofNat a.toNat < UInt8.ofNat (mb (kept bs k) a).toNat) := by
      rw [UInt8.lt_iff_toNat_lt]
      simp only [UInt8.toNat_ofNat']
      omega
    rw [if_neg h3]
    split
    · omega
    · exact ih
theorem less_mask (v : Int) (l : List Int) (bs : Int) (h : ∀ y ∈ l, 0 ≤ y ∧ y ≤ 255) : lessP v l v (maskL bs 0 l) = false := by
  unfold lessP cmpL
  rw [if_pos rfl]
  have := cmp_ge bs 0 l h
  simp
  omega
theorem ok_iff {v : Int} {l : List Int} {n : Int} : maskOk v l n = true ↔ validP v l = true ∧ 0 ≤ n ∧ n ≤ (if v = 4 then 32 else 128) := by
  unfold maskOk; simp
theorem within_sym (v : Int) (l : List Int) (v' : Int) (l' : List Int) (n : Int) : withinP v l v' l' n = withinP v' l' v l n := by
  have e : eqL (maskL n 0 l) (maskL n 0 l') = eqL (maskL n 0 l') (maskL n 0 l) := by unfold eqL; exact decide_eq_decide.2 eq_comm
  have e2 : decide (v = v') = decide (v' = v) := decide_eq_decide.2 eq_comm
  unfold withinP
  rw [e, e2]
  cases maskOk v l n <;> cases maskOk v' l' n <;> rfl
theorem within_mask {v : Int} {l : List Int} {n : Int} (hb : ∀ y ∈ l, 0 ≤ y ∧ y ≤ 255) (h : maskOk v l n = true) : withinP v l v (maskL n 0 l) n = true := by
  obtain ⟨h1, h2, h3⟩ := ok_iff.1 h
  have h4 : maskOk v (maskL n 0 l) n = true := ok_iff.2 ⟨valid_mask n h1, h2, h3⟩
  unfold withinP
  rw [h, h4, maskL_maskL n n 0 l hb, show min n n = n by omega, eqL_self]
  simp
theorem within_less {v : Int} {l : List Int} {v' : Int} {l' : List Int} {n m : Int} (hb : ∀ y ∈ l, 0 ≤ y ∧ y ≤ 255) (hb' : ∀ y ∈ l', 0 ≤ y ∧ y ≤ 255) (h : withinP v l v' l' n = true) (h0 : 0 ≤ m) (hm : m ≤ n) : withinP v l v' l' m = true := by
  unfold withinP at h ⊢
  simp only [Bool.and_eq_true, decide_eq_true_eq] at h ⊢
  obtain ⟨h1, h2, h3, h4⟩ := h
  obtain ⟨a1, a2, a3⟩ := ok_iff.1 h1
  obtain ⟨b1, b2, b3⟩ := ok_iff.1 h2
  refine ⟨ok_iff.2 ⟨a1, h0, by omega⟩, ok_iff.2 ⟨b1, h0, by omega⟩, h3, ?_⟩
  have e := congrArg (maskL m 0) (eqL_true h4)
  rw [maskL_maskL n m 0 l hb, maskL_maskL n m 0 l' hb', show min n m = m by omega] at e
  rw [e]
  exact eqL_self _
end Go.Proofs.YtoifolmcdkfniabGreatDoor
