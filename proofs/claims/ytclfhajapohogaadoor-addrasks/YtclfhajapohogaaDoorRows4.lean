/-
  Bytes under a mask, and a world with many addresses in it.
-/
import Derived.Test.YtclfhajapohogaaDoorKit
namespace Go.Proofs.YtclfhajapohogaaDoor
open Go.ChangeShapes Go.WideShapes Go.ChangeAt Go.RowKit
set_option linter.unusedVariables false
set_option maxHeartbeats 4000000
set_option maxRecDepth 100000

def mbOk : Bool := (List.range 9).all fun q => (List.range 256).all fun b => decide (mb (q : Int) (b : Int) = ((b - b % 2 ^ (8 - q) : Nat) : Int))
theorem mbOk_true : mbOk = true := by decide +kernel
theorem mb_eq (q b : Nat) (hq : q ≤ 8) (hb : b ≤ 255) : mb (q : Int) (b : Int) = ((b - b % 2 ^ (8 - q) : Nat) : Int) := by
  have h := mbOk_true
  unfold mbOk at h
  simp only [List.all_eq_true, List.mem_range, decide_eq_true_eq] at h
  exact h q (by omega) b (by omega)
theorem mbn (p q b : Nat) (hp : p ≤ 8) (hq : q ≤ 8) (hb : b ≤ 255) : (b - b % 2 ^ (8 - q)) - (b - b % 2 ^ (8 - q)) % 2 ^ (8 - p) = b - b % 2 ^ (8 - min q p) := by
  rcases Nat.lt_or_ge q p with h | h
  · rw [Nat.min_eq_left (by omega)]
    have e : 2 ^ (8 - p) ∣ 2 ^ (8 - q) := Nat.pow_dvd_pow 2 (by omega)
    have d : 2 ^ (8 - q) ∣ b - b % 2 ^ (8 - q) := Nat.dvd_sub_mod b
    have := Nat.mod_eq_zero_of_dvd (Nat.dvd_trans e d)
    omega
  · rw [Nat.min_eq_right h]
    have e : 2 ^ (8 - q) ∣ 2 ^ (8 - p) := Nat.pow_dvd_pow 2 (by omega)
    have h1 : (b - b % 2 ^ (8 - q)) / 2 ^ (8 - p) = b / 2 ^ (8 - p) := by
      have d : 2 ^ (8 - q) ∣ b - b % 2 ^ (8 - q) := Nat.dvd_sub_mod b
      obtain ⟨k, hk⟩ := e
      rw [hk, ← Nat.div_div_eq_div_mul, ← Nat.div_div_eq_div_mul]
      congr 1
      have pos : 0 < 2 ^ (8 - q) := Nat.pow_pos (by omega)
      have a1 : b - b % 2 ^ (8 - q) = 2 ^ (8 - q) * (b / 2 ^ (8 - q)) := by have := Nat.div_add_mod b (2 ^ (8 - q)); omega
      rw [a1, Nat.mul_div_cancel_left _ pos]
    have h2 := Nat.div_add_mod (b - b % 2 ^ (8 - q)) (2 ^ (8 - p))
    have h3 := Nat.div_add_mod b (2 ^ (8 - p))
    rw [h1] at h2
    have h4 := Nat.mod_le b (2 ^ (8 - q))
    omega
theorem mb_range (q b : Int) (hq : 0 ≤ q ∧ q ≤ 8) (hb : 0 ≤ b ∧ b ≤ 255) : 0 ≤ mb q b ∧ mb q b ≤ b := by
  obtain ⟨q, rfl⟩ := Int.eq_ofNat_of_zero_le hq.1
  obtain ⟨b, rfl⟩ := Int.eq_ofNat_of_zero_le hb.1
  rw [mb_eq q b (by omega) (by omega)]
  omega
theorem mb_mb (p q b : Int) (hp : 0 ≤ p ∧ p ≤ 8) (hq : 0 ≤ q ∧ q ≤ 8) (hb : 0 ≤ b ∧ b ≤ 255) : mb p (mb q b) = mb (min q p) b := by
  obtain ⟨p, rfl⟩ := Int.eq_ofNat_of_zero_le hp.1
  obtain ⟨q, rfl⟩ := Int.eq_ofNat_of_zero_le hq.1
  obtain ⟨b, rfl⟩ := Int.eq_ofNat_of_zero_le hb.1
  have e : min (q : Int) (p : Int) = ((min q p : Nat) : Int) := by omega
  rw [e, mb_eq q b (by omega) (by omega), mb_eq p _ (by omega) (by omega), mb_eq (min q p) b (by omega) (by omega), mbn p q b (by omega) (by omega) (by omega)]
theorem mb_zero (q : Int) (hq : 0 ≤ q ∧ q ≤ 8) : mb q 0 = 0 := by have := mb_range q 0 hq (by omega); omega
theorem kept_min (n m : Int) (k : Nat) : min (kept n k) (kept m k) = kept (min n m) k := by unfold kept; omega
theorem maskL_bytes (bs : Int) : ∀ (k : Nat) (l : List Int), (∀ y ∈ l, 0 ≤ y ∧ y ≤ 255) → ∀ y ∈ maskL bs k l, 0 ≤ y ∧ y ≤ 255
  | _, [], _ => by simp [maskL]
  | k, a :: l, h => by
    intro y hy
    simp only [maskL, List.mem_cons] at hy
    rcases hy with rfl | hy
    · have := mb_range (kept bs k) a (kept_bd bs k) (h a (by simp)); have := h a (by simp); omega
    · exact maskL_bytes bs (k + 1) l (fun y hy => h y (by simp [hy])) y hy
theorem maskL_maskL (n m : Int) : ∀ (k : Nat) (l : List Int), (∀ y ∈ l, 0 ≤ y ∧ y ≤ 255) → maskL m k (maskL n k l) = maskL (min n m) k l
  | _, [], _ => rfl
  | k, a :: l, h => by
    simp only [maskL]
    rw [mb_mb _ _ _ (kept_bd m k) (kept_bd n k) (h a (by simp)), kept_min, maskL_maskL n m (k + 1) l (fun y hy => h y (by simp [hy]))]
theorem maskL_drop (bs : Int) : ∀ (d k : Nat) (l : List Int), (maskL bs k l).drop d = maskL bs (k + d) (l.drop d)
  | 0, _, _ => rfl
  | d + 1, _, [] => rfl
  | d + 1, k, a :: l => by
    simp only [maskL, List.drop_succ_cons]
    rw [maskL_drop bs d (k + 1) l, Nat.add_right_comm, Nat.add_assoc]
theorem maskL_zeros (bs : Int) : ∀ (k n : Nat), maskL bs k (List.replicate n 0) = List.replicate n 0
  | _, 0 => rfl
  | k, n + 1 => by simp only [List.replicate_succ, maskL]; rw [mb_zero _ (kept_bd bs k), maskL_zeros bs (k + 1) n]
theorem valid_mask {v : Int} {l : List Int} (bs : Int) (h : validP v l = true) : validP v (maskL bs 0 l) = true := by
  unfold validP at h ⊢
  by_cases hv : v = 4
  · rw [if_pos hv] at h ⊢
    have e := eqL_true h
    rw [maskL_drop, e, show z12 = List.replicate 12 0 from rfl, maskL_zeros]
    exact eqL_self _
  · rw [if_neg hv] at h ⊢
    exact h
theorem cmp_ge : ∀ (bs : Int) (k : Nat) (l : List Int), (∀ y ∈ l, 0 ≤ y ∧ y ≤ 255) → 0 ≤ Lib.compareBytes (Lib.bytesOf l) (Lib.bytesOf (maskL bs k l))
  | _, _, [], _ => by simp [maskL, Lib.bytesOf, Lib.compareBytes]
  | bs, k, a :: l, h => by
    have ih := cmp_ge bs (k + 1) l (fun y hy => h y (by simp [hy]))
    have h1 := mb_range (kept bs k) a (kept_bd bs k) (h a (by simp))
    have h2 := h a (by simp)
    simp only [maskL, Lib.bytesOf, List.map_cons, Lib.compareBytes]
    have h3 : ¬ (UInt8.ofNat a.toNat < UInt8.ofNat (mb (kept bs k) a).toNat) := by
      rw [UInt8.lt_iff_toNat_lt]
      simp only [UInt8.toNat_ofNat']
      omega
    rw [if_neg h3]
    split
    · omega
    · exact ih
theorem less_mask (v : Int) (l : List Int) (bs : Int) (h : ∀ y ∈ l, 0 ≤ y ∧ y ≤ 255) : lessP v l v (maskL bs 0 l) = false := by
  unfold lessP cmpL
  rw [if_pos rfl]
  have := cmp_ge bs 0 l h
  simp
  omega
theorem ok_iff {v : Int} {l : List Int} {n : Int} : maskOk v l n = true ↔ validP v l = true ∧ 0 ≤ n ∧ n ≤ (if v = 4 then 32 else 128) := by
  unfold maskOk; simp
theorem within_sym (v : Int) (l : List Int) (v' : Int) (l' : List Int) (n : Int) : withinP v l v' l' n = withinP v' l' v l n := by
  have e : eqL (maskL n 0 l) (maskL n 0 l') = eqL (maskL n 0 l') (maskL n 0 l) := by unfold eqL; exact decide_eq_decide.2 eq_comm
  have e2 : decide (v = v') = decide (v' = v) := decide_eq_decide.2 eq_comm
  unfold withinP
  rw [e, e2]
  cases maskOk v l n <;> cases maskOk v' l' n <;> rfl
theorem within_mask {v : Int} {l : List Int} {n : Int} (hb : ∀ y ∈ l, 0 ≤ y ∧ y ≤ 255) (h : maskOk v l n = true) : withinP v l v (maskL n 0 l) n = true := by
  obtain ⟨h1, h2, h3⟩ := ok_iff.1 h
  have h4 : maskOk v (maskL n 0 l) n = true := ok_iff.2 ⟨valid_mask n h1, h2, h3⟩
  unfold withinP
  rw [h, h4, maskL_maskL n n 0 l hb, show min n n = n by omega, eqL_self]
  simp
theorem within_less {v : Int} {l : List Int} {v' : Int} {l' : List Int} {n m : Int} (hb : ∀ y ∈ l, 0 ≤ y ∧ y ≤ 255) (hb' : ∀ y ∈ l', 0 ≤ y ∧ y ≤ 255) (h : withinP v l v' l' n = true) (h0 : 0 ≤ m) (hm : m ≤ n) : withinP v l v' l' m = true := by
  unfold withinP at h ⊢
  simp only [Bool.and_eq_true, decide_eq_true_eq] at h ⊢
  obtain ⟨h1, h2, h3, h4⟩ := h
  obtain ⟨a1, a2, a3⟩ := ok_iff.1 h1
  obtain ⟨b1, b2, b3⟩ := ok_iff.1 h2
  refine ⟨ok_iff.2 ⟨a1, h0, by omega⟩, ok_iff.2 ⟨b1, h0, by omega⟩, h3, ?_⟩
  have e := congrArg (maskL m 0) (eqL_true h4)
  rw [maskL_maskL n m 0 l hb, maskL_maskL n m 0 l' hb', show min n m = m by omega] at e
  rw [e]
  exact eqL_self _
/-- The addresses that lie in a world. -/
def RS (w0 : World) : List (Nat × Array Value) → World → Prop
  | [], w => Glob w ∧ Below w0.heap.size w0 w
  | (g, c) :: L, w => rowAt w g = some c ∧ RS w0 L w
theorem RS.base {w0 : World} : ∀ {L : List (Nat × Array Value)} {w : World}, RS w0 L w → Glob w ∧ Below w0.heap.size w0 w
  | [], _, h => h
  | (_, _) :: L, _, h => RS.base (L := L) h.2
theorem RS.on {w0 : World} : ∀ {L : List (Nat × Array Value)} {w w' : World}, RS w0 L w → Below w.heap.size w w' → RS w0 L w'
  | [], _, _, h, hb => ⟨h.1.on hb, h.2.trans (hb.mono h.2.size)⟩
  | (_, _) :: L, _, _, h, hb => ⟨rowAt_below h.1 hb (rowAt_lt h.1), RS.on (L := L) h.2 hb⟩
theorem RS.drew {w0 : World} : ∀ {L : List (Nat × Array Value)} {w : World}, RS w0 L w → RS w0 L w.drew
  | [], _, h => ⟨h.1.drewN 1, h.2.drew⟩
  | (_, _) :: L, _, h => ⟨h.1, RS.drew (L := L) h.2⟩
theorem RS.add {w0 : World} {L : List (Nat × Array Value)} {w : World} (h : RS w0 L w) (c : Array Value) (hc : c.size = 17) : RS w0 ((w.heap.size, c) :: L) (w.alloc (.cells c 24)) :=
  ⟨rowAt_new w c 24 hc, h.on ((Below.refl _ _).alloc (Nat.le_refl _) _)⟩
theorem rowAt_cell {w : World} {g : Nat} {c : Array Value} (h : rowAt w g = some c) (i : Nat) (x : Value) (hx : c[i]? = some x) : w.cell? ⟨g, i, none⟩ = some x := by
  obtain ⟨t, ht, _⟩ := rowAt_some h
  simp [World.cell?, ht, hx]
end Go.Proofs.YtclfhajapohogaaDoor
