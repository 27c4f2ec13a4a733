/-
  Masks by their bits, and the document's own Within.
-/
import Derived.Test.YtoifolmcdkfniaaRef2
namespace Go.Proofs.Ytoifolmcdkfniaa
open Go.ChangeShapes Go.WideShapes Go.ChangeAt Go.RowKit
set_option linter.unusedVariables false
set_option maxHeartbeats 4000000
set_option maxRecDepth 100000

theorem div_step (a q : Nat) (hq : q < 8) : a / 2 ^ (8 - q) = a / 2 ^ (7 - q) / 2 := by
  rw [show 8 - q = (7 - q) + 1 by omega, Nat.pow_succ, Nat.div_div_eq_div_mul]
theorem byte_div (a b : Nat) (ha : a ≤ 255) (hb : b ≤ 255) : ∀ q, q ≤ 8 → (a / 2 ^ (8 - q) = b / 2 ^ (8 - q) ↔ ∀ j, j < q → a / 2 ^ (7 - j) % 2 = b / 2 ^ (7 - j) % 2)
  | 0, _ => by
    have h1 : a / 2 ^ (8 - 0) = 0 := Nat.div_eq_of_lt (by omega)
    have h2 : b / 2 ^ (8 - 0) = 0 := Nat.div_eq_of_lt (by omega)
    rw [h1, h2]; simp
  | q + 1, hq => by
    have ih := byte_div a b ha hb q (by omega)
    rw [div_step a q (by omega), div_step b q (by omega)] at ih
    rw [show 8 - (q + 1) = 7 - q by omega]
    constructor
    · intro h j hj
      rcases Nat.lt_or_ge j q with h1 | h1
      · exact ih.1 (by rw [h]) j h1
      · rw [show j = q by omega, h]
    · intro h
      have h1 := ih.2 (fun j hj => h j (by omega))
      have h2 := h q (by omega)
      omega
theorem mb_bits (q : Nat) (a b : Int) (hq : q ≤ 8) (ha : 0 ≤ a ∧ a ≤ 255) (hb : 0 ≤ b ∧ b ≤ 255) : mb q a = mb q b ↔ ∀ j, j < q → a / 2 ^ (7 - j) % 2 = b / 2 ^ (7 - j) % 2 := by
  obtain ⟨a, rfl⟩ := Int.eq_ofNat_of_zero_le ha.1
  obtain ⟨b, rfl⟩ := Int.eq_ofNat_of_zero_le hb.1
  rw [mb_eq q a hq (by omega), mb_eq q b hq (by omega)]
  have h := byte_div a b (by omega) (by omega) q hq
  have pos : 0 < 2 ^ (8 - q) := Nat.pow_pos (by omega)
  have a1 := Nat.div_add_mod a (2 ^ (8 - q))
  have b1 := Nat.div_add_mod b (2 ^ (8 - q))
  have e : (((a - a % 2 ^ (8 - q) : Nat) : Int) = ((b - b % 2 ^ (8 - q) : Nat) : Int)) ↔ a / 2 ^ (8 - q) = b / 2 ^ (8 - q) := by
    have a2 : a - a % 2 ^ (8 - q) = 2 ^ (8 - q) * (a / 2 ^ (8 - q)) := by omega
    have b2 : b - b % 2 ^ (8 - q) = 2 ^ (8 - q) * (b / 2 ^ (8 - q)) := by omega
    rw [a2, b2]
    constructor
    · intro h; exact Nat.eq_of_mul_eq_mul_left pos (by exact_mod_cast h)
    · intro h; rw [h]
  rw [e, h]
  constructor
  · intro h j hj; exact_mod_cast h j hj
  · intro h j hj; exact_mod_cast h j hj
theorem mask_bits {l l' : List Int} (hl : l.length = 16) (hl' : l'.length = 16) (hb : ∀ y ∈ l, 0 ≤ y ∧ y ≤ 255) (hb' : ∀ y ∈ l', 0 ≤ y ∧ y ≤ 255) (n : Nat) (hn : n ≤ 128) :
    maskL n 0 l = maskL n 0 l' ↔ ∀ i, i < n → bitP l i = bitP l' i := by
  have key : ∀ k, k < 16 → ((maskL n 0 l)[k]? = (maskL n 0 l')[k]? ↔ ∀ j, j < 8 → 8 * k + j < n → bitP l (8 * k + j) = bitP l' (8 * k + j)) := by
    intro k hk
    obtain ⟨a, ha⟩ : ∃ b, l[k]? = some b := ⟨_, List.getElem?_eq_getElem (by omega)⟩
    obtain ⟨b, hbk⟩ : ∃ b, l'[k]? = some b := ⟨_, List.getElem?_eq_getElem (by omega)⟩
    obtain ⟨q, hq⟩ : ∃ q : Nat, kept n k = (q : Int) := ⟨(kept n k).toNat, by have := kept_bd n k; omega⟩
    have hq8 : q ≤ 8 := by have := kept_bd n k; omega
    rw [maskL_get, maskL_get, ha, hbk, Nat.zero_add, hq]
    simp only [Option.map_some, Option.some.injEq]
    rw [mb_bits q a b hq8 (hb a (List.mem_of_getElem? ha)) (hb' b (List.mem_of_getElem? hbk))]
    have f : ∀ j, j < 8 → bitP l (8 * k + j) = a / 2 ^ (7 - j) % 2 ∧ bitP l' (8 * k + j) = b / 2 ^ (7 - j) % 2 := by
      intro j hj
      unfold bitP
      rw [show (8 * k + j) / 8 = k by omega, show (8 * k + j) % 8 = j by omega, List.getD, List.getD, ha, hbk]
      exact ⟨rfl, rfl⟩
    have hj : ∀ j, j < q ↔ j < 8 ∧ 8 * k + j < n := by intro j; unfold kept at hq; omega
    constructor
    · intro h j h8 hn; rw [(f j h8).1, (f j h8).2]; exact h j ((hj j).2 ⟨h8, hn⟩)
    · intro h j hjq; have := (hj j).1 hjq; have h1 := h j this.1 this.2; rwa [(f j this.1).1, (f j this.1).2] at h1
  constructor
  · intro h i hi
    have := (key (i / 8) (by omega)).1 (by rw [h]) (i % 8) (by omega) (by omega)
    rwa [show 8 * (i / 8) + i % 8 = i by omega] at this
  · intro h
    apply List.ext_getElem?
    intro k
    by_cases hk : k < 16
    · exact (key k hk).2 (fun j h8 hn => h _ hn)
    · rw [List.getElem?_eq_none (by rw [maskL_length]; omega), List.getElem?_eq_none (by rw [maskL_length]; omega)]
end Go.Proofs.Ytoifolmcdkfniaa
