/-
  What a text is read as is an address. A group with so many digits at least, in either case.
-/
import Derived.Test.YtclfhajapohogaaDoorBack1
import Derived.Test.YtclfhajapohogaaDoorRTxt6
import Derived.Test.YtclfhajapohogaaDoorParse
namespace Go.Proofs.YtclfhajapohogaaDoor
open Go.ChangeShapes Go.WideShapes Go.ChangeAt Go.RowKit
set_option linter.unusedVariables false
set_option maxHeartbeats 4000000
set_option maxRecDepth 100000

theorem parse6P_lt {l : List UInt8} {r : List Nat} (h : parse6P l = some r) : ∀ g ∈ r, g < 65536 := by
  unfold parse6P at h
  cases hx : grps (Lib.cut l [58, 58]).1 with
  | none => simp [hx] at h
  | some x =>
    cases hy : grps (Lib.cut l [58, 58]).2.1 with
    | none => simp [hx, hy] at h
    | some y =>
      have h1 := grps_lt hx; have h2 := grps_lt hy
      have hj : ∀ g ∈ joinG x y, g < 65536 := fun g hg => by
        unfold joinG at hg
        rcases List.mem_append.1 hg with hg | hg
        · exact h1 g hg
        · rcases List.mem_append.1 hg with hg | hg
          · have := List.eq_of_mem_replicate hg; omega
          · exact h2 g hg
      simp only [hx, hy] at h
      split at h
      · split at h
        · simp only [Option.some.injEq] at h; subst h; exact hj
        · simp at h
      · split at h
        · simp only [Option.some.injEq] at h; subst h; exact hj
        · simp at h
theorem unG_bytes : ∀ (gs : List Nat), (∀ g ∈ gs, g < 65536) → ∀ x ∈ unG gs, 0 ≤ x ∧ x ≤ 255
  | [], _, x, hx => by simp [unG] at hx
  | g :: r, h, x, hx => by
    have h1 := h g (by simp)
    simp only [unG, List.mem_cons] at hx
    rcases hx with rfl | rfl | hx
    · unfold hi; omega
    · unfold lo; omega
    · exact unG_bytes r (fun y hy => h y (by simp [hy])) x hx
theorem dec_le {p : List UInt8} {n : Nat} (h : dec p = some n) : n ≤ 255 := by
  unfold dec at h
  split at h
  · split at h
    · rename_i h1; simp only [Option.some.injEq] at h; omega
    · simp at h
  · simp at h
theorem parse4P_le {l : List UInt8} {r : List Nat} (h : parse4P l = some r) : ∀ n ∈ r, n ≤ 255 := by
  unfold parse4P at h
  split at h
  · rename_i r' ha
    split at h
    · simp only [Option.some.injEq] at h; subst h
      exact alls_all _ _ _ (fun _ _ h => dec_le h) ha
    · simp at h
  · simp at h
/-- What a text is read as: an address, or nothing. -/
theorem parseP_cases (l : List UInt8) : (parseP l = (0, z16, 30)) ∨ ((parseP l).2.2 = 0 ∧ validP (parseP l).1 (parseP l).2.1 = true ∧ ∀ x ∈ (parseP l).2.1, 0 ≤ x ∧ x ≤ 255) := by
  by_cases h : 58 ∈ l
  · rw [parseP_six l h]
    cases hr : parse6P l with
    | none => exact .inl rfl
    | some r => exact .inr ⟨rfl, by simp [validP], unG_bytes r (parse6P_lt hr)⟩
  · rw [parseP_four l h]
    cases hr : parse4P l with
    | none => exact .inl rfl
    | some r =>
      have hl := parse4P_length hr
      have hb := parse4P_le hr
      refine .inr ⟨rfl, ?_, ?_⟩
      · obtain ⟨a, b, c, d, rfl⟩ : ∃ a b c d, r = [a, b, c, d] := by
          match r, hl with
          | [a, b, c, d], _ => exact ⟨a, b, c, d, rfl⟩
        simp [validP, fourB, eqL, z12]
      · intro x hx
        simp only [fourB, List.mem_append, List.mem_map] at hx
        rcases hx with ⟨n, hn, rfl⟩ | hx
        · have := hb n hn; simp; omega
        · have := List.eq_of_mem_replicate hx; omega
/-! So many digits, in either case. -/
def hexU (up : Bool) (m : Nat) : UInt8 := if m < 10 then UInt8.ofNat (48 + m) else if up = true then UInt8.ofNat (55 + m) else UInt8.ofNat (87 + m)
def lowU (up : Bool) (n : Nat) : Nat → List UInt8
  | 0 => []
  | k + 1 => hexU up (n / 16 ^ k % 16) :: lowU up n k
theorem dig_hexU : ∀ (up : Bool) (m : Fin 16), dig (hexU up m.val) = m.val ∧ hexU up m.val ≠ 58 := by decide
theorem lowU_length (up : Bool) (n : Nat) : ∀ k, (lowU up n k).length = k
  | 0 => rfl
  | k + 1 => by simp [lowU, lowU_length up n k]
theorem lowU_free (up : Bool) (n : Nat) : ∀ k, (58 : UInt8) ∉ lowU up n k
  | 0 => by simp [lowU]
  | k + 1 => by
    have := dig_hexU up ⟨n / 16 ^ k % 16, Nat.mod_lt _ (by decide)⟩
    simp only [lowU, List.mem_cons, not_or]
    exact ⟨fun e => this.2 e.symm, lowU_free up n k⟩
theorem digs_lowU (up : Bool) (n : Nat) : ∀ k a, digs 16 a (lowU up n k) = some (a * 16 ^ k + n % 16 ^ k)
  | 0, a => by simp [lowU, digs, Nat.mod_one]
  | k + 1, a => by
    have hd := (dig_hexU up ⟨n / 16 ^ k % 16, Nat.mod_lt _ (by decide)⟩).1
    simp only at hd
    simp only [lowU, digs, hd]
    rw [if_pos (Nat.mod_lt _ (by decide)), digs_lowU up n k]
    congr 1
    have h1 : n % 16 ^ (k + 1) = n % 16 ^ k + 16 ^ k * (n / 16 ^ k % 16) := by rw [Nat.pow_succ, Nat.mod_mul]
    rw [h1, Nat.add_mul, Nat.pow_succ, Nat.mul_comm (n / 16 ^ k % 16) (16 ^ k), Nat.mul_assoc, Nat.mul_comm 16 (16 ^ k)]
    omega
/-- How many digits. -/
def cnt (n least : Nat) : Nat := max least (nd n + 1)
def hxU (n least : Nat) (up : Bool) : List UInt8 := lowU up n (cnt n least)
theorem cnt_spec {n least : Nat} (h : n < 65536) (hl : least ≤ 4) : cnt n least ≤ 4 ∧ n < 16 ^ cnt n least := by
  have hk : nd n + 1 ≤ 4 ∧ n < 16 ^ (nd n + 1) := by
    unfold nd
    split
    · exact ⟨by omega, by omega⟩
    · split
      · exact ⟨by omega, by omega⟩
      · split
        · exact ⟨by omega, by omega⟩
        · exact ⟨by omega, by omega⟩
  unfold cnt
  exact ⟨by omega, Nat.lt_of_lt_of_le hk.2 (Nat.pow_le_pow_right (by decide) (by omega))⟩
theorem num_hxU {n least : Nat} (up : Bool) (h : n < 65536) (hl : least ≤ 4) : numOf 16 4 (hxU n least up) = some n ∧ (58 : UInt8) ∉ hxU n least up := by
  refine ⟨?_, lowU_free up n _⟩
  have hk := cnt_spec h hl
  have h1 : 1 ≤ cnt n least := by unfold cnt; omega
  unfold numOf hxU
  rw [lowU_length, if_neg (by omega), digs_lowU, Nat.mod_eq_of_lt hk.2]
  simp
/-- The loop goes on: the digits are not all there. -/
theorem cnt_more {n least k : Nat} (hl : 1 ≤ least) (h : 0 < n / 16 ^ k ∨ k < least) (hn : n < 65536) : k < cnt n least := by
  unfold cnt
  rcases h with h | h
  · have h2 : 16 ^ k ≤ n := by
      rcases Nat.lt_or_ge n (16 ^ k) with h3 | h3
      · rw [Nat.div_eq_of_lt h3] at h; omega
      · exact h3
    have : k < nd n + 1 := by
      have hk4 : k < 4 := by
        rcases Nat.lt_or_ge k 4 with h4 | h4
        · exact h4
        · have : 16 ^ 4 ≤ 16 ^ k := Nat.pow_le_pow_right (by decide) h4
          omega
      unfold nd
      match k, hk4 with
      | 0, _ => omega
      | 1, _ => split <;> (try split) <;> (try split) <;> omega
      | 2, _ => split <;> (try split) <;> (try split) <;> omega
      | 3, _ => split <;> (try split) <;> (try split) <;> omega
    omega
  · omega
theorem cnt_end {n least k : Nat} (hl : 1 ≤ least) (h1 : ¬ 0 < n / 16 ^ k) (h2 : ¬ k < least) (h3 : k ≤ cnt n least) : k = cnt n least := by
  unfold cnt at *
  have hn : n < 16 ^ k := by
    rcases Nat.lt_or_ge n (16 ^ k) with h | h
    · exact h
    · exact absurd (Nat.div_pos h (Nat.pow_pos (by decide))) h1
  rcases Nat.lt_or_ge k (nd n + 1) with h | h
  · exfalso
    unfold nd at h
    split at h
    · omega
    · split at h
      · obtain rfl : k = 1 := by omega
        omega
      · split at h
        · have : 16 ^ k ≤ 16 ^ 2 := Nat.pow_le_pow_right (by decide) (by omega)
          omega
        · have : 16 ^ k ≤ 16 ^ 3 := Nat.pow_le_pow_right (by decide) (by omega)
          omega
  · omega
#print axioms cnt_end
end Go.Proofs.YtclfhajapohogaaDoor
