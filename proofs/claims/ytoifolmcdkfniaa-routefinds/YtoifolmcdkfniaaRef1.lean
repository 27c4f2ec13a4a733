/-
  The document's own Valid, Bits, bit.
-/
import Derived.Test.YtoifolmcdkfniaaRows4
namespace Go.Proofs.Ytoifolmcdkfniaa
open Go.ChangeShapes Go.WideShapes Go.ChangeAt Go.RowKit
set_option linter.unusedVariables false
set_option maxHeartbeats 4000000
set_option maxRecDepth 100000

theorem rbits_c (v : Int) (l : List Int) (hl : l.length = 16) (w : World) :
    Calls Try.prog 40 #[.agg (csA v l)] w fun e w' => e = .returned (.int .i64 (if v = 4 then 32 else 128)) ∧ Below w.heap.size w w' := by
  obtain ⟨cs, hcs⟩ : ∃ c, c = csA v l := ⟨_, rfl⟩
  have r1 : rowAt (w.alloc (.cells cs 31)) w.heap.size = some cs := rowAt_new w cs 31 (by rw [hcs]; exact csA_size hl)
  have c0 := rowAt_cell r1 0 (.int .i64 v) (by rw [hcs]; exact csA_zero v l)
  have HB : Hid (Below w.heap.size w (w.alloc (.cells cs 31))) := Lib.hid ((Below.refl _ _).alloc (Nat.le_refl _) _)
  rw [← hcs]
  clear hcs
  by_cases hv : v = 4
  · have fv : decide (v = 4) = true := by simp [hv]
    rw [if_pos hv]
    go_enter Try.func40, Try.ntmps40
    go_wp2_with fail
    go_ret
    exact ⟨rfl, HB.out⟩
  · have fv : decide (v = 4) = false := by simp [hv]
    rw [if_neg hv]
    go_enter Try.func40, Try.ntmps40
    go_wp2_with fail
    go_ret
    exact ⟨rfl, HB.out⟩
theorem valid_of {v : Int} {l : List Int} (hl : l.length = 16) (h6 : v ≠ 6) (h : ∀ j, 4 ≤ j → j < 16 → l[j]? = some 0) : validP v l = decide (v = 4) := by
  unfold validP
  have e : l.drop 4 = z12 := by
    apply List.ext_getElem?
    intro i
    rw [List.getElem?_drop]
    by_cases hi : i < 12
    · rw [h (4 + i) (by omega) (by omega)]
      have : ∀ i, i < 12 → z12[i]? = some 0 := by decide
      rw [this i hi]
    · rw [List.getElem?_eq_none (by omega), List.getElem?_eq_none (by simp [z12]; omega)]
  rw [e, eqL_self]
  by_cases h4 : v = 4 <;> simp [h4, h6]
theorem valid_not {v : Int} {l : List Int} (h6 : v ≠ 6) (k : Nat) (b : Int) (hk : 4 ≤ k) (hb : l[k]? = some b) (h0 : b ≠ 0) (h16 : k < 16) : validP v l = false := by
  unfold validP
  by_cases h4 : v = 4
  · rw [if_pos h4]
    apply eqL_of_ne
    intro e
    have h1 := congrArg (fun x => x[k - 4]?) e
    simp only [List.getElem?_drop] at h1
    rw [show 4 + (k - 4) = k by omega, hb] at h1
    have : ∀ i, i < 12 → z12[i]? = some 0 := by decide
    rw [this (k - 4) (by omega)] at h1
    simp at h1
    exact h0 h1
  · rw [if_neg h4]; simp [h6]
theorem rvalid_c (v : Int) (l : List Int) (hl : l.length = 16) (w : World) :
    Calls Try.prog 26 #[.agg (csA v l)] w fun e w' => e = .returned (.bool (validP v l)) ∧ Below w.heap.size w w' := by
  obtain ⟨cs, hcs⟩ : ∃ c, c = csA v l := ⟨_, rfl⟩
  have r1 : rowAt (w.alloc (.cells cs 31)) w.heap.size = some cs := rowAt_new w cs 31 (by rw [hcs]; exact csA_size hl)
  have c0 := rowAt_cell r1 0 (.int .i64 v) (by rw [hcs]; exact csA_zero v l)
  have HB : Hid (Below w.heap.size w (w.alloc (.cells cs 31))) := Lib.hid ((Below.refl _ _).alloc (Nat.le_refl _) _)
  have HR : Hid (rowAt (w.alloc (.cells cs 31)) w.heap.size = some (csA v l)) := Lib.hid (by rw [← hcs]; exact r1)
  obtain ⟨r, hr⟩ : ∃ r, r = validP v l := ⟨_, rfl⟩
  have HV := Lib.hid hr
  rw [← hcs, ← hr]
  clear hcs hr r1
  by_cases hv : v = 6
  · have fv : decide (v = 6) = true := by simp [hv]
    have e : r = true := by rw [HV.out, validP, if_neg (by omega)]; simp [hv]
    subst e
    go_enter Try.func26, Try.ntmps26
    go_wp2_with fail
    go_ret
    exact ⟨rfl, HB.out⟩
  · have fv : decide (v = 6) = false := by simp [hv]
    go_enter Try.func26, Try.ntmps26
    go_wp2_with fail
    generalize w.alloc (.cells cs 31) = W at *
    go_loopw [3] (fun i wr => ∃ k : Nat, 4 ≤ k ∧ k ≤ 16 ∧ i = .int .i64 (k : Int) ∧ (∀ j, 4 ≤ j → j < k → l[j]? = some 0) ∧ wr = W) (fun i _ => 16 - (intOf i).toNat)
    case atStart => exact ⟨4, by omega, by omega, rfl, fun j h1 h2 => by omega, rfl⟩
    case round =>
      obtain ⟨k, hk4, hk, rfl, hz, hW⟩ := hrel
      subst hW
      have HZ := Lib.hid hz
      clear hz
      by_cases hlt : k < 16
      · obtain ⟨b, hbk⟩ : ∃ b, l[k]? = some b := ⟨_, List.getElem?_eq_getElem (by omega)⟩
        have cx := rowAt_bytes HR.out k b hbk
        have b1 : decide ((k : Int) < 16) = true := by simp; omega
        have b2 : 0 ≤ (k : Int) := by omega
        have b3 : (k : Int) < 16 := by omega
        have b4 : ((k : Int)).toNat = k := by omega
        have HBK := Lib.hid hbk
        clear hbk
        by_cases hb0 : b = 0
        · subst hb0
          go_wp2_with fail
          go_roundw
          all_goals first | exact ⟨k + 1, by omega, by omega, by go_num, fun j h1 h2 => (by rcases Nat.lt_or_ge j k with h | h; exact HZ.out j h1 h; rw [show j = k by omega]; exact HBK.out), trivial⟩ | (simp [intOf]; omega)
        · have e : r = false := by rw [HV.out]; exact valid_not hv k b hk4 HBK.out hb0 hlt
          subst e
          have fb : decide (b = 0) = false := by simp [hb0]
          go_wp2_with fail
          go_ret
          exact ⟨rfl, HB.out⟩
      · have e16 : k = 16 := by omega
        have e : r = decide (v = 4) := by rw [HV.out]; exact valid_of hl hv (fun j h1 h2 => HZ.out j h1 (by omega))
        have b1 : decide ((k : Int) < 16) = false := by simp; omega
        subst e
        clear e16 hk hlt hk4
        go_wp2_with fail
        go_ret
        exact ⟨rfl, HB.out⟩
/-! A bit of an address. -/
def bitP (l : List Int) (k : Nat) : Int := (l.getD (k / 8) 0) / 2 ^ (7 - k % 8) % 2
def bitOk : Bool := (List.range 8).all fun q => (List.range 256).all fun b => decide (bits .and .u8 ((b : Int) / 2 ^ (7 - q)) 1 = (b : Int) / 2 ^ (7 - q) % 2)
theorem bitOk_true : bitOk = true := by decide +kernel
theorem bit_eq (q : Nat) (b : Int) (hq : q < 8) (hb : 0 ≤ b ∧ b ≤ 255) : bits .and .u8 (b / 2 ^ (7 - q)) 1 = b / 2 ^ (7 - q) % 2 := by
  obtain ⟨b, rfl⟩ := Int.eq_ofNat_of_zero_le hb.1
  have h := bitOk_true
  unfold bitOk at h
  simp only [List.all_eq_true, List.mem_range, decide_eq_true_eq] at h
  exact h q hq b (by omega)
theorem rbit_c (v : Int) (l : List Int) (hl : l.length = 16) (hb : ∀ y ∈ l, 0 ≤ y ∧ y ≤ 255) (k : Nat) (hk : k < 128) (w : World) :
    Calls Try.prog 42 #[.agg (csA v l), .int .i64 (k : Int)] w fun e w' => e = .returned (.int .u8 (bitP l k)) ∧ Below w.heap.size w w' := by
  obtain ⟨cs, hcs⟩ : ∃ c, c = csA v l := ⟨_, rfl⟩
  have r1 : rowAt (w.alloc (.cells cs 31)) w.heap.size = some (csA v l) := by rw [← hcs]; exact rowAt_new w cs 31 (by rw [hcs]; exact csA_size hl)
  obtain ⟨b, hbk⟩ : ∃ b, l[k / 8]? = some b := ⟨_, List.getElem?_eq_getElem (by omega)⟩
  have cx := rowAt_bytes r1 (k / 8) b hbk
  have hbb := hb b (List.mem_of_getElem? hbk)
  have HB : Hid (Below w.heap.size w (w.alloc (.cells cs 31))) := Lib.hid ((Below.refl _ _).alloc (Nat.le_refl _) _)
  have HE : Hid (bitP l k = bits .and .u8 (b / 2 ^ (7 - k % 8)) 1) := Lib.hid (by rw [bit_eq (k % 8) b (by omega) hbb, bitP, List.getD, hbk]; rfl)
  obtain ⟨q, hq⟩ : ∃ q, q = k / 8 := ⟨_, rfl⟩
  obtain ⟨p, hp⟩ : ∃ p, p = k % 8 := ⟨_, rfl⟩
  have d1 : (k : Int).tdiv 8 = (q : Int) := by rw [Int.tdiv_eq_ediv_of_nonneg (by omega)]; omega
  have d2 : (k : Int).tmod 8 = (p : Int) := by rw [Int.tmod_eq_emod_of_nonneg (by omega)]; omega
  have d3 : (q : Int) < 16 := by omega
  have d4 : (p : Int) < 8 := by omega
  have d5 : 0 ≤ (q : Int) := by omega
  have d6 : 0 ≤ (p : Int) := by omega
  have d7 : (q : Int).toNat = q := by omega
  rw [← hq] at cx
  rw [← hp] at HE
  rw [← hcs]
  clear hcs r1 hbk hq hp
  go_enter Try.func42, Try.ntmps42
  go_wp2_with fail
  go_ret
  exact ⟨by rw [HE.out]; rfl, HB.out⟩
end Go.Proofs.Ytoifolmcdkfniaa
