/-
  A mask, bit by bit.
-/
import Derived.Test.YtoifolmcdkfniabGreatDoorRows4
namespace Go.Proofs.YtoifolmcdkfniabGreatDoor
open Go.ChangeShapes Go.WideShapes Go.ChangeAt Go.RowKit
set_option linter.unusedVariables false
set_option maxHeartbeats 4000000
set_option maxRecDepth 100000

theorem rbits_c (v : Int) (l : List Int) (hl : l.length = 16) (w : World) :
    Calls Tryz.prog 55 #[.agg (csA v l)] w fun e w' => e = .returned (.int .i64 (if v = 4 then 32 else 128)) ∧ Below w.heap.size w w' := by
  obtain ⟨cs, hcs⟩ : ∃ c, c = csA v l := ⟨_, rfl⟩
  have r1 : rowAt (w.alloc (.cells cs 37)) w.heap.size = some cs := rowAt_new w cs 37 (by rw [hcs]; exact csA_size hl)
  have c0 := rowAt_cell r1 0 (.int .i64 v) (by rw [hcs]; exact csA_zero v l)
  have HB : Hid (Below w.heap.size w (w.alloc (.cells cs 37))) := Lib.hid ((Below.refl _ _).alloc (Nat.le_refl _) _)
  rw [← hcs]
  clear hcs
  by_cases hv : v = 4
  · have fv : decide (v = 4) = true := by simp [hv]
    rw [if_pos hv]
    go_enter Tryz.func55, Tryz.ntmps55
    go_wp2_with fail
    go_ret
    exact ⟨rfl, HB.out⟩
  · have fv : decide (v = 4) = false := by simp [hv]
    rw [if_neg hv]
    go_enter Tryz.func55, Tryz.ntmps55
    go_wp2_with fail
    go_ret
    exact ⟨rfl, HB.out⟩
theorem valid_of {v : Int} {l : List Int} (hl : l.length = 16) (h6 : v ≠ 6) (h : ∀ j, 4 ≤ j → j < 16 → l[j]? = some 0) : validP v l = decide (v = 4) := by
  unfold validP
  have e : l.drop 4 = z12 := by
    apply List.ext_getElem?
    intro i
    rw [List.getElem?_drop]
    by_cases hi : i < 12
    · rw [h (4 + i) (by omega) (by omega)]
      have : ∀ i, i < 12 → z12[i]? = some 0 := by decide
      rw [this i hi]
    · rw [List.getElem?_eq_none (by omega), List.getElem?_eq_none (by simp [z12]; omega)]
  rw [e, eqL_self]
  by_cases h4 : v = 4 <;> simp [h4, h6]
theorem valid_not {v : Int} {l : List Int} (h6 : v ≠ 6) (k : Nat) (b : Int) (hk : 4 ≤ k) (hb : l[k]? = some b) (h0 : b ≠ 0) (h16 : k < 16) : validP v l = false := by
  unfold validP
  by_cases h4 : v = 4
  · rw [if_pos h4]
    apply eqL_of_ne
    intro e
    have h1 := congrArg (fun x => x[k - 4]?) e
    simp only [List.getElem?_drop] at h1
    rw [show 4 + (k - 4) = k by omega, hb] at h1
    have : ∀ i, i < 12 → z12[i]? = some 0 := by decide
    rw [this (k - 4) (by omega)] at h1
    simp at h1
    exact h0 h1
  · rw [if_neg h4]; simp [h6]
theorem rvalid_c (v : Int) (l : List Int) (hl : l.length = 16) (w : World) :
    Calls Tryz.prog 39 #[.agg (csA v l)] w fun e w' => e = .returned (.bool (validP v l)) ∧ Below w.heap.size w w' := by
  obtain ⟨cs, hcs⟩ : ∃ c, c = csA v l := ⟨_, rfl⟩
  have r1 : rowAt (w.alloc (.cells cs 37)) w.heap.size = some cs := rowAt_new w cs 37 (by rw [hcs]; exact csA_size hl)
  have c0 := rowAt_cell r1 0 (.int .i64 v) (by rw [hcs]; exact csA_zero v l)
  have HB : Hid (Below w.heap.size w (w.alloc (.cells cs 37))) := Lib.hid ((Below.refl _ _).alloc (Nat.le_refl _) _)
  have HR : Hid (rowAt (w.alloc (.cells cs 37)) w.heap.size = some (csA v l)) := Lib.hid (by rw [← hcs]; exact r1)
  obtain ⟨r, hr⟩ : ∃ r, r = validP v l := ⟨_, rfl⟩
  have HV := Lib.hid hr
  rw [← hcs, ← hr]
  clear hcs hr r1
  by_cases hv : v = 6
  · have fv : decide (v = 6) = true := by simp [hv]
    have e : r = true := by rw [HV.out, validP, if_neg (by omega)]; simp [hv]
    subst e
    go_enter Tryz.func39, Tryz.ntmps39
    go_wp2_with fail
    go_ret
    exact ⟨rfl, HB.out⟩
  · have fv : decide (v = 6) = false := by simp [hv]
    go_enter Tryz.func39, Tryz.ntmps39
    go_wp2_with fail
    generalize w.alloc (.cells cs 37) = W at *
    go_loopw [3] (fun i wr => ∃ k : Nat, 4 ≤ k ∧ k ≤ 16 ∧ i = .int .i64 (k : Int) ∧ (∀ j, 4 ≤ j → j < k → l[j]? = some 0) ∧ wr = W) (fun i _ => 16 - (intOf i).toNat)
    case atStart => exact ⟨4, by omega, by omega, rfl, fun j h1 h2 => by omega, rfl⟩
    case round =>
      obtain ⟨k, hk4, hk, rfl, hz, hW⟩ := hrel
      subst hW
      have HZ := Lib.hid hz
      clear hz
      by_cases hlt : k < 16
      · obtain ⟨b, hbk⟩ : ∃ b, l[k]? = some b := ⟨_, List.getElem?_eq_getElem (by omega)⟩
        have cx := rowAt_bytes HR.out k b hbk
        have b1 : decide ((k : Int) < 16) = true := by simp; omega
        have b2 : 0 ≤ (k : Int) := by omega
        have b3 : (k : Int) < 16 := by omega
        have b4 : ((k : Int)).toNat = k := by omega
        have HBK := Lib.hid hbk
        clear hbk
        by_cases hb0 : b = 0
        · subst hb0
          go_wp2_with fail
          go_roundw
          all_goals first | exact ⟨k + 1, by omega, by omega, by go_num, fun j h1 h2 => (by rcases Nat.lt_or_ge j k with h | h; exact HZ.out j h1 h; rw [show j = k by omega]; exact HBK.out), trivial⟩ | (simp [intOf]; omega)
        · have e : r = false := by rw [HV.out]; exact valid_not hv k b hk4 HBK.out hb0 hlt
          subst e
          have fb : decide (b = 0) = false := by simp [hb0]
          go_wp2_with fail
          go_ret
          exact ⟨rfl, HB.out⟩
      · have e16 : k = 16 := by omega
        have e : r = decide (v = 4) := by rw [HV.out]; exact valid_of hl hv (fun j h1 h2 => HZ.out j h1 (by omega))
        have b1 : decide ((k : Int) < 16) = false := by simp; omega
        subst e
        clear e16 hk hlt hk4
        go_wp2_with fail
        go_ret
        exact ⟨rfl, HB.out⟩
/-! A bit of an address. -/
def bitP (l : List Int) (k : Nat) : Int := (l.getD (k / 8) 0) / 2 ^ (7 - k % 8) % 2
def bitOk : Bool := (List.range 8).all fun q => (List.range 256).all fun b => decide (bits .and .u8 ((b : Int) / 2 ^ (7 - q)) 1 = (b : Int) / 2 ^ (7 - q) % 2)
theorem bitOk_true : bitOk = true := by decide +kernel
theorem bit_eq (q : Nat) (b : Int) (hq : q < 8) (hb : 0 ≤ b ∧ b ≤ 255) : bits .and .u8 (b / 2 ^ (7 - q)) 1 = b / 2 ^ (7 - q) % 2 := by
  obtain ⟨b, rfl⟩ := Int.eq_ofNat_of_zero_le hb.1
  have h := bitOk_true
  unfold bitOk at h
  simp only [List.all_eq_true, List.mem_range, decide_eq_true_eq] at h
  exact h q hq b (by omega)
theorem rbit_c (v : Int) (l : List Int) (hl : l.length = 16) (hb : ∀ y ∈ l, 0 ≤ y ∧ y ≤ 255) (k : Nat) (hk : k < 128) (w : World) :
    Calls Tryz.prog 79 #[.agg (csA v l), .int .i64 (k : Int)] w fun e w' => e = .returned (.int .u8 (bitP l k)) ∧ Below w.heap.size w w' := by
  obtain ⟨cs, hcs⟩ : ∃ c, c = csA v l := ⟨_, rfl⟩
  have r1 : rowAt (w.alloc (.cells cs 37)) w.heap.size = some (csA v l) := by rw [← hcs]; exact rowAt_new w cs 37 (by rw [hcs]; exact csA_size hl)
  obtain ⟨b, hbk⟩ : ∃ b, l[k / 8]? = some b := ⟨_, List.getElem?_eq_getElem (by omega)⟩
  have cx := rowAt_bytes r1 (k / 8) b hbk
  have hbb := hb b (List.mem_of_getElem? hbk)
  have HB : Hid (Below w.heap.size w (w.alloc (.cells cs 37))) := Lib.hid ((Below.refl _ _).alloc (Nat.le_refl _) _)
  have HE : Hid (bitP l k = bits .and .u8 (b / 2 ^ (7 - k % 8)) 1) := Lib.hid (by rw [bit_eq (k % 8) b (by omega) hbb, bitP, List.getD, hbk]; rfl)
  obtain ⟨q, hq⟩ : ∃ q, q = k / 8 := ⟨_, rfl⟩
  obtain ⟨p, hp⟩ : ∃ p, p = k % 8 := ⟨_, rfl⟩
  have d1 : (k : Int).tdiv 8 = (q : Int) := by rw [Int.tdiv_eq_ediv_of_nonneg (by omega)]; omega
  have d2 : (k : Int).tmod 8 = (p : Int) := by rw [Int.tmod_eq_emod_of_nonneg (by omega)]; omega
  have d3 : (q : Int) < 16 := by omega
  have d4 : (p : Int) < 8 := by omega
  have d5 : 0 ≤ (q : Int) := by omega
  have d6 : 0 ≤ (p : Int) := by omega
  have d7 : (q : Int).toNat = q := by omega
  rw [← hq] at cx
  rw [← hp] at HE
  rw [← hcs]
  clear hcs r1 hbk hq hp
  go_enter Tryz.func79, Tryz.ntmps79
  go_wp2_with fail
  go_ret
  exact ⟨by rw [HE.out]; rfl, HB.out⟩
end Go.Proofs.YtoifolmcdkfniabGreatDoor

namespace Go.Proofs.YtoifolmcdkfniabGreatDoor
open Go.ChangeShapes Go.WideShapes Go.ChangeAt Go.RowKit
set_option linter.unusedVariables false
set_option maxHeartbeats 4000000
set_option maxRecDepth 100000

theorem cmp_at : ∀ (l m : List Int) (k : Nat) (a b : Int), (∀ y ∈ l, 0 ≤ y ∧ y ≤ 255) → (∀ y ∈ m, 0 ≤ y ∧ y ≤ 255) → (∀ j, j < k → l[j]? = m[j]?) → l[k]? = some a → m[k]? = some b → a ≠ b → (cmpL l m < 0 ↔ a < b)
  | [], _, _, _, _, _, _, _, h, _, _ => by simp at h
  | _ :: _, [], _, _, _, _, _, _, _, h, _ => by simp at h
  | x :: l, y :: m, 0, a, b, hl, hm, _, ha, hb, hne => by
    simp at ha hb
    subst ha hb
    have h1 := hl x (by simp); have h2 := hm y (by simp)
    unfold cmpL
    simp only [Lib.bytesOf, List.map_cons, Lib.compareBytes, UInt8.lt_iff_toNat_lt, UInt8.toNat_ofNat']
    by_cases h : x < y
    · rw [if_pos (by omega)]; simp [h]
    · rw [if_neg (by omega), if_pos (by omega)]; simp [h]
  | x :: l, y :: m, k + 1, a, b, hl, hm, he, ha, hb, hne => by
    have e : x = y := by have := he 0 (by omega); simpa using this
    subst e
    have ih := cmp_at l m k a b (fun y hy => hl y (by simp [hy])) (fun y hy => hm y (by simp [hy])) (fun j hj => by have := he (j + 1) (by omega); simpa using this) (by simpa using ha) (by simpa using hb) hne
    unfold cmpL at ih ⊢
    simp only [Lib.bytesOf, List.map_cons, Lib.compareBytes, UInt8.lt_irrefl, if_false] at ih ⊢
    exact ih
theorem cmp_same (l : List Int) : cmpL l l = 0 := by
  unfold cmpL
  induction Lib.bytesOf l with
  | nil => rfl
  | cons a l ih => simp [Lib.compareBytes, ih]
theorem rless_c (v v' : Int) (l l' : List Int) (hl : l.length = 16) (hl' : l'.length = 16) (hb : ∀ y ∈ l, 0 ≤ y ∧ y ≤ 255) (hb' : ∀ y ∈ l', 0 ≤ y ∧ y ≤ 255) (w : World) :
    Calls Tryz.prog 57 #[.agg (csA v l), .agg (csA v' l')] w fun e w' => e = .returned (.bool (lessP v l v' l')) ∧ Below w.heap.size w w' := by
  obtain ⟨cs, hcs⟩ : ∃ c, c = csA v l := ⟨_, rfl⟩
  obtain ⟨ct, hct⟩ : ∃ c, c = csA v' l' := ⟨_, rfl⟩
  have r1 : rowAt ((w.alloc (.cells cs 37)).alloc (.cells ct 37)) w.heap.size = some cs := rowAt_old (rowAt_new w _ 37 (by rw [hcs]; exact csA_size hl)) _
  have r2 : rowAt ((w.alloc (.cells cs 37)).alloc (.cells ct 37)) (w.heap.size + 1) = some ct := by
    have := rowAt_new (w.alloc (.cells cs 37)) ct 37 (by rw [hct]; exact csA_size hl')
    simpa using this
  have c1 := rowAt_cell r1 0 (.int .i64 v) (by rw [hcs]; exact csA_zero v l)
  have c2 := rowAt_cell r2 0 (.int .i64 v') (by rw [hct]; exact csA_zero v' l')
  have HB : Hid (Below w.heap.size w ((w.alloc (.cells cs 37)).alloc (.cells ct 37))) := Lib.hid (((Below.refl _ _).alloc (Nat.le_refl _) _).alloc (by simp) _)
  have HR : Hid (rowAt ((w.alloc (.cells cs 37)).alloc (.cells ct 37)) w.heap.size = some (csA v l) ∧ rowAt ((w.alloc (.cells cs 37)).alloc (.cells ct 37)) (w.heap.size + 1) = some (csA v' l')) := Lib.hid ⟨by rw [← hcs]; exact r1, by rw [← hct]; exact r2⟩
  obtain ⟨r, hr⟩ : ∃ r, r = lessP v l v' l' := ⟨_, rfl⟩
  have HV := Lib.hid hr
  rw [← hcs, ← hct, ← hr]
  clear hcs hct hr r1 r2
  by_cases hv : v = v'
  · subst hv
    have e : Hid (r = decide (cmpL l l' < 0)) := Lib.hid (by rw [HV.out, lessP, if_pos rfl])
    go_enter Tryz.func57, Tryz.ntmps57
    go_wp2_with fail
    generalize (w.alloc (.cells cs 37)).alloc (.cells ct 37) = W at *
    go_loopw [5] (fun i wr => ∃ (k n : Nat), k ≤ 16 ∧ i = .int .i64 (k : Int) ∧ (∀ j, j < k → l[j]? = l'[j]?) ∧ wr = W.drewN n) (fun i _ => 16 - (intOf i).toNat)
    case atStart => exact ⟨0, 0, by omega, rfl, fun j h => by omega, rfl⟩
    case round =>
      obtain ⟨k, n, hk, rfl, hz, hW⟩ := hrel
      subst hW
      have HZ := Lib.hid hz
      clear hz
      by_cases hlt : k < 16
      · obtain ⟨a, hak⟩ : ∃ b, l[k]? = some b := ⟨_, List.getElem?_eq_getElem (by omega)⟩
        obtain ⟨b, hbk⟩ : ∃ b, l'[k]? = some b := ⟨_, List.getElem?_eq_getElem (by omega)⟩
        have cx := rowAt_bytes HR.out.1 k a hak
        have cy := rowAt_bytes HR.out.2 k b hbk
        have b1 : decide ((k : Int) < 16) = true := by simp; omega
        have b2 : 0 ≤ (k : Int) := by omega
        have b3 : (k : Int) < 16 := by omega
        have b4 : ((k : Int)).toNat = k := by omega
        have HAK := Lib.hid hak; have HBK := Lib.hid hbk
        clear hak hbk
        by_cases hab : a = b
        · subst hab
          go_wp2_with fail
          go_region
          all_goals (go_wp2_with fail; go_roundw)
          all_goals first | exact ⟨k + 1, n + 1, by omega, by go_num, fun j h2 => (by rcases Nat.lt_or_ge j k with h | h; exact HZ.out j h; rw [show j = k by omega, HAK.out, HBK.out]), rfl⟩ | exact ⟨k + 1, n + 1, by omega, by go_num, fun j h2 => (by rcases Nat.lt_or_ge j k with h | h; exact HZ.out j h; rw [show j = k by omega, HAK.out, HBK.out]), trivial⟩ | (simp [intOf]; omega)
        · have fb : decide (a = b) = false := by simp [hab]
          have e2 : r = decide (a < b) := by rw [e.out]; exact decide_eq_decide.2 (cmp_at l l' k a b hb hb' HZ.out HAK.out HBK.out hab)
          subst e2
          go_wp2_with fail
          go_region
          all_goals (go_wp2_with fail; go_region)
          all_goals (go_wp2_with fail; go_ret)
          all_goals exact ⟨rfl, below_drewN HB.out _⟩
      · have e16 : k = 16 := by omega
        have e2 : r = false := by
          have : l = l' := List.ext_getElem? (fun i => by
            rcases Nat.lt_or_ge i 16 with h | h
            · exact HZ.out i (by omega)
            · rw [List.getElem?_eq_none (by omega), List.getElem?_eq_none (by omega)])
          rw [e.out, this, cmp_same]; rfl
        have b1 : decide ((k : Int) < 16) = false := by simp; omega
        subst e2
        clear e16 hk hlt
        go_wp2_with fail
        go_ret
        exact ⟨rfl, below_drewN HB.out _⟩
  · have fv : decide (v = v') = false := by simp [hv]
    have e : r = decide (v < v') := by rw [HV.out, lessP, if_neg hv]
    subst e
    go_enter Tryz.func57, Tryz.ntmps57
    go_wp2_with fail
    go_ret
    exact ⟨rfl, HB.out⟩
end Go.Proofs.YtoifolmcdkfniabGreatDoor

namespace Go.Proofs.YtoifolmcdkfniabGreatDoor
open Go.ChangeShapes Go.WideShapes Go.ChangeAt Go.RowKit
set_option linter.unusedVariables false
set_option maxHeartbeats 4000000
set_option maxRecDepth 100000

theorem div_step (a q : Nat) (hq : q < 8) : a / 2 ^ (8 - q) = a / 2 ^ (7 - q) / 2 := by
  rw [show 8 - q = (7 - q) + 1 by omega, Nat.pow_succ, Nat.div_div_eq_div_mul]
theorem byte_div (a b : Nat) (ha : a ≤ 255) (hb : b ≤ 255) : ∀ q, q ≤ 8 → (a / 2 ^ (8 - q) = b / 2 ^ (8 - q) ↔ ∀ j, j < q → a / 2 ^ (7 - j) % 2 = b / 2 ^ (7 - j) % 2)
  | 0, _ => by
    have h1 : a / 2 ^ (8 - 0) = 0 := Nat.div_eq_of_lt (by omega)
    have h2 : b / 2 ^ (8 - 0) = 0 := Nat.div_eq_of_lt (by omega)
    rw [h1, h2]; simp
  | q + 1, hq => by
    have ih := byte_div a b ha hb q (by omega)
    rw [div_step a q (by omega), div_step b q (by omega)] at ih
    rw [show 8 - (q + 1) = 7 - q by omega]
    constructor
    · intro h j hj
      rcases Nat.lt_or_ge j q with h1 | h1
      · exact ih.1 (by rw [h]) j h1
      · rw [show j = q by omega, h]
    · intro h
      have h1 := ih.2 (fun j hj => h j (by omega))
      have h2 := h q (by omega)
      omega
theorem mb_bits (q : Nat) (a b : Int) (hq : q ≤ 8) (ha : 0 ≤ a ∧ a ≤ 255) (hb : 0 ≤ b ∧ b ≤ 255) : mb q a = mb q b ↔ ∀ j, j < q → a / 2 ^ (7 - j) % 2 = b / 2 ^ (7 - j) % 2 := by
  obtain ⟨a, rfl⟩ := Int.eq_ofNat_of_zero_le ha.1
  obtain ⟨b, rfl⟩ := Int.eq_ofNat_of_zero_le hb.1
  rw [mb_eq q a hq (by omega), mb_eq q b hq (by omega)]
  have h := byte_div a b (by omega) (by omega) q hq
  have pos : 0 < 2 ^ (8 - q) := Nat.pow_pos (by omega)
  have a1 := Nat.div_add_mod a (2 ^ (8 - q))
  have b1 := Nat.div_add_mod b (2 ^ (8 - q))
  have e : (((a - a % 2 ^ (8 - q) : Nat) : Int) = ((b - b % 2 ^ (8 - q) : Nat) : Int)) ↔ a / 2 ^ (8 - q) = b / 2 ^ (8 - q) := by
    have a2 : a - a % 2 ^ (8 - q) = 2 ^ (8 - q) * (a / 2 ^ (8 - q)) := by omega
    have b2 : b - b % 2 ^ (8 - q) = 2 ^ (8 - q) * (b / 2 ^ (8 - q)) := by omega
    rw [a2, b2]
    constructor
    · intro h; exact Nat.eq_of_mul_eq_mul_left pos (by exact_mod_cast h)
    · intro h; rw [h]
  rw [e, h]
  constructor
  · intro h j hj; exact_mod_cast h j hj
  · intro h j hj; exact_mod_cast h j hj
theorem mask_bits {l l' : List Int} (hl : l.length = 16) (hl' : l'.length = 16) (hb : ∀ y ∈ l, 0 ≤ y ∧ y ≤ 255) (hb' : ∀ y ∈ l', 0 ≤ y ∧ y ≤ 255) (n : Nat) (hn : n ≤ 128) :
    maskL n 0 l = maskL n 0 l' ↔ ∀ i, i < n → bitP l i = bitP l' i := by
  have key : ∀ k, k < 16 → ((maskL n 0 l)[k]? = (maskL n 0 l')[k]? ↔ ∀ j, j < 8 → 8 * k + j < n → bitP l (8 * k + j) = bitP l' (8 * k + j)) := by
    intro k hk
    obtain ⟨a, ha⟩ : ∃ b, l[k]? = some b := ⟨_, List.getElem?_eq_getElem (by omega)⟩
    obtain ⟨b, hbk⟩ : ∃ b, l'[k]? = some b := ⟨_, List.getElem?_eq_getElem (by omega)⟩
    obtain ⟨q, hq⟩ : ∃ q : Nat, kept n k = (q : Int) := ⟨(kept n k).toNat, by have := kept_bd n k; omega⟩
    have hq8 : q ≤ 8 := by have := kept_bd n k; omega
    rw [maskL_get, maskL_get, ha, hbk, Nat.zero_add, hq]
    simp only [Option.map_some, Option.some.injEq]
    rw [mb_bits q a b hq8 (hb a (List.mem_of_getElem? ha)) (hb' b (List.mem_of_getElem? hbk))]
    have f : ∀ j, j < 8 → bitP l (8 * k + j) = a / 2 ^ (7 - j) % 2 ∧ bitP l' (8 * k + j) = b / 2 ^ (7 - j) % 2 := by
      intro j hj
      unfold bitP
      rw [show (8 * k + j) / 8 = k by omega, show (8 * k + j) % 8 = j by omega, List.getD, List.getD, ha, hbk]
      exact ⟨rfl, rfl⟩
    have hj : ∀ j, j < q ↔ j < 8 ∧ 8 * k + j < n := by intro j; unfold kept at hq; omega
    constructor
    · intro h j h8 hn; rw [(f j h8).1, (f j h8).2]; exact h j ((hj j).2 ⟨h8, hn⟩)
    · intro h j hjq; have := (hj j).1 hjq; have h1 := h j this.1 this.2; rwa [(f j this.1).1, (f j this.1).2] at h1
  constructor
  · intro h i hi
    have := (key (i / 8) (by omega)).1 (by rw [h]) (i % 8) (by omega) (by omega)
    rwa [show 8 * (i / 8) + i % 8 = i by omega] at this
  · intro h
    apply List.ext_getElem?
    intro k
    by_cases hk : k < 16
    · exact (key k hk).2 (fun j h8 hn => h _ hn)
    · rw [List.getElem?_eq_none (by rw [maskL_length]; omega), List.getElem?_eq_none (by rw [maskL_length]; omega)]
end Go.Proofs.YtoifolmcdkfniabGreatDoor

namespace Go.Proofs.YtoifolmcdkfniabGreatDoor
open Go.ChangeShapes Go.WideShapes Go.ChangeAt Go.RowKit
set_option linter.unusedVariables false
set_option maxHeartbeats 4000000
set_option maxRecDepth 100000

def orOk : Bool := (List.range 8).all fun q => (List.range 256).all fun b => decide (bits .or .u8 (mb (q : Int) (b : Int)) ((b : Int) / 2 ^ (7 - q) % 2 * 2 ^ (7 - q)) = mb ((q + 1 : Nat) : Int) (b : Int))
theorem orOk_true : orOk = true := by decide +kernel
theorem or_step (q : Nat) (b : Int) (hq : q < 8) (hb : 0 ≤ b ∧ b ≤ 255) : bits .or .u8 (mb (q : Int) b) (b / 2 ^ (7 - q) % 2 * 2 ^ (7 - q)) = mb ((q + 1 : Nat) : Int) b := by
  obtain ⟨b, rfl⟩ := Int.eq_ofNat_of_zero_le hb.1
  have h := orOk_true
  unfold orOk at h
  simp only [List.all_eq_true, List.mem_range, decide_eq_true_eq] at h
  exact h q hq b (by omega)
theorem mb0 (b : Int) (hb : 0 ≤ b ∧ b ≤ 255) : mb 0 b = 0 := by
  obtain ⟨b, rfl⟩ := Int.eq_ofNat_of_zero_le hb.1
  have := mb_eq 0 b (by omega) (by omega)
  rw [show ((0 : Nat) : Int) = 0 from rfl] at this
  rw [this]; omega
theorem maskL_none (bs : Int) : ∀ (k : Nat) (l : List Int), (∀ y ∈ l, 0 ≤ y ∧ y ≤ 255) → bs ≤ 8 * (k : Int) → maskL bs k l = List.replicate l.length 0
  | _, [], _, _ => rfl
  | k, a :: l, h, hk => by
    have e : kept bs k = 0 := by unfold kept; omega
    simp only [maskL, List.length_cons, List.replicate_succ]
    rw [e, mb0 a (h a (by simp)), maskL_none bs (k + 1) l (fun y hy => h y (by simp [hy])) (by omega)]
theorem maskL_start {l : List Int} (hl : l.length = 16) (hb : ∀ y ∈ l, 0 ≤ y ∧ y ≤ 255) : maskL 0 0 l = z16 := by
  rw [maskL_none 0 0 l hb (by decide), hl]; rfl
/-- One more bit. -/
theorem maskL_succ {l : List Int} (hl : l.length = 16) (hb : ∀ y ∈ l, 0 ≤ y ∧ y ≤ 255) (i : Nat) (hi : i < 128) (x : Int) (hx : (maskL i 0 l)[i / 8]? = some x) :
    (maskL i 0 l).set (i / 8) (bits .or .u8 x (bitP l i * 2 ^ (7 - i % 8))) = maskL ((i + 1 : Nat) : Int) 0 l := by
  obtain ⟨b, hbk⟩ : ∃ b, l[i / 8]? = some b := ⟨_, List.getElem?_eq_getElem (by omega)⟩
  have hbb := hb b (List.mem_of_getElem? hbk)
  have hbit : bitP l i = b / 2 ^ (7 - i % 8) % 2 := by unfold bitP; rw [List.getD, hbk]; rfl
  have e1 : kept (i : Int) (i / 8) = ((i % 8 : Nat) : Int) := by unfold kept; omega
  have e2 : kept ((i + 1 : Nat) : Int) (i / 8) = ((i % 8 + 1 : Nat) : Int) := by unfold kept; omega
  have hx' : x = mb ((i % 8 : Nat) : Int) b := by
    rw [maskL_get, hbk, Nat.zero_add, e1] at hx
    simpa using hx.symm
  apply List.ext_getElem?
  intro k
  rw [List.getElem?_set, maskL_length, maskL_get, maskL_get, Nat.zero_add]
  by_cases hk : i / 8 = k
  · subst hk
    rw [if_pos rfl, if_pos (by omega), hbk, hx', hbit, or_step (i % 8) b (by omega) hbb, e2]; rfl
  · rw [if_neg hk]
    have e3 : kept (i : Int) k = kept ((i + 1 : Nat) : Int) k := by unfold kept; omega
    rw [e3]
end Go.Proofs.YtoifolmcdkfniabGreatDoor
