/-
  The document: Kind.
-/
import Derived.Test.YtemdgggpfadecaaF3
namespace Go.Proofs.Ytemdgggpfadecaa
open Go.ChangeShapes Go.WideShapes Go.ChangeAt Go.RowKit
set_option linter.unusedVariables false
set_option linter.unusedSimpArgs false
set_option maxRecDepth 100000

theorem BoxA.byte {w : World} {g : Nat} {v : Int} {l : List Int} (h : BoxA w g v l) {i : Nat} {b : Int} (hb : l[i]? = some b) : w.cell? ⟨g, 1 + i, none⟩ = some (.int .u8 b) := by
  have := h.range (1 + i) (.int .u8 b) (by rw [Nat.add_comm]; simp [cellsA, hb])
  simpa using this
/-- The sum of the first k. -/
def sumK (l : List Int) (k : Nat) : Int := (l.take k).foldl (· + ·) 0
theorem sumK_succ {l : List Int} {k : Nat} {b : Int} (hb : l[k]? = some b) : sumK l (k + 1) = sumK l k + b := by
  unfold sumK; rw [List.take_add_one, hb]; simp
theorem sumK_bd {l : List Int} (h : ∀ b ∈ l, 0 ≤ b ∧ b ≤ 255) : ∀ k, 0 ≤ sumK l k ∧ sumK l k ≤ 255 * k
  | 0 => by simp [sumK]
  | k + 1 => by
    have ih := sumK_bd h k
    rcases Nat.lt_or_ge k l.length with hk | hk
    · have hb : l[k]? = some l[k] := by simp
      have h1 := h l[k] (by simp)
      rw [sumK_succ hb]; omega
    · have : sumK l (k + 1) = sumK l k := by unfold sumK; rw [List.take_of_length_le (by omega), List.take_of_length_le (by omega)]
      rw [this]; omega
theorem kind_six {l : List Int} : kindP 6 l = if eqL l z16 = true then 1 else k6 l := by
  unfold kindP validP
  simp
theorem kind_other {v : Int} {l : List Int} (h4 : v ≠ 4) (h6 : v ≠ 6) : kindP v l = 0 := by
  unfold kindP validP
  simp [h4, h6]
theorem kind_bad {l : List Int} {k : Nat} {b : Int} (h : l[k]? = some b) (hk : 4 ≤ k) (hk2 : k < 16) (hb : b ≠ 0) : kindP 4 l = 0 := by
  have hv : validP 4 l = false := by
    unfold validP
    rw [if_pos rfl]
    refine eqL_of_ne (fun he => hb ?_)
    have h1 : (l.drop 4)[k - 4]? = some b := by rw [List.getElem?_drop, show 4 + (k - 4) = k from by omega]; exact h
    rw [he] at h1
    have h2 : ∀ i, i < 12 → z12[i]? = some 0 := by decide
    rw [h2 (k - 4) (by omega)] at h1
    simpa using h1.symm
  unfold kindP; rw [hv]; simp
theorem six_plain {l : List Int} (hl : l.length = 16) {k : Nat} {b : Int} (h : l[k]? = some b) (hk : k < 15) (hb : b ≠ 0) (h0 : l[0]? ≠ some 255) : kindP 6 l = 5 := by
  have hz : eqL l z16 = false := eqL_of_ne (fun he => hb (by
    have : ∀ i, i < 16 → z16[i]? = some 0 := by decide
    rw [he, this k (by omega)] at h; simpa using h.symm))
  have ho : eqL l one16 = false := eqL_of_ne (fun he => hb (by
    have : ∀ i, i < 15 → one16[i]? = some 0 := by decide
    rw [he, this k hk] at h; simpa using h.symm))
  rw [kind_six, hz]
  unfold k6
  rw [ho]
  simp [List.head?_eq_getElem?, h0]
theorem six_multi {l : List Int} (h0 : l[0]? = some 255) : kindP 6 l = 3 := by
  have hz : eqL l z16 = false := eqL_of_ne (fun he => by rw [he] at h0; revert h0; decide)
  have ho : eqL l one16 = false := eqL_of_ne (fun he => by rw [he] at h0; revert h0; decide)
  rw [kind_six, hz]
  unfold k6
  rw [ho]
  simp [List.head?_eq_getElem?, h0]
theorem six_end {l : List Int} (hl : l.length = 16) (hz : ∀ i, i < 15 → l[i]? = some 0) {b : Int} (hb : l[15]? = some b) (b0 : 0 ≤ b) : kindP 6 l = if 1 < b then 5 else 1 + b := by
  have e : l = [0, 0, 0, 0, 0, 0, 0, 0, 0, 0, 0, 0, 0, 0, 0, b] := by
    apply List.ext_getElem?
    intro i
    rcases Nat.lt_or_ge i 15 with h1 | h1
    · rw [hz i h1]
      have : ∀ i, i < 15 → ([0, 0, 0, 0, 0, 0, 0, 0, 0, 0, 0, 0, 0, 0, 0, b] : List Int)[i]? = some 0 := by
        intro i hi
        rcases i with _ | _ | _ | _ | _ | _ | _ | _ | _ | _ | _ | _ | _ | _ | _ | i <;> first | rfl | omega
      rw [this i h1]
    · rcases Nat.lt_or_ge i 16 with h2 | h2
      · rw [show i = 15 by omega, hb]; rfl
      · rw [List.getElem?_eq_none (by omega), List.getElem?_eq_none (by simpa using h2)]
  by_cases h0 : b = 0
  · subst h0; rw [e]; decide
  · by_cases h1 : b = 1
    · subst h1; rw [e]; decide
    · rw [if_pos (by omega)]
      have hz' : eqL l z16 = false := eqL_of_ne (fun he => h0 (by rw [he] at hb; simpa [z16] using hb.symm))
      have ho : eqL l one16 = false := eqL_of_ne (fun he => h1 (by rw [he] at hb; simpa [one16] using hb.symm))
      have h3 : l[0]? ≠ some 255 := by rw [hz 0 (by omega)]; simp
      rw [kind_six, hz']
      unfold k6
      rw [ho]
      simp [List.head?_eq_getElem?, h3]
theorem four_end {l : List Int} (hl : Byt l) (hz : ∀ (i : Nat) (b : Int), 4 ≤ i → l[i]? = some b → b = 0) {b : Int} (hb : l[0]? = some b) : kindP 4 l = if sumK l 16 = 0 then 1 else if sumK l 16 = 1020 then 4 else if b = 127 then 2 else if 224 ≤ b ∧ b ≤ 239 then 3 else 5 := by
  obtain ⟨b0, b1, b2, b3, b4, b5, b6, b7, b8, b9, b10, b11, b12, b13, b14, b15, rfl⟩ := list16 hl.1
  have q4 := hz 4 b4 (by omega) rfl
  have q5 := hz 5 b5 (by omega) rfl
  have q6 := hz 6 b6 (by omega) rfl
  have q7 := hz 7 b7 (by omega) rfl
  have q8 := hz 8 b8 (by omega) rfl
  have q9 := hz 9 b9 (by omega) rfl
  have q10 := hz 10 b10 (by omega) rfl
  have q11 := hz 11 b11 (by omega) rfl
  have q12 := hz 12 b12 (by omega) rfl
  have q13 := hz 13 b13 (by omega) rfl
  have q14 := hz 14 b14 (by omega) rfl
  have q15 := hz 15 b15 (by omega) rfl
  subst q4 q5 q6 q7 q8 q9 q10 q11 q12 q13 q14 q15
  have r0 := hl.2 b0 (by simp)
  have r1 := hl.2 b1 (by simp)
  have r2 := hl.2 b2 (by simp)
  have r3 := hl.2 b3 (by simp)
  have hs : sumK [b0, b1, b2, b3, 0, 0, 0, 0, 0, 0, 0, 0, 0, 0, 0, 0] 16 = b0 + b1 + b2 + b3 := by
    simp [sumK]
  have hbb : b = b0 := by simpa using hb.symm
  subst hbb
  have hv : validP 4 [b, b1, b2, b3, 0, 0, 0, 0, 0, 0, 0, 0, 0, 0, 0, 0] = true := by unfold validP; rw [if_pos rfl]; simp [eqL, z12]
  unfold kindP
  rw [hv, hs]
  simp only [Bool.true_eq_false, if_false, if_true, List.getD_cons_zero, List.getD_cons_succ]
  by_cases h0 : b + b1 + b2 + b3 = 0
  · rw [if_pos h0, if_pos]
    have : b = 0 ∧ b1 = 0 ∧ b2 = 0 ∧ b3 = 0 := by omega
    obtain ⟨rfl, rfl, rfl, rfl⟩ := this
    simp [eqL, z16]
  · rw [if_neg h0, if_neg]
    · unfold k4
      by_cases h1 : b + b1 + b2 + b3 = 1020
      · have : b = 255 ∧ b1 = 255 ∧ b2 = 255 ∧ b3 = 255 := by omega
        obtain ⟨rfl, rfl, rfl, rfl⟩ := this
        simp [eqL]
      · rw [if_neg h1]
        have : eqL [b, b1, b2, b3] [255, 255, 255, 255] = false := eqL_of_ne (fun he => by simp at he; omega)
        rw [this]
        simp
    · simp only [eqL, z16, decide_eq_true_eq, List.cons.injEq]
      omega
set_option maxHeartbeats 16000000 in
theorem rkind_c (v : Int) (l : List Int) (hl : Byt l) (w : World) : Calls Try.prog 37 #[.agg (csA v l)] w fun E w' => E = .returned (.int .i64 (kindP v l)) ∧ Away [] w w' := by
  have HL := Lib.hid hl
  obtain ⟨ans, hans⟩ : ∃ z, z = kindP v l := ⟨_, rfl⟩
  rw [← hans]
  have HE := Lib.hid hans
  obtain ⟨f0, hf0, hf0m⟩ : ∃ y, l[0]? = some y ∧ y ∈ l := ⟨l[0]'(by rw [hl.1]; omega), by simp, by simp⟩
  obtain ⟨f15, hf15, hf15m⟩ : ∃ y, l[15]? = some y ∧ y ∈ l := ⟨l[15]'(by rw [hl.1]; omega), by simp, by simp⟩
  obtain ⟨r0a, r0b⟩ := hl.2 f0 hf0m
  obtain ⟨r15a, r15b⟩ := hl.2 f15 hf15m
  have HF0 := Lib.hid hf0
  have HF15 := Lib.hid hf15
  clear hl hans hf0 hf0m hf15 hf15m
  go_enter Try.func37, Try.ntmps37
  go_wp2_with (refine wpList_box32 rfl _ rfl v l rfl ?_; refine Hid.out ?_)
  refine Lib.hid ?_
  intro g1 w1 hg1 hb haw
  have HA := Lib.hid haw
  have HB := Lib.hid hb
  have c0 := hb.v
  have c1 := hb.byte HF0.out
  have c16 := hb.byte HF15.out
  simp only [Nat.add_zero] at c1
  clear hg1 hb haw
  by_cases h6 : v = 6
  · subst h6
    by_cases hff : f0 = 255
    · subst hff
      have HR : Hid (ans = 3) := by show _ = _; rw [HE.out]; exact six_multi HF0.out
      go_wp2_with fail
      go_ret
      exact ⟨ret_int HR.out.symm, HA.out⟩
    have e255 : (f0 == 255) = false := by simpa using hff
    have HNF : Hid (l[0]? ≠ some 255) := by show _ ≠ _; rw [HF0.out]; simpa using hff
    clear hff
    go_wp2_with fail
    clear e255
    go_loopw [3] (fun i wr => ∃ k : Nat, i = .int .i64 (k : Int) ∧ k ≤ 15 ∧ wr = w1 ∧ ∀ i, i < k → l[i]? = some 0) (fun i _ => 15 - (intOf i).toNat)
    case atStart => exact ⟨0, rfl, Nat.zero_le _, rfl, fun i hi => by omega⟩
    case round =>
      obtain ⟨k, rfl, hk, rfl, hz⟩ := hrel
      have HZ := Lib.hid hz
      clear hz
      by_cases hkn : k < 15
      · have j1 : decide ((k : Int) < 15) = true := by simp; omega
        have j0 : (k : Int) < 16 := by omega
        have j2 : 0 ≤ (k : Int) := by omega
        have j3 : ((k : Int)).toNat = k := by omega
        obtain ⟨y, hy, hym⟩ : ∃ y, l[k]? = some y ∧ y ∈ l := ⟨l[k]'(by rw [HL.out.1]; omega), by simp, by simp⟩
        have HY := Lib.hid hy
        have cy := HB.out.byte hy
        clear hy hym
        by_cases hy0 : y = 0
        · subst hy0
          go_wp2_with fail
          go_roundw
          case rel => exact ⟨k + 1, by go_num, by omega, by first | rfl | trivial, fun i hi => by
            rcases Nat.lt_or_ge i k with h1 | h1
            · exact HZ.out i h1
            · rw [show i = k from by omega]; exact HY.out⟩
          case measure => simp [intOf]; omega
        · have ey : (y != 0) = true := by simpa using hy0
          have HR : Hid (ans = 5) := by show _ = _; rw [HE.out]; exact six_plain HL.out.1 HY.out hkn hy0 HNF.out
          clear hy0 hkn
          go_wp2_with fail
          go_ret
          exact ⟨ret_int HR.out.symm, HA.out⟩
      have j1 : decide ((k : Int) < 15) = false := by simp; omega
      have hk15 : k = 15 := by omega
      have HSE := Lib.hid (six_end HL.out.1 (fun i hi => HZ.out i (by omega)) HF15.out r15a)
      clear hkn hk15 hk
      by_cases h1 : 1 < f15
      · have e1 : decide (1 < f15) = true := by simpa using h1
        have HR : Hid (ans = 5) := by show _ = _; rw [HE.out, HSE.out, if_pos h1]
        clear h1
        go_wp2_with fail
        go_ret
        exact ⟨ret_int HR.out.symm, HA.out⟩
      · have e1 : decide (1 < f15) = false := by simpa using h1
        have HR : Hid (ans = 1 + f15) := by show _ = _; rw [HE.out, HSE.out, if_neg h1]
        clear h1
        go_wp2_with fail
        go_ret
        exact ⟨ret_int HR.out.symm, HA.out⟩
  have e6 : (v == 6) = false := by simpa using h6
  by_cases h4 : v = 4
  rotate_left
  · have e4 : (v != 4) = true := by simpa using h4
    have HR : Hid (ans = 0) := by show _ = _; rw [HE.out]; exact kind_other h4 h6
    clear h4 h6
    go_wp2_with fail
    go_ret
    exact ⟨ret_int HR.out.symm, HA.out⟩
  subst h4
  clear h6 e6
  go_wp2_with fail
  go_loopw [4, 5] (fun s i wr => ∃ k : Nat, i = .int .i64 (k : Int) ∧ k ≤ 16 ∧ s = .int .i64 (sumK l k) ∧ wr = w1 ∧ ∀ (i : Nat) (b : Int), 4 ≤ i → i < k → l[i]? = some b → b = 0) (fun _ i _ => 16 - (intOf i).toNat)
  case atStart => exact ⟨0, rfl, Nat.zero_le _, rfl, rfl, fun i b h1 h2 => by omega⟩
  case round =>
    obtain ⟨k, rfl, hk, rfl, rfl, hz⟩ := hrel
    have HZ := Lib.hid hz
    have hsb := sumK_bd HL.out.2 k
    obtain ⟨hsa, hsb⟩ := hsb
    clear hz
    by_cases hkn : k < 16
    · have j1 : decide ((k : Int) < 16) = true := by simp; omega
      have j0 : (k : Int) < 16 := by omega
      have j2 : 0 ≤ (k : Int) := by omega
      have j3 : ((k : Int)).toNat = k := by omega
      obtain ⟨y, hy, hym⟩ : ∃ y, l[k]? = some y ∧ y ∈ l := ⟨l[k]'(by rw [HL.out.1]; omega), by simp, by simp⟩
      have HY := Lib.hid hy
      have cy := HB.out.byte hy
      have HSS := Lib.hid (sumK_succ hy)
      obtain ⟨ya, yb⟩ := HL.out.2 y hym
      clear hy hym
      obtain ⟨sm, hsm⟩ : ∃ z, z = sumK l k := ⟨_, rfl⟩
      rw [← hsm] at hsa hsb HSS ⊢
      clear hsm
      have HNX : Hid (∀ (i : Nat) (b : Int), (4 ≤ k → y = 0) → 4 ≤ i → i < k + 1 → l[i]? = some b → b = 0) := fun i b h0 h1 h2 h3 => by
        rcases Nat.lt_or_ge i k with h4 | h4
        · exact HZ.out i b h1 h4 h3
        · have e : i = k := by omega
          rw [e, HY.out] at h3
          simp only [Option.some.injEq] at h3
          rw [← h3]; exact h0 (by omega)
      by_cases hk4 : 4 ≤ k
      · have e4 : decide ((4 : Int) ≤ (k : Int)) = true := by simp; omega
        by_cases hy0 : y = 0
        · subst hy0
          go_wp2_with fail
          go_roundw
          case rel => exact ⟨k + 1, by go_num, by omega, by (rw [HSS.out]; try simp), by first | rfl | trivial, fun i b => HNX.out i b (fun _ => rfl)⟩
          case measure => simp [intOf]; omega
        · have ey : (y != 0) = true := by simpa using hy0
          have HR : Hid (ans = 0) := by show _ = _; rw [HE.out]; exact kind_bad HY.out hk4 (by omega) hy0
          clear hy0 hkn
          go_wp2_with fail
          go_ret
          exact ⟨ret_int HR.out.symm, HA.out⟩
      · have e4 : decide ((4 : Int) ≤ (k : Int)) = false := by simp; omega
        go_wp2_with fail
        go_roundw
        case rel => exact ⟨k + 1, by go_num, by omega, by (rw [HSS.out]; try simp), by first | rfl | trivial, fun i b => HNX.out i b (fun h => absurd h hk4)⟩
        case measure => simp [intOf]; omega
    have j1 : decide ((k : Int) < 16) = false := by simp; omega
    have hk16 : 16 = k := by omega
    have HFE := Lib.hid (four_end HL.out (fun i b h1 h2 => HZ.out i b h1 (by have := (List.getElem?_eq_some_iff.1 h2).1; rw [HL.out.1] at this; omega) h2) HF0.out)
    rw [hk16] at HFE
    obtain ⟨sm, hsm⟩ : ∃ z, z = sumK l k := ⟨_, rfl⟩
    rw [← hsm] at hsa hsb HFE ⊢
    clear hsm hkn hk16 hk
    by_cases h0 : sm = 0
    · subst h0
      have HR : Hid (ans = 1) := by show _ = _; rw [HE.out, HFE.out, if_pos rfl]
      go_wp2_with fail
      go_ret
      exact ⟨ret_int HR.out.symm, HA.out⟩
    have e0 : (sm == 0) = false := by simpa using h0
    by_cases h1 : sm = 1020
    · subst h1
      have HR : Hid (ans = 4) := by show _ = _; rw [HE.out, HFE.out, if_neg h0, if_pos rfl]
      clear h0
      go_wp2_with fail
      go_ret
      exact ⟨ret_int HR.out.symm, HA.out⟩
    have e1 : (sm == 1020) = false := by simpa using h1
    by_cases h2 : f0 = 127
    · subst h2
      have HR : Hid (ans = 2) := by show _ = _; rw [HE.out, HFE.out, if_neg h0, if_neg h1, if_pos rfl]
      clear h0 h1
      go_wp2_with fail
      go_ret
      exact ⟨ret_int HR.out.symm, HA.out⟩
    have e2 : (f0 == 127) = false := by simpa using h2
    by_cases h3 : 224 ≤ f0
    · have e3 : decide (224 ≤ f0) = true := by simpa using h3
      by_cases h5 : f0 ≤ 239
      · have e5 : decide (f0 ≤ 239) = true := by simpa using h5
        have HR : Hid (ans = 3) := by show _ = _; rw [HE.out, HFE.out, if_neg h0, if_neg h1, if_neg h2, if_pos ⟨h3, h5⟩]
        clear h0 h1 h2 h3 h5
        go_wp2_with fail
        go_ret
        exact ⟨ret_int HR.out.symm, HA.out⟩
      · have e5 : decide (f0 ≤ 239) = false := by simpa using h5
        have HR : Hid (ans = 5) := by show _ = _; rw [HE.out, HFE.out, if_neg h0, if_neg h1, if_neg h2, if_neg (fun h => h5 h.2)]
        clear h0 h1 h2 h3 h5
        go_wp2_with fail
        go_ret
        exact ⟨ret_int HR.out.symm, HA.out⟩
    · have e3 : decide (224 ≤ f0) = false := by simpa using h3
      have HR : Hid (ans = 5) := by show _ = _; rw [HE.out, HFE.out, if_neg h0, if_neg h1, if_neg h2, if_neg (fun h => h3 h.1)]
      clear h0 h1 h2 h3
      go_wp2_with fail
      go_ret
      exact ⟨ret_int HR.out.symm, HA.out⟩
end Go.Proofs.Ytemdgggpfadecaa
