/-
  One bit of a packet's bytes changed, as plain data.
-/
import Derived.Test.YtkfbhofbajejiaaDoorStp2
namespace Go.Proofs.YtkfbhofbajejiaaDoor
open Go.ChangeShapes Go.WideShapes Go.ChangeAt Go.RowKit Go.Deep Num
set_option linter.unusedVariables false
set_option maxHeartbeats 4000000
set_option maxRecDepth 100000

theorem gt_set_ne (l : List Int) (i j : Nat) (x : Int) (h : i ≠ j) : gt (l.set i x) j = gt l j := by unfold gt; rw [List.getElem?_set_ne h]
theorem gt_set_eq (l : List Int) (i : Nat) (x : Int) (h : i < l.length) : gt (l.set i x) i = x := by unfold gt; rw [List.getElem?_set_self h]; rfl
theorem gt_take (l : List Int) (n i : Nat) (h : i < n) : gt (l.take n) i = gt l i := by unfold gt; rw [List.getElem?_take, if_pos h]
/-- Another byte in the head: no packet's. -/
theorem turn_head {q : Pk} (hw : Wf q) (hr : rightP q = true) (i : Nat) (h1 : 1 ≤ i) (hi : i < 20 + q.o.length) (x : Int) (hx : 0 ≤ x ∧ x ≤ 255) (hne : x ≠ gt (lay4 q) i) : headE ((lay4 q).set i x) ≠ 0 := by
  intro hc
  obtain ⟨hbB, -, hbl⟩ := lay4_bd hw hr
  obtain ⟨hE, -⟩ := parse4_ok (parse_lay4 hw hr)
  obtain ⟨-, -, -, -, -, hsb⟩ := headE_ok hE
  obtain ⟨-, -, -, -, -, hsc⟩ := headE_ok hc
  obtain ⟨hf, hv⟩ := (right_iff q).1 hr
  have hN : headN (lay4 q) = 20 + q.o.length := (head_lay hw hf (valid_len hv) q.d _ _).1
  have hN' : headN ((lay4 q).set i x) = 20 + q.o.length := by
    rw [← hN]; unfold headN; rw [gt_set_ne _ _ _ _ (by omega)]
  rw [hN] at hsb
  rw [hN', List.take_set] at hsc
  generalize lay4 q = b at *
  have hHl : (b.take (20 + q.o.length)).length = 20 + q.o.length := by simp; omega
  have hHB : Bytes (b.take (20 + q.o.length)) := hbB.take _
  have hold : gt (b.take (20 + q.o.length)) i = gt b i := gt_take _ _ _ hi
  have ho := gt_bd hbB i
  generalize b.take (20 + q.o.length) = H at *
  have w0 : w16 b 10 = 256 * gt b 10 + gt b 11 := rfl
  have w1 : w16 (b.set i x) 10 = 256 * gt (b.set i x) 10 + gt (b.set i x) 11 := rfl
  have g10 := gt_bd hbB 10; have g11 := gt_bd hbB 11
  by_cases h10 : i = 10
  · subst h10
    rw [gt_set_eq _ _ _ (by omega), gt_set_ne _ _ _ _ (by omega)] at w1
    have e : sumH (H.set 10 x) = sumH H := by unfold sumH; rw [List.set_set]
    rw [e] at hsc
    omega
  · by_cases h11 : i = 11
    · subst h11
      rw [gt_set_eq _ _ _ (by omega), gt_set_ne _ _ _ _ (by omega)] at w1
      have e : sumH (H.set 11 x) = sumH H := by
        unfold sumH; rw [List.set_comm _ _ (by omega : (11 : Nat) ≠ 10), List.set_set]
      rw [e] at hsc
      omega
    · rw [gt_set_ne _ _ _ _ (by omega), gt_set_ne _ _ _ _ (by omega)] at w1
      have e : sumH (H.set i x) = 65535 - pt (((H.set 10 0).set 11 0).set i x) := by
        unfold sumH; rw [List.set_comm _ _ h10, List.set_comm _ _ h11]
      have e0 : sumH H = 65535 - pt ((H.set 10 0).set 11 0) := rfl
      rw [e] at hsc
      rw [e0] at hsb
      have hK : gt ((H.set 10 0).set 11 0) i = gt b i := by rw [gt_set_ne _ _ _ _ (by omega), gt_set_ne _ _ _ _ (by omega), hold]
      have hKl : ((H.set 10 0).set 11 0).length = 20 + q.o.length := by simp [hHl]
      generalize (H.set 10 0).set 11 0 = K at *
      have hs := ws_set true K i x (by omega)
      change ws true (K.set i x) = ws true K + (x - gt K i) * _ at hs
      have m1 : pt (K.set i x) % 65535 = ws true (K.set i x) % 65535 := fold_mod
      have m2 : pt K % 65535 = ws true K % 65535 := fold_mod
      rw [hK] at hs
      have hp : pt (K.set i x) = pt K := by omega
      rw [hp] at m1
      split at hs <;> omega
/-- Another byte in the data: the packet with that byte. -/
theorem lay_data (q : Pk) (j : Nat) (x : Int) (hw : Wf q) (hj : j < q.d.length) : lay4 { q with d := q.d.set j x } = (lay4 q).set (20 + q.o.length + j) x := by
  have e : layH { q with d := q.d.set j x } = layH q := by
    have et : totP { q with d := q.d.set j x } = totP q := by unfold totP; rw [List.length_set]
    have eh : ∀ a b, hd { q with d := q.d.set j x } a b = hd q a b := by
      intro a b; unfold hd; rw [et]; rfl
    have ec : ckP { q with d := q.d.set j x } = ckP q := by unfold ckP; rw [eh]
    unfold layH; rw [ec, eh]
  unfold lay4
  rw [e]
  have hl := layH_len hw
  rw [List.set_append_right _ _ (by omega), hl, show 20 + q.o.length + j - (20 + q.o.length) = j from by omega]
theorem turn_wf {q : Pk} (hw : Wf q) (j : Nat) (x : Int) (hx : 0 ≤ x ∧ x ≤ 255) : Wf { q with d := q.d.set j x } :=
  { hw with d := hw.d.set j hx.1 hx.2, dn := by simp only [List.length_set]; exact hw.dn }
theorem turn_right {q : Pk} (hr : rightP q = true) (j : Nat) (x : Int) : rightP { q with d := q.d.set j x } = true := by
  rw [right_iff] at *
  exact ⟨{ hr.1 with m8 := by simp only [List.length_set]; exact hr.1.m8, m0 := by simp only [List.length_set]; exact hr.1.m0, f0 := by simp only [List.length_set]; exact hr.1.f0, reach := by simp only [List.length_set]; exact hr.1.reach, all := by simp only [List.length_set]; exact hr.1.all }, hr.2⟩
theorem turn_data {q : Pk} (hw : Wf q) (hr : rightP q = true) (j : Nat) (hj : j < q.d.length) (x : Int) (hx : 0 ≤ x ∧ x ≤ 255) :
    parse4 ((lay4 q).set (20 + q.o.length + j) x) = ({ q with d := q.d.set j x }, 0) := by
  rw [← lay_data q j x hw hj]
  exact parse_lay4 (turn_wf hw j x hx) (turn_right hr j x)
theorem turn_no {b : List Int} (h : headE b ≠ 0) : (parse4 b).2 ≠ 0 ∧ (parse4 b).1 = zeroPk := by
  unfold parse4; rw [if_pos h]; exact ⟨h, rfl⟩
theorem gt_data {q : Pk} (hw : Wf q) (j : Nat) (hj : j < q.d.length) : gt (lay4 q) (20 + q.o.length + j) = gt q.d j := by
  unfold gt lay4
  have hl := layH_len hw
  rw [List.getElem?_append_right (by omega), hl]
  congr 2
  omega
def xorOk : Bool := (List.range 8).all fun j => (List.range 256).all fun b => decide (0 ≤ bits .xor .u8 (b : Int) ((2 ^ j : Nat) : Int)) && decide (bits .xor .u8 (b : Int) ((2 ^ j : Nat) : Int) ≤ 255) && decide (bits .xor .u8 (b : Int) ((2 ^ j : Nat) : Int) ≠ b)
theorem xorOk_true : xorOk = true := by decide +kernel
theorem xor_byte (j : Nat) (b : Int) (hj : j < 8) (h0 : 0 ≤ b) (h1 : b ≤ 255) : (0 ≤ bits .xor .u8 b ((2 ^ j : Nat) : Int) ∧ bits .xor .u8 b ((2 ^ j : Nat) : Int) ≤ 255) ∧ bits .xor .u8 b ((2 ^ j : Nat) : Int) ≠ b := by
  obtain ⟨n, rfl⟩ := Int.eq_ofNat_of_zero_le h0
  have h := xorOk_true
  unfold xorOk at h
  simp only [List.all_eq_true, List.mem_range, Bool.and_eq_true, decide_eq_true_eq] at h
  exact h j hj n (by omega)
#print axioms turn_data
end Go.Proofs.YtkfbhofbajejiaaDoor
