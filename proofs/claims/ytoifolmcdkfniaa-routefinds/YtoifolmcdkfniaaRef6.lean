/-
  A mask, bit by bit.
-/
import Derived.Test.YtoifolmcdkfniaaRef4
namespace Go.Proofs.Ytoifolmcdkfniaa
open Go.ChangeShapes Go.WideShapes Go.ChangeAt Go.RowKit
set_option linter.unusedVariables false
set_option maxHeartbeats 4000000
set_option maxRecDepth 100000

def orOk : Bool := (List.range 8).all fun q => (List.range 256).all fun b => decide (bits .or .u8 (mb (q : Int) (b : Int)) ((b : Int) / 2 ^ (7 - q) % 2 * 2 ^ (7 - q)) = mb ((q + 1 : Nat) : Int) (b : Int))
theorem orOk_true : orOk = true := by decide +kernel
theorem or_step (q : Nat) (b : Int) (hq : q < 8) (hb : 0 ≤ b ∧ b ≤ 255) : bits .or .u8 (mb (q : Int) b) (b / 2 ^ (7 - q) % 2 * 2 ^ (7 - q)) = mb ((q + 1 : Nat) : Int) b := by
  obtain ⟨b, rfl⟩ := Int.eq_ofNat_of_zero_le hb.1
  have h := orOk_true
  unfold orOk at h
  simp only [List.all_eq_true, List.mem_range, decide_eq_true_eq] at h
  exact h q hq b (by omega)
theorem mb0 (b : Int) (hb : 0 ≤ b ∧ b ≤ 255) : mb 0 b = 0 := by
  obtain ⟨b, rfl⟩ := Int.eq_ofNat_of_zero_le hb.1
  have := mb_eq 0 b (by omega) (by omega)
  rw [show ((0 : Nat) : Int) = 0 from rfl] at this
  rw [this]; omega
theorem maskL_none (bs : Int) : ∀ (k : Nat) (l : List Int), (∀ y ∈ l, 0 ≤ y ∧ y ≤ 255) → bs ≤ 8 * (k : Int) → maskL bs k l = List.replicate l.length 0
  | _, [], _, _ => rfl
  | k, a :: l, h, hk => by
    have e : kept bs k = 0 := by unfold kept; omega
    simp only [maskL, List.length_cons, List.replicate_succ]
    rw [e, mb0 a (h a (by simp)), maskL_none bs (k + 1) l (fun y hy => h y (by simp [hy])) (by omega)]
theorem maskL_start {l : List Int} (hl : l.length = 16) (hb : ∀ y ∈ l, 0 ≤ y ∧ y ≤ 255) : maskL 0 0 l = z16 := by
  rw [maskL_none 0 0 l hb (by decide), hl]; rfl
/-- One more bit. -/
theorem maskL_succ {l : List Int} (hl : l.length = 16) (hb : ∀ y ∈ l, 0 ≤ y ∧ y ≤ 255) (i : Nat) (hi : i < 128) (x : Int) (hx : (maskL i 0 l)[i / 8]? = some x) :
    (maskL i 0 l).set (i / 8) (bits .or .u8 x (bitP l i * 2 ^ (7 - i % 8))) = maskL ((i + 1 : Nat) : Int) 0 l := by
  obtain ⟨b, hbk⟩ : ∃ b, l[i / 8]? = some b := ⟨_, List.getElem?_eq_getElem (by omega)⟩
  have hbb := hb b (List.mem_of_getElem? hbk)
  have hbit : bitP l i = b / 2 ^ (7 - i % 8) % 2 := by unfold bitP; rw [List.getD, hbk]; rfl
  have e1 : kept (i : Int) (i / 8) = ((i % 8 : Nat) : Int) := by unfold kept; omega
  have e2 : kept ((i + 1 : Nat) : Int) (i / 8) = ((i % 8 + 1 : Nat) : Int) := by unfold kept; omega
  have hx' : x = mb ((i % 8 : Nat) : Int) b := by
    rw [maskL_get, hbk, Nat.zero_add, e1] at hx
    simpa using hx.symm
  apply List.ext_getElem?
  intro k
  rw [List.getElem?_set, maskL_length, maskL_get, maskL_get, Nat.zero_add]
  by_cases hk : i / 8 = k
  · subst hk
    rw [if_pos rfl, if_pos (by omega), hbk, hx', hbit, or_step (i % 8) b (by omega) hbb, e2]; rfl
  · rw [if_neg hk]
    have e3 : kept (i : Int) k = kept ((i + 1 : Nat) : Int) k := by unfold kept; omega
    rw [e3]
end Go.Proofs.Ytoifolmcdkfniaa
