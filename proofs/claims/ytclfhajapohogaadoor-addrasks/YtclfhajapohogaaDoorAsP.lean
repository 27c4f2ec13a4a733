/-
  For AddrAsks: the longest run of noughts, and digits; plain data.
-/
import Derived.Test.YtclfhajapohogaaDoorPrint
namespace Go.Proofs.YtclfhajapohogaaDoor
set_option linter.unusedVariables false
set_option maxHeartbeats 4000000
set_option maxRecDepth 100000

def runP (gs : List Nat) (i : Nat) : Nat := ((gs.drop i).takeWhile (fun g => decide (g = 0))).length
def zstB (zs : List Bool) : Nat → Nat × Nat × Nat
  | 0 => (0, 0, 0)
  | k + 1 => if zs.getD k true = false then ((zstB zs k).1, (zstB zs k).2.1, k + 1)
    else if (zstB zs k).2.1 - (zstB zs k).1 < k + 1 - (zstB zs k).2.2 then ((zstB zs k).2.2, k + 1, (zstB zs k).2.2) else zstB zs k
def runB (zs : List Bool) (i : Nat) : Nat := ((zs.drop i).takeWhile id).length
theorem zst_b (gs : List Nat) : ∀ k, zst gs k = zstB (gs.map (fun g => decide (g = 0))) k
  | 0 => rfl
  | k + 1 => by
    have ih := zst_b gs k
    have e : (gs.map (fun g => decide (g = 0))).getD k true = decide (gs.getD k 0 = 0) := by
      rw [List.getD_eq_getElem?_getD, List.getD_eq_getElem?_getD, List.getElem?_map]
      cases gs[k]? <;> simp
    unfold zst zstB
    rw [ih, e]
    simp
theorem run_b (gs : List Nat) (i : Nat) : runP gs i = runB (gs.map (fun g => decide (g = 0))) i := by
  unfold runP runB
  rw [← List.map_drop, List.takeWhile_map, List.length_map]
  rfl
def lessB (zs : List Bool) (k : Nat) : Bool := (List.range 9).all fun i => decide (8 < i + k) || decide (runB zs i < k)
def chk (zs : List Bool) : Bool :=
  if (zstB zs 8).2.1 - (zstB zs 8).1 < 2 then (List.range 9).all fun k => decide (k < 2) || lessB zs k
  else decide ((zstB zs 8).2.1 ≤ 8) && decide ((zstB zs 8).2.1 - (zstB zs 8).1 ≤ runB zs (zstB zs 8).1) && ((List.range 9).all fun k => decide (k ≤ (zstB zs 8).2.1 - (zstB zs 8).1) || lessB zs k) && ((List.range (zstB zs 8).1).all fun i => decide (runB zs i < (zstB zs 8).2.1 - (zstB zs 8).1))
theorem chk_all : ∀ a b c d e f g h : Bool, chk [a, b, c, d, e, f, g, h] = true := by decide +kernel
theorem chk_of {zs : List Bool} (h : zs.length = 8) : chk zs = true := by
  match zs, h with
  | [a, b, c, d, e, f, g, i], _ => exact chk_all a b c d e f g i
/-- No run is as long as two. -/
theorem run_none {gs : List Nat} (hg : gs.length = 8) (h : (zst gs 8).2.1 - (zst gs 8).1 < 2) {k i : Nat} (hk : 2 ≤ k) (hi : i + k ≤ 8) : runP gs i < k := by
  have hc := chk_of (zs := gs.map (fun g => decide (g = 0))) (by simpa using hg)
  rw [zst_b] at h
  unfold chk at hc
  rw [if_pos h] at hc
  simp only [lessB, List.all_eq_true, List.mem_range, Bool.or_eq_true, decide_eq_true_eq] at hc
  rw [run_b]
  rcases hc k (by omega) with h1 | h1
  · omega
  · rcases h1 i (by omega) with h2 | h2
    · omega
    · exact h2
/-- The longest run, the first of them. -/
theorem run_first {gs : List Nat} (hg : gs.length = 8) {f t : Nat} (hf : f = (zst gs 8).1) (ht : t = (zst gs 8).2.1) (h : 2 ≤ t - f) :
    t ≤ 8 ∧ t - f ≤ runP gs f ∧ (∀ k i, t - f < k → i + k ≤ 8 → runP gs i < k) ∧ (∀ i, i < f → runP gs i < t - f) := by
  have hc := chk_of (zs := gs.map (fun g => decide (g = 0))) (by simpa using hg)
  rw [zst_b] at hf ht
  unfold chk at hc
  rw [← hf, ← ht, if_neg (by omega)] at hc
  simp only [lessB, Bool.and_eq_true, List.all_eq_true, List.mem_range, Bool.or_eq_true, decide_eq_true_eq] at hc
  obtain ⟨⟨⟨h1, h2⟩, h3⟩, h4⟩ := hc
  refine ⟨h1, by rw [run_b]; exact h2, fun k i hk hi => ?_, fun i hi => by rw [run_b]; exact h4 i hi⟩
  rw [run_b]
  rcases h3 k (by omega) with h5 | h5
  · omega
  · rcases h5 i (by omega) with h6 | h6
    · omega
    · exact h6
/-- A run, number by number. -/
theorem run_at {gs : List Nat} {i n : Nat} (h : ∀ j, j < n → gs[i + j]? = some 0) (he : ∀ x, gs[i + n]? = some x → x ≠ 0) : runP gs i = n := by
  unfold runP
  induction n generalizing i with
  | zero =>
    rcases hd : gs.drop i with _ | ⟨x, r⟩
    · rfl
    · have hx : gs[i]? = some x := by
        have := congrArg (fun l => l[0]?) hd
        simpa using this
      have := he x (by simpa using hx)
      rw [List.takeWhile_cons_of_neg (by simpa using this)]; rfl
  | succ n ih =>
    have h0 : gs[i]? = some 0 := by simpa using h 0 (by omega)
    obtain ⟨hi, hi2⟩ := List.getElem?_eq_some_iff.1 h0
    rw [List.drop_eq_getElem_cons hi, hi2, List.takeWhile_cons_of_pos (by simp), List.length_cons, ih (i := i + 1) (fun j hj => by
      have := h (j + 1) (by omega)
      rw [show i + 1 + j = i + (j + 1) from by omega]; exact this) (fun x hx => he x (by rw [show i + (n + 1) = i + 1 + n from by omega]; exact hx))]
/-- Digits. -/
def dgs (base n : Nat) : Nat → List UInt8
  | 0 => []
  | k + 1 => hexd (n / base ^ k % base) :: dgs base n k
theorem dgs_len (base n : Nat) : ∀ k, (dgs base n k).length = k
  | 0 => rfl
  | k + 1 => by simp [dgs, dgs_len base n k]
theorem dgs_low (n : Nat) : ∀ k, dgs 16 n k = low n k
  | 0 => rfl
  | k + 1 => by simp [dgs, low, dgs_low n k]
def dec3 (n : Nat) : Nat := if n < 10 then 1 else if n < 100 then 2 else 3
def decOk : Bool := (List.range 256).all fun n => decide (dgs 10 n (dec3 n) = Lib.itoa (n : Int))
theorem decOk_true : decOk = true := by decide +kernel
theorem dgs_itoa {n : Nat} (h : n < 256) : dgs 10 n (dec3 n) = Lib.itoa (n : Int) := by
  have hc := decOk_true
  unfold decOk at hc
  simp only [List.all_eq_true, List.mem_range, decide_eq_true_eq] at hc
  exact hc n h
theorem dec3_at {n k : Nat} (hn : n < 256) (h0 : 1 ≤ k) (h1 : n / 10 ^ k = 0) (h2 : ∀ j, 1 ≤ j → j < k → n / 10 ^ j ≠ 0) : k = dec3 n := by
  unfold dec3
  rcases (show k = 1 ∨ k = 2 ∨ k = 3 ∨ 3 < k by omega) with rfl | rfl | rfl | hk
  · rw [if_pos (by simp at h1; omega)]
  · have := h2 1 (by omega) (by omega)
    simp at this h1
    rw [if_neg (by omega), if_pos (by omega)]
  · have := h2 2 (by omega) (by omega)
    simp at this h1
    rw [if_neg (by omega), if_neg (by omega)]
  · exact absurd (by simp; omega) (h2 3 (by omega) hk)
theorem nd_at {n k : Nat} (hn : n < 65536) (h0 : 1 ≤ k) (h1 : n / 16 ^ k = 0) (h2 : ∀ j, 1 ≤ j → j < k → n / 16 ^ j ≠ 0) : k = nd n + 1 := by
  unfold nd
  rcases (show k = 1 ∨ k = 2 ∨ k = 3 ∨ k = 4 ∨ 4 < k by omega) with rfl | rfl | rfl | rfl | hk
  · rw [if_pos (by simp at h1; omega)]
  · have := h2 1 (by omega) (by omega)
    simp at this h1
    rw [if_neg (by omega), if_pos (by omega)]
  · have := h2 2 (by omega) (by omega)
    simp at this h1
    rw [if_neg (by omega), if_neg (by omega), if_pos (by omega)]
  · have := h2 3 (by omega) (by omega)
    simp at this h1
    rw [if_neg (by omega), if_neg (by omega), if_neg (by omega)]
  · exact absurd (by simp; omega) (h2 4 (by omega) hk)
#print axioms run_first
end Go.Proofs.YtclfhajapohogaaDoor
