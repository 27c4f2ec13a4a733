/-
  How long a printed text is; what the law's three answers are.
-/
import Derived.Test.YtclfhajapohogaaDoorBack2
import Derived.Test.YtclfhajapohogaaDoorRows4
namespace Go.Proofs.YtclfhajapohogaaDoor
open Go.ChangeShapes Go.WideShapes Go.ChangeAt Go.RowKit
set_option linter.unusedVariables false
set_option maxHeartbeats 4000000
set_option maxRecDepth 100000

theorem itoa_len {x : Int} (h0 : 0 ≤ x) (h : x ≤ 255) : (Lib.itoa x).length ≤ 3 := by
  obtain ⟨n, rfl⟩ : ∃ n : Nat, x = (n : Int) := ⟨x.toNat, by omega⟩
  rw [itoa_dec3 (by omega)]
  unfold dec3
  split
  · simp
  · split <;> simp
theorem printP_len {v : Int} {l : List Int} (hl : l.length = 16) (hb : ∀ x ∈ l, 0 ≤ x ∧ x ≤ 255) : (printP v l).length ≤ 700 := by
  unfold printP
  split
  · simp
  · split
    · obtain ⟨b0, b1, b2, b3, b4, b5, b6, b7, b8, b9, b10, b11, b12, b13, b14, b15, rfl⟩ := list16 hl
      have h0 := itoa_len (hb b0 (by simp)).1 (hb b0 (by simp)).2
      have h1 := itoa_len (hb b1 (by simp)).1 (hb b1 (by simp)).2
      have h2 := itoa_len (hb b2 (by simp)).1 (hb b2 (by simp)).2
      have h3 := itoa_len (hb b3 (by simp)).1 (hb b3 (by simp)).2
      show (printD [b0, b1, b2, b3]).length ≤ 700
      unfold printD
      rw [List.map_cons, Lib.join_cons]
      simp [Lib.joinTail]
      omega
    · have hle := zst_le (grpOf l) 8
      have hg := grpOf_length hl
      unfold printS
      split
      · have := printG_len (grpOf l) (by omega); omega
      · have h1 := printG_len ((grpOf l).take (zst (grpOf l) 8).1) (by simp; omega)
        have h2 := printG_len ((grpOf l).drop (zst (grpOf l) 8).2.1) (by simp; omega)
        simp; omega
theorem parseP_bytes (t : List UInt8) : (parseP t).2.1.length = 16 ∧ ∀ x ∈ (parseP t).2.1, 0 ≤ x ∧ x ≤ 255 := by
  refine ⟨?_, ?_⟩
  · by_cases h : 58 ∈ t
    · rw [parseP_six t h]
      cases hr : parse6P t with
      | none => rfl
      | some r => simp only; rw [unG_length, parse6P_length hr]
    · rw [parseP_four t h]
      cases hr : parse4P t with
      | none => rfl
      | some r => simp only; exact fourB_length r (by rw [parse4P_length hr]; omega)
  · rcases parseP_cases t with h | ⟨_, _, h⟩
    · rw [h]; intro x hx; simp [z16] at hx; omega
    · exact h
/-- A text of bytes, read. -/
theorem parse_at (t : List UInt8) (ht : t.length ≤ 700) (W : World) (hW : Glob W) : Calls Tryd.prog 16 #[.string ⟨t.toArray⟩] W fun e w' => e = .returned (.tuple #[.agg (csA (parseP t).1 (parseP t).2.1), .int .i64 (parseP t).2.2]) ∧ Below W.heap.size W w' := by
  have := parse_c ⟨t.toArray⟩ (by rw [bsize]; omega) W hW
  exact this
#print axioms parse_at
end Go.Proofs.YtclfhajapohogaaDoor
