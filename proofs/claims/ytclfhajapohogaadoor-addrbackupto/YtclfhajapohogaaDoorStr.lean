/-
  A string's size, where what is read is small.
-/
import Derived.Test.YtclfhajapohogaaDoorKit
namespace Go.Proofs.YtclfhajapohogaaDoor
open Go.ChangeShapes Go.WideShapes Go.ChangeAt Go.RowKit
set_option linter.unusedVariables false
set_option maxHeartbeats 4000000
set_option maxRecDepth 100000

theorem bulk_mem {H : Type} : ∀ {ds : List (DataW H)} {d : DataW H}, d ∈ ds → Rows.uptoBulk d ≤ Rows.uptoBulkAll ds
  | [], _, h => by simp at h
  | x :: r, d, h => by
    simp only [List.mem_cons] at h
    simp only [Rows.uptoBulkAll]
    rcases h with rfl | h
    · omega
    · have := bulk_mem h; omega
theorem str_upto {H : Type} {enc : TypeId × Value → H} {W : World} {base : Nat} {spare : Nat → Bool} {held : Bool} {s : ByteArray} {d : DataW H} {p : List MemPlace} {ds : List (DataW H)} (hk : Rows.uptoSmall H ds = true) (h : DataW.Trod enc Tryd.prog W base spare held 9 (.string s) d p) (hm : d ∈ ds) : s.size < 4294967281 := by
  obtain ⟨fuel, hf⟩ := h
  obtain ⟨s', h1, h2, _⟩ := DataW.trod_string Tryd.underlying9 hf
  simp only [Value.cells, List.cons.injEq, Value.string.injEq, and_true] at h1
  subst h1
  have hd : d = .lit (.string s.data.toList) := by simpa using congrArg Prod.fst h2
  have hb := bulk_mem hm
  rw [hd] at hb
  have hk' : Rows.uptoBulkAll ds ≤ 1048576 := of_decide_eq_true hk
  have e : Rows.uptoBulk (H := H) (.lit (.string s.data.toList)) = s.size + 1 := by
    simp only [Rows.uptoBulk]
    rfl
  omega
end Go.Proofs.YtclfhajapohogaaDoor
