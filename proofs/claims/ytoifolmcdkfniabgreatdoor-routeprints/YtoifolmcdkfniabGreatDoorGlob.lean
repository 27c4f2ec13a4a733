/-
  What the package variables hold, and the cuts of a text.
-/
import Derived.Test.YtoifolmcdkfniabGreatDoorShelf
import Derived.Test.YtoifolmcdkfniabGreatDoorDig
namespace Go.Proofs.YtoifolmcdkfniabGreatDoor
open Go.ChangeShapes Go.WideShapes Go.ChangeAt Go.RowKit
set_option linter.unusedVariables false
set_option maxHeartbeats 4000000
set_option maxRecDepth 100000

structure Glob (w : World) : Prop where
  size : 4 ≤ w.heap.size
  len : ∃ m, w.cell? ⟨0, 0, none⟩ = some (.int .i64 m)
  pow : Lib.TabIs Tryz.prog w "internal/strconv.uint64pow10" .u64 Lib.pow10Tab
  bru : w.cell? ⟨3, 15, none⟩ = some (.int .u8 4)
theorem gPow : Tryz.prog.globalNamed "internal/strconv.uint64pow10" = some 1 := by kernel_rfl
theorem Glob.below {w w' : World} (h : Glob w) {B : Nat} (hb : Below B w w') (h4 : 4 ≤ B) : Glob w' :=
  ⟨Nat.le_trans h.size hb.size, by obtain ⟨m, hm⟩ := h.len; exact ⟨m, (hb.cell (show 0 < B by omega)).trans hm⟩, var?_below hb gPow (by omega) h.pow, (hb.cell (show 3 < B by omega)).trans h.bru⟩
theorem Glob.on {w w' : World} (h : Glob w) (hb : Below w.heap.size w w') : Glob w' := h.below hb h.size
theorem Glob.drewN {w : World} (h : Glob w) (n : Nat) : Glob (w.drewN n) := h.below (B := 4) ⟨rfl, rfl, rfl, Nat.le_refl _, fun _ _ => rfl⟩ (Nat.le_refl _)
theorem Glob.alloc {w : World} (h : Glob w) (o : Obj) : Glob (w.alloc o) := h.on ((Below.refl _ _).alloc (Nat.le_refl _) _)
theorem cut_c (s : ByteArray) (sep : ByteArray) (hs : s.size < 4294967281) (w : World) (hg : Glob w) :
    Calls Tryz.prog 44 #[.string s, .string sep] w fun e w' => e = .returned (.tuple #[.string ⟨(Lib.cut s.data.toList sep.data.toList).1.toArray⟩, .string ⟨(Lib.cut s.data.toList sep.data.toList).2.1.toArray⟩, .bool (Lib.cut s.data.toList sep.data.toList).2.2]) ∧ ∃ n, w' = w.drewN n := by
  obtain ⟨m, hm⟩ := hg.len
  exact Tryz.strings_Cut s sep m w hs hm
theorem cut_len (l sep : List UInt8) : (Lib.cut l sep).1.length ≤ l.length ∧ (Lib.cut l sep).2.1.length ≤ l.length := by
  unfold Lib.cut
  split
  · simp; omega
  · simp
end Go.Proofs.YtoifolmcdkfniabGreatDoor
