/-
  An index into a list of packets, in a region that draws.
-/
import Derived.Test.YtaicckenpplceaaGreatDoorLp
import Derived.Test.YtaicckenpplceaaGreatDoorQt6
import Derived.Test.YtaicckenpplceaaGreatDoorSameP
namespace Go.Proofs.YtaicckenpplceaaGreatDoor
open Go.ChangeShapes Go.WideShapes Go.ChangeAt Go.RowKit Num
set_option linter.unusedVariables false
set_option linter.unusedSimpArgs false
set_option maxRecDepth 100000

theorem under32 : Tryz.prog.underlying 22 = some (.slice (Tryz.prog.elem 22)) := by kernel_rfl
theorem ix32_run (w : World) (gb go n cap i : Nat) (z : Int) (hz : z = (i : Int)) (hi : i < n) : (Instr.indexAt 22 (.slice (some ⟨gb, go, none⟩) n cap) (.int .i64 z)).run Tryz.prog w = .ok (.pointer (some ⟨gb, go + i * 46, none⟩)) w := by
  subst hz
  have he : Tryz.prog.elem 22 = 29 := by kernel_rfl
  rw [run_indexAt_slice w 22 ⟨gb, go, none⟩ n cap .i64 (i : Int) under32, he, if_pos ⟨by omega, by omega⟩, size28]
  simp only [Result.andThen, add_plain, Int.toNat_natCast]
theorem quiet_ix32 {o : Oper} {a : Act} {C : World → Prop} {K : Act → Prop} (x ix : Operand) (ho : o.op = .indexAddr 22 x ix) (gb go n cap i : Nat) (z : Int) (hx : a.eval x = .slice (some ⟨gb, go, none⟩) n cap) (hix : a.eval ix = .int .i64 z) (hz : z = (i : Int)) (hi : i < n) (hk : K (a.put o.dst (.pointer (some ⟨gb, go + i * 46, none⟩)))) : o.quiet Tryz.prog a C K := by
  refine ⟨_, fun w hw => ?_, hk⟩
  unfold Oper.quietAt execOp
  simp only [ho, hx, hix, Sem.run_bind, ix32_run w gb go n cap i z hz hi, Result.andThen_ok]
  exact ⟨rfl, rfl⟩
end Go.Proofs.YtaicckenpplceaaGreatDoor
