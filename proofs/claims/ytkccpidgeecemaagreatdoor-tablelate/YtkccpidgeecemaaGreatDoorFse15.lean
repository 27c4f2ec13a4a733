/-
  A store into one field (stage 14) of a packet's variable.
-/
import Derived.Test.YtkccpidgeecemaaGreatDoorTbC
namespace Go.Proofs.YtkccpidgeecemaaGreatDoor
open Go.ChangeShapes Go.WideShapes Go.ChangeAt Go.RowKit Num
set_option linter.unusedVariables false
set_option linter.unusedSimpArgs false
set_option maxHeartbeats 4000000
set_option maxRecDepth 100000
theorem put3 (w : World) (ad : Addr) (n : Int) (u : Value) (hc : w.cell? ad = some u) (hf : w.frozen? ad = false) : (Instr.storeAt 3 (.pointer (some ad)) (.int .i64 n)).run Tryz.prog w = .ok () (w.setCell ad (.int .i64 n)) := by
  simp [go_sem, Instr.storeAt, Instr.sureAddr, storeVar, hc, hf]
theorem put4 (w : World) (ad : Addr) (n : Bool) (u : Value) (hc : w.cell? ad = some u) (hf : w.frozen? ad = false) : (Instr.storeAt 4 (.pointer (some ad)) (.bool n)).run Tryz.prog w = .ok () (w.setCell ad (.bool n)) := by
  simp [go_sem, Instr.storeAt, Instr.sureAddr, storeVar, hc, hf]
theorem put25 (w : World) (ad : Addr) (n : Int) (u : Value) (hc : w.cell? ad = some u) (hf : w.frozen? ad = false) : (Instr.storeAt 36 (.pointer (some ad)) (.int .u32 n)).run Tryz.prog w = .ok () (w.setCell ad (.int .u32 n)) := by
  simp [go_sem, Instr.storeAt, Instr.sureAddr, storeVar, hc, hf]
theorem put26 (w : World) (ad : Addr) (b : Option Addr) (n c : Nat) (u : Value) (hc : w.cell? ad = some u) (hf : w.frozen? ad = false) : (Instr.storeAt 37 (.pointer (some ad)) (.slice b n c)).run Tryz.prog w = .ok () (w.setCell ad (.slice b n c)) := by
  simp [go_sem, Instr.storeAt, Instr.sureAddr, storeVar, hc, hf]
theorem csP_len {p : Pk} (ha : Ad p) (ov dv : Value) : (csP p ov dv).size = 46 := by
  have := listP_len (ov := ov) (dv := dv) ha
  simpa [csP] using this
theorem BoxP.some {w : World} {g : Nat} {p : Pk} {ov dv : Value} (h : BoxP w g p ov dv) (ha : Ad p) {i : Nat} (hi : i < 46) : ∃ u, w.cell? ⟨g, i, none⟩ = some u := by
  rw [cell_of_block h]
  exact ⟨(csP p ov dv)[i]'(by rw [csP_len ha]; exact hi), by simp [csP_len ha, hi]⟩
theorem wpList_putF {ops : Array Oper} {rest : List Oper} {o : Oper} {a : Act} {w : World} {Q : Exit → Act → World → Prop} (hw : Region.wanted o (yielded ops a.tmps) = true) (t : TypeId) (x y : Operand) (ho : o.op = .store t x y) (g i : Nat) (hx : a.eval x = .pointer (some ⟨g, i, none⟩)) (v : Value) (hy : a.eval y = v)
    (hst : ∀ u, w.cell? ⟨g, i, none⟩ = some u → w.frozen? ⟨g, i, none⟩ = false → (Instr.storeAt t (.pointer (some ⟨g, i, none⟩)) v).run Tryz.prog w = .ok () (w.setCell ⟨g, i, none⟩ v))
    (p q : Pk) (ov dv ou du : Value) (hb : BoxP w g p ov dv) (ha : Ad p) (hi : i < 46) (hset : (csP p ov dv).setIfInBounds i v = csP q ou du)
    (h : ∀ w1, BoxP w1 g q ou du → Away [g] w w1 → wpList Tryz.prog ops Q rest (a.put o.dst undef) w1) : wpList Tryz.prog ops Q (o :: rest) a w := by
  obtain ⟨u, hu⟩ := hb.some ha hi
  have e := hst u hu (free_of_block hb i)
  refine BigFrame.wpList_want hw fun K hK => ?_
  unfold Oper.wp execOp
  simp only [ho, hx, hy, Sem.run_bind, e, Result.andThen_ok, Sem.run_pure]
  exact hK _ _ (h _ (hb.put i v hset) (away_put i v))
end Go.Proofs.YtkccpidgeecemaaGreatDoor
