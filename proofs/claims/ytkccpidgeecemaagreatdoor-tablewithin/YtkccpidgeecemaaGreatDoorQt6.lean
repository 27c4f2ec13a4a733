/-
  A region that draws its order, walked once over many worlds at once.
-/
import Derived.Test.YtkccpidgeecemaaGreatDoorPkt
import Derived.Test.YtkccpidgeecemaaGreatDoorPk6
import Derived.Deep.DrawnRows
import Derived.Deep.RegionHeld3
import Derived.BigQuiet
import Derived.BigCall
namespace Go.Proofs.YtkccpidgeecemaaGreatDoor.S6
open Go.ChangeShapes Go.WideShapes Go.ChangeAt Go.RowKit Num
set_option linter.unusedVariables false
set_option maxHeartbeats 4000000
set_option maxRecDepth 100000
theorem wp_region_cls {C : World → Prop} {id : Nat} {Q : Exit → Act → World → Prop} {a : Act} {w : World} {l : List Oper} (hm : Tryz.prog.follows .mixedOrders = true) (hB : Region.lexB .any l.toArray = true) (hC : C w.drew)
    (h : wpQuiet Tryz.prog l.toArray C (fun a' => ∀ w', C w' → Q .normal a' w') l a) : (Code.region id l.toArray true).wp Tryz.prog Q a w :=
  wp_region_quiet (C := C) hm hB hC (by simpa using h)
theorem quiet_val {o : Oper} {a : Act} {C : World → Prop} {K : Act → Prop} (v : Value) (h : ∀ w, (execOp a.eval o).run Tryz.prog w = .ok (.value v) w) (hk : K (a.put o.dst v)) : o.quiet Tryz.prog a C K :=
  ⟨v, fun w _ => by unfold Oper.quietAt; rw [h w]; exact ⟨rfl, rfl⟩, hk⟩
theorem quiet_call {o : Oper} {a : Act} {C : World → Prop} {K : Act → Prop} (f : FuncId) (args : Array Value) (v : Value) (h : ∀ w, (execOp a.eval o).run Tryz.prog w = .ok (.enter f args) w) (hc : ∀ W, C W → Calls Tryz.prog f args W fun e w' => e = .returned v ∧ C w') (hk : K (a.put o.dst v)) : o.quiet Tryz.prog a C K :=
  ⟨v, fun w hw => by unfold Oper.quietAt; rw [h w]; exact ⟨rfl, hc w hw⟩, hk⟩
theorem ld3 {w : World} {ad : Addr} {z : Int} (h : w.cell? ad = some (.int .i64 z)) : (Instr.loadAt 3 (.pointer (some ad))).run Tryz.prog w = .ok (.int .i64 z) w := by
  simp [go_sem, Instr.loadAt, Instr.sureAddr, h]
theorem ld4 {w : World} {ad : Addr} {z : Bool} (h : w.cell? ad = some (.bool z)) : (Instr.loadAt 4 (.pointer (some ad))).run Tryz.prog w = .ok (.bool z) w := by
  simp [go_sem, Instr.loadAt, Instr.sureAddr, h]
theorem ld5 {w : World} {ad : Addr} {z : Int} (h : w.cell? ad = some (.int .u8 z)) : (Instr.loadAt 5 (.pointer (some ad))).run Tryz.prog w = .ok (.int .u8 z) w := by
  simp [go_sem, Instr.loadAt, Instr.sureAddr, h]
theorem ld25 {w : World} {ad : Addr} {z : Int} (h : w.cell? ad = some (.int .u32 z)) : (Instr.loadAt 36 (.pointer (some ad))).run Tryz.prog w = .ok (.int .u32 z) w := by
  simp [go_sem, Instr.loadAt, Instr.sureAddr, h]
theorem ld26 {w : World} {ad : Addr} {a : Option Addr} {n c : Nat} (h : w.cell? ad = some (.slice a n c)) : (Instr.loadAt 37 (.pointer (some ad))).run Tryz.prog w = .ok (.slice a n c) w := by
  simp [go_sem, Instr.loadAt, Instr.sureAddr, h]
theorem quiet_ld {o : Oper} {a : Act} {C : World → Prop} {K : Act → Prop} {t : TypeId} {v : Value} {ad : Addr} (x : Operand) (ho : o.op = .load t x) (hx : a.eval x = .pointer (some ad)) (hC : ∀ w, C w → (Instr.loadAt t (.pointer (some ad))).run Tryz.prog w = .ok v w) (hk : K (a.put o.dst v)) : o.quiet Tryz.prog a C K := by
  refine ⟨v, fun w hw => ?_, hk⟩
  unfold Oper.quietAt execOp
  simp only [ho, hx, Sem.run_bind, hC w hw, Result.andThen_ok]
  exact ⟨rfl, rfl⟩
theorem load28_run {w : World} {g : Nat} {p : Pk} {ov dv : Value} (hb : BoxP w g p ov dv) (ha : Ad p) : (Instr.loadAt 39 (.pointer (some ⟨g, 0, none⟩))).run Tryz.prog w = .ok (.agg (csP p ov dv)) w := by
  simp only [Instr.loadAt, Instr.sureAddr, Sem.run_bind, Sem.run_pure, Result.andThen]
  rw [run_loadVar_row w g 39 39 (csP p ov dv) (0, 0) _ hb Tryz.underlying39 rfl (by rw [csP_size ha]; exact info28)]
theorem load24m_run {w : World} {g k : Nat} {v : Int} {l : List Int} (hc : w.rangeAt g k (cellsA v l)) (hl : l.length = 16) : (Instr.loadAt 35 (.pointer (some ⟨g, k, none⟩))).run Tryz.prog w = .ok (.agg (csA v l)) w := by
  have h17 : (cellsA v l).length = 17 := by simp [cellsA, hl]
  have := run_loadVar_mid (P := Tryz.prog) w g k 35 (cellsA v l) _ hc Tryz.underlying35 rfl (by rw [h17]; exact info24)
  simp only [Instr.loadAt, Instr.sureAddr, Sem.run_bind, Sem.run_pure, Result.andThen]
  rw [this]; rfl
end Go.Proofs.YtkccpidgeecemaaGreatDoor.S6
