/-
  Loads of an address in a region that draws its order.
-/
import Derived.Test.YtoifolmcdkfniabGreatDoorRow
import Derived.Deep.DrawnRows
import Derived.Deep.RegionHeld3
import Derived.BigQuiet
import Derived.BigCall
namespace Go.Proofs.YtoifolmcdkfniabGreatDoor
open Go.ChangeShapes Go.WideShapes Go.ChangeAt Go.RowKit
set_option linter.unusedVariables false
set_option maxHeartbeats 4000000
set_option maxRecDepth 100000

def loadGo (r : Option (Array Value)) (P : Prop) (dst : Option Tmp) (a : Act) (w : World) (K : Act → World → Prop) : Prop :=
  match r with
  | some cs => K (a.put dst (.agg cs)) w
  | none => P
def loadV (v : Value) (P : Prop) (dst : Option Tmp) (a : Act) (w : World) (K : Act → World → Prop) : Prop :=
  match v with
  | .pointer (some ⟨g, 0, none⟩) => loadGo (rowAt w g) P dst a w K
  | _ => P
theorem loadV_at (g : Nat) (P : Prop) (dst : Option Tmp) (a : Act) (w : World) (K : Act → World → Prop) : loadV (.pointer (some ⟨g, 0, none⟩)) P dst a w K = loadGo (rowAt w g) P dst a w K := rfl
theorem loadGo_some (cs : Array Value) (P : Prop) (dst : Option Tmp) (a : Act) (w : World) (K : Act → World → Prop) : loadGo (some cs) P dst a w K = K (a.put dst (.agg cs)) w := rfl
/-- The old way, under a name. -/
def oldWp (P : Program) (o : Oper) (a : Act) (w : World) (K : Act → World → Prop) (Q : Exit → Act → World → Prop) : Prop := o.wp P a w K Q
theorem wp_load24 (dst : Option Tmp) (x : Operand) (ty : TypeId) (pos : String) (after : Array Edge) (guard : Option (Nat × Bool)) (a : Act) (w : World) (K : Act → World → Prop) (Q : Exit → Act → World → Prop) :
    Oper.wp Tryz.prog { dst := dst, op := .load 37 x, type := ty, pos := pos, after := after, guard := guard } a w K Q = loadV (a.eval x) (oldWp Tryz.prog { dst := dst, op := .load 37 x, type := ty, pos := pos, after := after, guard := guard } a w K Q) dst a w K := by
  unfold loadV
  split
  · rename_i g hx
    unfold loadGo
    split
    · rename_i cs hr
      obtain ⟨t, hh, hs⟩ := rowAt_some hr
      have e : (Instr.loadAt 37 (.pointer (some ⟨g, 0, none⟩))).run Tryz.prog w = .ok (.agg cs) w := by rw [load24_eq, hr]; rfl
      unfold Oper.wp execOp
      simp only [hx, Sem.run_bind, e, Result.andThen_ok]
      rfl
    · rfl
  · rfl
/-! A region that draws, walked once, over a class of worlds. -/
theorem wp_region_cls {C : World → Prop} {id : Nat} {Q : Exit → Act → World → Prop} {a : Act} {w : World} {l : List Oper} (hm : Tryz.prog.follows .mixedOrders = true) (hB : Region.lexB .any l.toArray = true) (hC : C w.drew)
    (h : wpQuiet Tryz.prog l.toArray C (fun a' => ∀ w', C w' → Q .normal a' w') l a) : (Code.region id l.toArray true).wp Tryz.prog Q a w :=
  wp_region_quiet (C := C) hm hB hC (by simpa using h)
theorem quiet_val {o : Oper} {a : Act} {C : World → Prop} {K : Act → Prop} (v : Value) (h : ∀ w, (execOp a.eval o).run Tryz.prog w = .ok (.value v) w) (hk : K (a.put o.dst v)) : o.quiet Tryz.prog a C K :=
  ⟨v, fun w _ => by unfold Oper.quietAt; rw [h w]; exact ⟨rfl, rfl⟩, hk⟩
theorem quiet_load24 {o : Oper} {a : Act} {C : World → Prop} {K : Act → Prop} (x : Operand) (ho : o.op = .load 37 x) (g : Nat) (hx : a.eval x = .pointer (some ⟨g, 0, none⟩)) (cs : Array Value) (hC : ∀ w, C w → rowAt w g = some cs) (hk : K (a.put o.dst (.agg cs))) : o.quiet Tryz.prog a C K := by
  refine ⟨.agg cs, fun w hw => ?_, hk⟩
  have e : (Instr.loadAt 37 (.pointer (some ⟨g, 0, none⟩))).run Tryz.prog w = .ok (.agg cs) w := by rw [load24_eq, hC w hw]; rfl
  unfold Oper.quietAt execOp
  simp only [ho, hx, Sem.run_bind, e, Result.andThen_ok]
  exact ⟨rfl, rfl⟩
theorem quiet_call {o : Oper} {a : Act} {C : World → Prop} {K : Act → Prop} (f : FuncId) (args : Array Value) (v : Value) (h : ∀ w, (execOp a.eval o).run Tryz.prog w = .ok (.enter f args) w) (hc : ∀ W, C W → Calls Tryz.prog f args W fun e w' => e = .returned v ∧ C w') (hk : K (a.put o.dst v)) : o.quiet Tryz.prog a C K :=
  ⟨v, fun w hw => by unfold Oper.quietAt; rw [h w]; exact ⟨rfl, hc w hw⟩, hk⟩
end Go.Proofs.YtoifolmcdkfniabGreatDoor
