/-
  A region that draws its order, walked once over a class of worlds.
-/
import Derived.Test.YtckiiidigajhpaaAsk2
import Derived.Deep.DrawnRows
import Derived.Deep.RegionHeld3
import Derived.BigQuiet
import Derived.BigCall
namespace Go.Proofs.Ytckiiidigajhpaa
open Go.ChangeShapes Go.WideShapes Go.ChangeAt Go.RowKit
set_option linter.unusedVariables false
set_option maxHeartbeats 4000000
set_option maxRecDepth 100000
theorem wp_region_cls {C : World → Prop} {id : Nat} {Q : Exit → Act → World → Prop} {a : Act} {w : World} {l : List Oper} (hm : Try.prog.follows .mixedOrders = true) (hB : Region.lexB .any l.toArray = true) (hC : C w.drew)
    (h : wpQuiet Try.prog l.toArray C (fun a' => ∀ w', C w' → Q .normal a' w') l a) : (Code.region id l.toArray true).wp Try.prog Q a w :=
  wp_region_quiet (C := C) hm hB hC (by simpa using h)
theorem quiet_val {o : Oper} {a : Act} {C : World → Prop} {K : Act → Prop} (v : Value) (h : ∀ w, (execOp a.eval o).run Try.prog w = .ok (.value v) w) (hk : K (a.put o.dst v)) : o.quiet Try.prog a C K :=
  ⟨v, fun w _ => by unfold Oper.quietAt; rw [h w]; exact ⟨rfl, rfl⟩, hk⟩
theorem quiet_call {o : Oper} {a : Act} {C : World → Prop} {K : Act → Prop} (f : FuncId) (args : Array Value) (v : Value) (h : ∀ w, (execOp a.eval o).run Try.prog w = .ok (.enter f args) w) (hc : ∀ W, C W → Calls Try.prog f args W fun e w' => e = .returned v ∧ C w') (hk : K (a.put o.dst v)) : o.quiet Try.prog a C K :=
  ⟨v, fun w hw => by unfold Oper.quietAt; rw [h w]; exact ⟨rfl, hc w hw⟩, hk⟩
theorem ld3 {w : World} {ad : Addr} {z : Int} (h : w.cell? ad = some (.int .i64 z)) : (Instr.loadAt 3 (.pointer (some ad))).run Try.prog w = .ok (.int .i64 z) w := by
  simp [go_sem, Instr.loadAt, Instr.sureAddr, h]
theorem ld4 {w : World} {ad : Addr} {z : Bool} (h : w.cell? ad = some (.bool z)) : (Instr.loadAt 4 (.pointer (some ad))).run Try.prog w = .ok (.bool z) w := by
  simp [go_sem, Instr.loadAt, Instr.sureAddr, h]
theorem quiet_ld {o : Oper} {a : Act} {C : World → Prop} {K : Act → Prop} {t : TypeId} {v : Value} {ad : Addr} (x : Operand) (ho : o.op = .load t x) (hx : a.eval x = .pointer (some ad)) (hC : ∀ w, C w → (Instr.loadAt t (.pointer (some ad))).run Try.prog w = .ok v w) (hk : K (a.put o.dst v)) : o.quiet Try.prog a C K := by
  refine ⟨v, fun w hw => ?_, hk⟩
  unfold Oper.quietAt execOp
  simp only [ho, hx, Sem.run_bind, hC w hw, Result.andThen_ok]
  exact ⟨rfl, rfl⟩
/-- Worlds that drew. -/
def DrewC (w W : World) : Prop := ∃ q, W = w.drewN q
theorem drewN_drewN (w : World) (a b : Nat) : (w.drewN a).drewN b = w.drewN (a + b) := by simp [World.drewN, Nat.add_assoc]
theorem DrewC.call {w : World} {f : FuncId} {args : Array Value} {v : Value} (h : ∀ q, Calls Try.prog f args (w.drewN q) fun E w' => E = .returned v ∧ ∃ n, w' = (w.drewN q).drewN n) : ∀ W, DrewC w W → Calls Try.prog f args W fun e w' => e = .returned v ∧ DrewC w w' := by
  rintro W ⟨q, rfl⟩
  refine (h q).mono ?_
  rintro E w' ⟨rfl, n, rfl⟩
  exact ⟨rfl, q + n, drewN_drewN _ _ _⟩
theorem DrewC.same {w : World} {f : FuncId} {args : Array Value} {v : Value} (h : ∀ q, Calls Try.prog f args (w.drewN q) fun E w' => E = .returned v ∧ w' = w.drewN q) : ∀ W, DrewC w W → Calls Try.prog f args W fun e w' => e = .returned v ∧ DrewC w w' := by
  rintro W ⟨q, rfl⟩
  refine (h q).mono ?_
  rintro E w' ⟨rfl, rfl⟩
  exact ⟨rfl, q, rfl⟩
theorem DrewC.cell {w W : World} (h : DrewC w W) {ad : Addr} {v : Value} (hc : w.cell? ad = some v) : W.cell? ad = some v := by obtain ⟨q, rfl⟩ := h; exact hc
theorem ld22 {w : World} {ad : Addr} {a : Option Addr} {n c : Nat} (h : w.cell? ad = some (.slice a n c)) : (Instr.loadAt 22 (.pointer (some ad))).run Try.prog w = .ok (.slice a n c) w := by
  simp [go_sem, Instr.loadAt, Instr.sureAddr, h]
theorem under22q : Try.prog.underlying 22 = some (.slice (Try.prog.elem 22)) := by kernel_rfl
theorem quiet_ix40 {o : Oper} {a : Act} {C : World → Prop} {K : Act → Prop} {gb off n cap : Nat} (x ix : Operand) (ho : o.op = .indexAddr 40 x ix) (i : Nat) (hx : a.eval x = .slice (some ⟨gb, off, none⟩) n cap) (hix : a.eval ix = .int .i64 (i : Int)) (hi : i < n) (hk : K (a.put o.dst (.pointer (some ⟨gb, off + i, none⟩)))) : o.quiet Try.prog a C K := by
  refine ⟨.pointer (some ⟨gb, off + i, none⟩), fun w hw => ?_, hk⟩
  have he : Try.prog.elem 40 = 3 := by kernel_rfl
  have hsz : (sizeOf 3).run Try.prog w = .ok 1 w := by kernel_rfl
  unfold Oper.quietAt execOp
  simp only [ho, hx, hix, Sem.run_bind]
  rw [run_indexAt_slice w 40 ⟨gb, off, none⟩ n cap .i64 (i : Int) under40, he, if_pos ⟨by omega, by omega⟩, hsz]
  simp only [Result.andThen, add_plain, Int.toNat_natCast, Nat.mul_one]
  exact ⟨rfl, rfl⟩
theorem quiet_ix22 {o : Oper} {a : Act} {C : World → Prop} {K : Act → Prop} {gb off n cap : Nat} (x ix : Operand) (ho : o.op = .indexAddr 22 x ix) (i : Nat) (hx : a.eval x = .slice (some ⟨gb, off, none⟩) n cap) (hix : a.eval ix = .int .i64 (i : Int)) (hi : i < n) (hk : K (a.put o.dst (.pointer (some ⟨gb, off + i * 2, none⟩)))) : o.quiet Try.prog a C K := by
  refine ⟨.pointer (some ⟨gb, off + i * 2, none⟩), fun w hw => ?_, hk⟩
  have he : Try.prog.elem 22 = 29 := by kernel_rfl
  have hsz : (sizeOf 29).run Try.prog w = .ok 2 w := by kernel_rfl
  unfold Oper.quietAt execOp
  simp only [ho, hx, hix, Sem.run_bind]
  rw [run_indexAt_slice w 22 ⟨gb, off, none⟩ n cap .i64 (i : Int) under22q, he, if_pos ⟨by omega, by omega⟩, hsz]
  simp only [Result.andThen, add_plain, Int.toNat_natCast]
  exact ⟨rfl, rfl⟩
end Go.Proofs.Ytckiiidigajhpaa
