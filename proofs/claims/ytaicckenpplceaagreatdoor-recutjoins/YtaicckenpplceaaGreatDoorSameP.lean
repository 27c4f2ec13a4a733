/-
  sameP of the law.
-/
import Derived.Test.YtaicckenpplceaaGreatDoorRgt
import Derived.Test.YtaicckenpplceaaGreatDoorHelp
import Derived.BigGuard
import Derived.BigCall
namespace Go.Proofs.YtaicckenpplceaaGreatDoor
open Go.ChangeShapes Go.WideShapes Go.ChangeAt Go.RowKit Num
set_option linter.unusedVariables false
set_option maxHeartbeats 4000000
set_option maxRecDepth 100000

theorem wpList_load24r {ops : Array Oper} {rest : List Oper} {o : Oper} {a : Act} {w : World} {Q : Exit → Act → World → Prop} (x : Operand) (ho : o.op = .load 25 x)
    (g k : Nat) (hx : a.eval x = .pointer (some ⟨g, k, none⟩)) (v : Int) (l : List Int) (cs : Array Value) (hcs : cs = csA v l) (hc : w.rangeAt g k (cellsA v l)) (hl : l.length = 16) (hw : Region.wanted o (yielded ops a.tmps) = true) (h : wpList Tryz.prog ops Q rest (a.put o.dst (.agg cs)) w) : wpList Tryz.prog ops Q (o :: rest) a w := by
  subst hcs
  exact wpList_load24m hw x ho g k hx v l hc hl h
theorem wpList_eq24 {ops : Array Oper} {rest : List Oper} {o : Oper} {a : Act} {w : World} {Q : Exit → Act → World → Prop} (x y : Operand) (ho : o.op = .binOp .eql 25 x y 25)
    (c1 c2 : Array Value) (hx : a.eval x = .agg c1) (hy : a.eval y = .agg c2) (b : Bool) (hq : ∀ w, (Op.equalIn 10000 25 (.agg c1) (.agg c2)).run Tryz.prog w = .ok b w) (hw : Region.wanted o (yielded ops a.tmps) = true)
    (h : wpList Tryz.prog ops Q rest (a.put o.dst (.bool b)) w) : wpList Tryz.prog ops Q (o :: rest) a w :=
  BigFrame.wpList_want hw fun K hK => by
    have hg := guard24
    have e : (execOp a.eval o).run Tryz.prog w = .ok (.value (.bool b)) w := by
      unfold execOp
      simp only [ho, hx, hy]
      simp [go_sem, hq, hg]
    unfold Oper.wp
    rw [e, Oper.upon_value]
    exact hK _ _ h
theorem eqPk (p q : Pk) : dP p q = (decide (p.v = q.v) && (decide (p.tos = q.tos) && (decide (p.flow = q.flow) && ((decide (p.sv = q.sv) && eqL p.sb q.sb) && ((decide (p.dv = q.dv) && eqL p.db q.db) && (decide (p.proto = q.proto) && (decide (p.ttl = q.ttl) && (decide (p.id = q.id) && (decide (p.df = q.df) && (decide (p.more = q.more) && (decide (p.frag = q.frag) && (decide (p.off = q.off) && (decide (p.o = q.o) && decide (p.d = q.d)))))))))))))) := by
  rw [Bool.eq_iff_iff]
  simp only [Bool.and_eq_true, decide_eq_true_eq, eqL]
  cases p; cases q
  simp only [Pk.mk.injEq]
  simp only [and_assoc]
end Go.Proofs.YtaicckenpplceaaGreatDoor
