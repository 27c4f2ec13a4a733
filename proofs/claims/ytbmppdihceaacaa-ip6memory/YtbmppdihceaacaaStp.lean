/-
  Steps that the laws share.
-/
import Derived.Test.YtbmppdihceaacaaKit
import Derived.Test.YtbmppdihceaacaaPiece
namespace Go.Proofs.Ytbmppdihceaacaa
open Go.ChangeShapes Go.WideShapes Go.ChangeAt Go.RowKit Go.Deep Num
set_option linter.unusedVariables false
set_option maxHeartbeats 4000000
set_option maxRecDepth 100000

theorem Away.on {a b c : World} (h : Away [] a b) (k : Away [] b c) : Away [] a c := h.next k (by simp)
theorem Row.on {w w' : World} {a : Option Addr} {l : List Int} (h : Row w a l) (hw : Away [] w w') : Row w' a l := h.away hw (by simp)
theorem Owns.on {w w' : World} {v : Value} {l : List Int} (h : Owns w v l) (hw : Away [] w w') : Owns w' v l := h.away hw (by simp)
/-- A variable of its own for a packet. -/
theorem wpList_new28 {ops : Array Oper} {rest : List Oper} {o o2 : Oper} {a : Act} {w : World} {Q : Exit → Act → World → Prop} (hg : o.guard = none) (ho : o.op = .alloc 28) (hg2 : o2.guard = none) (x y : Operand) (ho2 : o2.op = .store 28 x y)
    (p : Pk) (ov dv : Value) (hx : ∀ g, (a.put o.dst (.pointer (some ⟨g, 0, none⟩))).eval x = .pointer (some ⟨g, 0, none⟩)) (hy : ∀ g, (a.put o.dst (.pointer (some ⟨g, 0, none⟩))).eval y = .agg (csP p ov dv)) (ha : Ad p) (h1 : ov.oneCell' = true) (h2 : dv.oneCell' = true)
    (h : ∀ g w1, w.heap.size ≤ g → BoxP w1 g p ov dv → Away [] w w1 → wpList Try.prog ops Q rest ((a.put o.dst (.pointer (some ⟨g, 0, none⟩))).put o2.dst undef) w1) : wpList Try.prog ops Q (o :: o2 :: rest) a w :=
  wpList_alloc28 hg ho fun g w1 hg1 hb1 ha1 => wpList_store28 (by simp [Region.wanted, hg2]) x y ho2 g (hx g) p ov dv (hy g) zeroPk _ _ hb1 ha ⟨rfl, rfl⟩ h1 h2 fun w2 hb2 ha2 => h g w2 hg1 hb2 (ha1.next ha2 (fun x hx => .inr (by simp at hx; omega)))
theorem Pkt.zero (w : World) : Pkt w zeroPk (.slice none 0 0) (.slice none 0 0) := ⟨zero_wf, Sl.nil _, Sl.nil _⟩
theorem Pkt.ov {w : World} {p : Pk} {ov dv : Value} (h : Pkt w p ov dv) : ov.oneCell' = true := h.o.one
theorem Pkt.dv {w : World} {p : Pk} {ov dv : Value} (h : Pkt w p ov dv) : dv.oneCell' = true := h.d.one
theorem pkt_of {w : World} {p : Pk} {ov dv : Value} (hw : Wf p) (ho : Owns w ov p.o) (hd : Owns w dv p.d) : Pkt w p ov dv := ⟨hw, ho.sl hw.o hw.ol, hd.sl hw.d hw.dn⟩
#print axioms pkt_of
theorem Mine.wfp {w : World} {B : Nat} {p : Pk} {ov dv : Value} (h : Mine w B p ov dv) (hw : Wf p) : Pkt w p ov dv := h.pkt hw
theorem Mine.ov {w : World} {B : Nat} {p : Pk} {ov dv : Value} (h : Mine w B p ov dv) : ov.oneCell' = true := by obtain ⟨a, c, rfl, _⟩ := h.o.slc; rfl
theorem Mine.dv {w : World} {B : Nat} {p : Pk} {ov dv : Value} (h : Mine w B p ov dv) : dv.oneCell' = true := by obtain ⟨a, c, rfl, _⟩ := h.d.slc; rfl
theorem lay6_fit {p : Pk} (hw : Wf p) : Bytes (lay6 (fitP p)) ∧ (lay6 (fitP p)).length ≤ 65575 ∧ 40 ≤ (lay6 (fitP p)).length := lay6_bd (fit_wf hw) ((right_iff _).1 (right_fit p))
end Go.Proofs.Ytbmppdihceaacaa
