/-
  Steps that the laws share.
-/
import Derived.Test.YtbgpjhekohabiaaDoorSameP
import Derived.Test.YtbgpjhekohabiaaDoorBuild
import Derived.Test.YtbgpjhekohabiaaDoorParse
import Derived.Test.YtbgpjhekohabiaaDoorHelp
import Derived.Deep.DeepHandedRow
import Derived.Deep.Slices
import Derived.Lib.LaidTab
namespace Go.Proofs.YtbgpjhekohabiaaDoor
open Go.ChangeShapes Go.WideShapes Go.ChangeAt Go.RowKit Go.Deep Num
set_option linter.unusedVariables false
set_option maxHeartbeats 4000000
set_option maxRecDepth 100000

theorem Away.on {a b c : World} (h : Away [] a b) (k : Away [] b c) : Away [] a c := h.next k (by simp)
theorem Row.on {w w' : World} {a : Option Addr} {l : List Int} (h : Row w a l) (hw : Away [] w w') : Row w' a l := h.away hw (by simp)
theorem Owns.on {w w' : World} {v : Value} {l : List Int} (h : Owns w v l) (hw : Away [] w w') : Owns w' v l := h.away hw (by simp)
/-- A variable of its own for a packet. -/
theorem wpList_new28 {ops : Array Oper} {rest : List Oper} {o o2 : Oper} {a : Act} {w : World} {Q : Exit → Act → World → Prop} (hg : o.guard = none) (ho : o.op = .alloc 32) (hg2 : o2.guard = none) (x y : Operand) (ho2 : o2.op = .store 32 x y)
    (p : Pk) (ov dv : Value) (hx : ∀ g, (a.put o.dst (.pointer (some ⟨g, 0, none⟩))).eval x = .pointer (some ⟨g, 0, none⟩)) (hy : ∀ g, (a.put o.dst (.pointer (some ⟨g, 0, none⟩))).eval y = .agg (csP p ov dv)) (ha : Ad p) (h1 : ov.oneCell' = true) (h2 : dv.oneCell' = true)
    (h : ∀ g w1, w.heap.size ≤ g → BoxP w1 g p ov dv → Away [] w w1 → wpList Tryd.prog ops Q rest ((a.put o.dst (.pointer (some ⟨g, 0, none⟩))).put o2.dst undef) w1) : wpList Tryd.prog ops Q (o :: o2 :: rest) a w :=
  wpList_alloc28 hg ho fun g w1 hg1 hb1 ha1 => wpList_store28 (by simp [Region.wanted, hg2]) x y ho2 g (hx g) p ov dv (hy g) zeroPk _ _ hb1 ha ⟨rfl, rfl⟩ h1 h2 fun w2 hb2 ha2 => h g w2 hg1 hb2 (ha1.next ha2 (fun x hx => .inr (by simp at hx; omega)))
theorem zero_wf : Wf zeroPk := by
  have hz : Bytes z16 := by unfold Bytes z16; decide
  exact ⟨by simp [zeroPk, i64ok], by simp [zeroPk, i64ok], by simp [zeroPk, i64ok], by simp [zeroPk, i64ok], rfl, hz, by simp [zeroPk, i64ok], rfl, hz, by simp [zeroPk, i64ok], by simp [zeroPk, i64ok], by simp [zeroPk], by simp [zeroPk], by simp [zeroPk, i64ok], Bytes.nil, by simp [zeroPk], Bytes.nil, by simp [zeroPk]⟩
theorem parse4_wf {b : List Int} (hb : Bytes b) (hn : b.length ≤ 140737488355328) : Wf (parse4 b).1 := by
  by_cases h : (parse4 b).2 = 0
  · exact (lay_parse4 hb hn (p := (parse4 b).1) (by rw [← h])).1
  · rw [parse4_no h]; exact zero_wf
theorem Pkt.zero (w : World) : Pkt w zeroPk (.slice none 0 0) (.slice none 0 0) := ⟨zero_wf, Sl.nil _, Sl.nil _⟩
theorem lay4_bd {p : Pk} (hw : Wf p) (hr : rightP p = true) : Bytes (lay4 p) ∧ (lay4 p).length ≤ 65535 ∧ (lay4 p).length = 20 + p.o.length + p.d.length := by
  obtain ⟨hf, hv⟩ := (right_iff p).1 hr
  have := lay4_len hw
  have := hf.all
  exact ⟨lay4_bytes hw hf (valid_len hv).1, by omega, by omega⟩
theorem Pkt.ov {w : World} {p : Pk} {ov dv : Value} (h : Pkt w p ov dv) : ov.oneCell' = true := h.o.one
theorem Pkt.dv {w : World} {p : Pk} {ov dv : Value} (h : Pkt w p ov dv) : dv.oneCell' = true := h.d.one
theorem pkt_of {w : World} {p : Pk} {ov dv : Value} (hw : Wf p) (ho : Owns w ov p.o) (hd : Owns w dv p.d) : Pkt w p ov dv := ⟨hw, ho.sl hw.o hw.ol, hd.sl hw.d hw.dn⟩
#print axioms parse4_wf
end Go.Proofs.YtbgpjhekohabiaaDoor
