/-
  sameP of the law.
-/
import Derived.Test.YtbkeilboneaejaaGreatDoorFldA
import Derived.Test.YtbkeilboneaejaaGreatDoorHelp
import Derived.BigGuard
import Derived.BigCall
namespace Go.Proofs.YtbkeilboneaejaaGreatDoor
open Go.ChangeShapes Go.WideShapes Go.ChangeAt Go.RowKit Num
set_option linter.unusedVariables false
set_option maxHeartbeats 4000000
set_option maxRecDepth 100000

theorem wpList_load24r {ops : Array Oper} {rest : List Oper} {o : Oper} {a : Act} {w : World} {Q : Exit → Act → World → Prop} (x : Operand) (ho : o.op = .load 24 x)
    (g k : Nat) (hx : a.eval x = .pointer (some ⟨g, k, none⟩)) (v : Int) (l : List Int) (cs : Array Value) (hcs : cs = csA v l) (hc : w.rangeAt g k (cellsA v l)) (hl : l.length = 16) (hw : Region.wanted o (yielded ops a.tmps) = true) (h : wpList Tryz.prog ops Q rest (a.put o.dst (.agg cs)) w) : wpList Tryz.prog ops Q (o :: rest) a w := by
  subst hcs
  exact wpList_load24m hw x ho g k hx v l hc hl h
theorem wpList_eq24 {ops : Array Oper} {rest : List Oper} {o : Oper} {a : Act} {w : World} {Q : Exit → Act → World → Prop} (x y : Operand) (ho : o.op = .binOp .eql 24 x y 24)
    (c1 c2 : Array Value) (hx : a.eval x = .agg c1) (hy : a.eval y = .agg c2) (b : Bool) (hq : ∀ w, (Op.equalIn 10000 24 (.agg c1) (.agg c2)).run Tryz.prog w = .ok b w) (hw : Region.wanted o (yielded ops a.tmps) = true)
    (h : wpList Tryz.prog ops Q rest (a.put o.dst (.bool b)) w) : wpList Tryz.prog ops Q (o :: rest) a w :=
  BigFrame.wpList_want hw fun K hK => by
    have hg := guard24
    have e : (execOp a.eval o).run Tryz.prog w = .ok (.value (.bool b)) w := by
      unfold execOp
      simp only [ho, hx, hy]
      simp [go_sem, hq, hg]
    unfold Oper.wp
    rw [e, Oper.upon_value]
    exact hK _ _ h
def eqPkB (p q : Pk) : Bool := (decide (p.v = q.v) && (decide (p.tos = q.tos) && (decide (p.flow = q.flow) && ((decide (p.sv = q.sv) && eqL p.sb q.sb) && ((decide (p.dv = q.dv) && eqL p.db q.db) && (decide (p.proto = q.proto) && (decide (p.ttl = q.ttl) && (decide (p.id = q.id) && (decide (p.df = q.df) && (decide (p.more = q.more) && (decide (p.frag = q.frag) && (decide (p.off = q.off) && (decide (p.o = q.o) && decide (p.d = q.d))))))))))))))
theorem eqPk (p q : Pk) : eqPkB p q = (decide (p.v = q.v) && (decide (p.tos = q.tos) && (decide (p.flow = q.flow) && ((decide (p.sv = q.sv) && eqL p.sb q.sb) && ((decide (p.dv = q.dv) && eqL p.db q.db) && (decide (p.proto = q.proto) && (decide (p.ttl = q.ttl) && (decide (p.id = q.id) && (decide (p.df = q.df) && (decide (p.more = q.more) && (decide (p.frag = q.frag) && (decide (p.off = q.off) && (decide (p.o = q.o) && decide (p.d = q.d)))))))))))))) := rfl
theorem eqPkB_self (p : Pk) : eqPkB p p = true := by simp [eqPkB, eqL]
theorem sameP_c (p q : Pk) (ov dv ou du : Value) (w : World) (hp : Pkt w p ov dv) (hq : Pkt w q ou du) :
    Calls Tryz.prog 16 #[.agg (csP p ov dv), .agg (csP q ou du)] w fun E w' => E = .returned (.bool (eqPkB p q)) ∧ Away [] w w' := by
  obtain ⟨z, hz⟩ : ∃ z, z = eqPkB p q := ⟨_, rfl⟩
  rw [← hz]
  rw [eqPk] at hz
  have h24a := eq24 p.sv q.sv p.sb q.sb hp.wf.sl hq.wf.sl
  have h24b := eq24 p.dv q.dv p.db q.db hp.wf.dl hq.wf.dl
  obtain ⟨A1, hA1⟩ : ∃ A, A = csA p.sv p.sb := ⟨_, rfl⟩
  obtain ⟨A2, hA2⟩ : ∃ A, A = csA q.sv q.sb := ⟨_, rfl⟩
  obtain ⟨A3, hA3⟩ : ∃ A, A = csA p.dv p.db := ⟨_, rfl⟩
  obtain ⟨A4, hA4⟩ : ∃ A, A = csA q.dv q.db := ⟨_, rfl⟩
  rw [← hA1, ← hA2] at h24a
  rw [← hA3, ← hA4] at h24b
  have HC1 := Lib.hid hA1; have HC2 := Lib.hid hA2; have HC3 := Lib.hid hA3; have HC4 := Lib.hid hA4
  clear hA1 hA2 hA3 hA4
  have HAP := Lib.hid hp.wf.ad
  have HAQ := Lib.hid hq.wf.ad
  have hl1 := hp.wf.sl; have hl2 := hp.wf.dl; have hl3 := hq.wf.sl; have hl4 := hq.wf.dl
  have KO : Hid (∀ w', Away [] w w' → Calls Tryz.prog 18 #[ov, ou] w' fun E w'' => E = .returned (.bool (decide (p.o = q.o))) ∧ w'' = w') := by
    obtain ⟨a1, c1, rfl, x1, y1, z1⟩ := hp.o
    obtain ⟨a2, c2, rfl, x2, y2, z2⟩ := hq.o
    intro w' h
    exact same_any a1 a2 p.o q.o _ _ c1 c2 w' rfl rfl y1 y2 (z1.away h (by simp)) (z2.away h (by simp))
  have KD : Hid (∀ w', Away [] w w' → Calls Tryz.prog 18 #[dv, du] w' fun E w'' => E = .returned (.bool (decide (p.d = q.d))) ∧ w'' = w') := by
    obtain ⟨a1, c1, rfl, x1, y1, z1⟩ := hp.d
    obtain ⟨a2, c2, rfl, x2, y2, z2⟩ := hq.d
    intro w' h
    exact same_any a1 a2 p.d q.d _ _ c1 c2 w' rfl rfl y1 y2 (z1.away h (by simp)) (z2.away h (by simp))
  obtain ⟨-, ⟨o1, o2, rfl, -⟩, ⟨o3, o4, rfl, -⟩⟩ := hp
  obtain ⟨-, ⟨o5, o6, rfl, -⟩, ⟨o7, o8, rfl, -⟩⟩ := hq
  have HZ := Lib.hid hz
  clear hz
  have ev : (p.v == q.v) = decide (p.v = q.v) := rfl
  have etos : (p.tos == q.tos) = decide (p.tos = q.tos) := rfl
  have eflow : (p.flow == q.flow) = decide (p.flow = q.flow) := rfl
  have eproto : (p.proto == q.proto) = decide (p.proto = q.proto) := rfl
  have ettl : (p.ttl == q.ttl) = decide (p.ttl = q.ttl) := rfl
  have eid : (p.id == q.id) = decide (p.id = q.id) := rfl
  have edf : (p.df == q.df) = decide (p.df = q.df) := by cases p.df <;> cases q.df <;> rfl
  have emore : (p.more == q.more) = decide (p.more = q.more) := by cases p.more <;> cases q.more <;> rfl
  have efrag : (p.frag == q.frag) = decide (p.frag = q.frag) := by cases p.frag <;> cases q.frag <;> rfl
  have eoff : (p.off == q.off) = decide (p.off = q.off) := rfl
  generalize hb1 : decide (p.v = q.v) = b1 at HZ ev
  generalize hb2 : decide (p.tos = q.tos) = b2 at HZ etos
  generalize hb3 : decide (p.flow = q.flow) = b3 at HZ eflow
  generalize hb4 : (decide (p.sv = q.sv) && eqL p.sb q.sb) = b4 at HZ h24a
  clear hb4
  generalize hb5 : (decide (p.dv = q.dv) && eqL p.db q.db) = b5 at HZ h24b
  clear hb5
  generalize hb6 : decide (p.proto = q.proto) = b6 at HZ eproto
  generalize hb7 : decide (p.ttl = q.ttl) = b7 at HZ ettl
  generalize hb8 : decide (p.id = q.id) = b8 at HZ eid
  generalize hb9 : decide (p.df = q.df) = b9 at HZ edf
  generalize hb10 : decide (p.more = q.more) = b10 at HZ emore
  generalize hb11 : decide (p.frag = q.frag) = b11 at HZ efrag
  generalize hb12 : decide (p.off = q.off) = b12 at HZ eoff
  generalize hb13 : decide (p.o = q.o) = b13 at HZ KO
  clear hb13
  generalize hb14 : decide (p.d = q.d) = b14 at HZ KD
  clear hb14
  have H24A := Lib.hid h24a
  have H24B := Lib.hid h24b
  clear h24a h24b
  go_enter Tryz.func16, Tryz.ntmps16
  simp only [List.append_eq, List.cons_append, List.nil_append]
  go_wp2_with (refine wpList_box28 rfl _ rfl p _ _ rfl ?_; refine Hid.out ?_)
  refine Lib.hid ?_
  intro gp w1 hg1 hbp haw1
  go_wp2_with (first | (refine wpList_box28 rfl _ rfl q _ _ rfl ?_; refine Hid.out ?_))
  refine Lib.hid ?_
  intro gq w2 hg2 hbq haw2
  have HBP := Lib.hid (hbp.on haw2)
  have HBQ := Lib.hid hbq
  have HA := Lib.hid (haw1.next haw2 (by simp))
  clear hbp hbq haw1 haw2 hg1 hg2
  have cp := HBP.out.cells HAP.out
  have cq := HBQ.out.cells HAQ.out
  have p_v := cp.v; have q_v := cq.v
  have p_tos := cp.tos; have q_tos := cq.tos
  have p_flow := cp.flow; have q_flow := cq.flow
  have p_proto := cp.proto; have q_proto := cq.proto
  have p_ttl := cp.ttl; have q_ttl := cq.ttl
  have p_id := cp.id; have q_id := cq.id
  have p_df := cp.df; have q_df := cq.df
  have p_more := cp.more; have q_more := cq.more
  have p_frag := cp.frag; have q_frag := cq.frag
  have p_off := cp.off; have q_off := cq.off
  have p_o := cp.o; have q_o := cq.o
  have p_d := cp.d; have q_d := cq.d
  have HR1 := Lib.hid HBP.out.srow
  have HR2 := Lib.hid HBQ.out.srow
  have HR3 := Lib.hid (HBP.out.drow HAP.out)
  have HR4 := Lib.hid (HBQ.out.drow HAQ.out)
  clear cp cq HBP HBQ
  cases b1
  · obtain rfl : z = false := by rw [HZ.out]; rfl
    go_wp2_with fail
    go_ret
    exact ⟨rfl, HA.out⟩
  cases b2
  · obtain rfl : z = false := by rw [HZ.out]; rfl
    go_wp2_with fail
    go_ret
    exact ⟨rfl, HA.out⟩
  cases b3
  · obtain rfl : z = false := by rw [HZ.out]; rfl
    go_wp2_with fail
    go_ret
    exact ⟨rfl, HA.out⟩
  cases b4
  · obtain rfl : z = false := by rw [HZ.out]; rfl
    go_wp2_with (refine wpList_load24r _ rfl gp 3 rfl p.sv p.sb A1 HC1.out (by exact HR1.out) hl1 rfl ?_; refine Hid.out ?_)
    refine Lib.hid ?_
    go_wp2_with (refine wpList_load24r _ rfl gq 3 rfl q.sv q.sb A2 HC2.out (by exact HR2.out) hl3 rfl ?_; refine Hid.out ?_)
    refine Lib.hid ?_
    go_wp2_with (refine wpList_eq24 _ _ rfl A1 A2 rfl rfl _ H24A.out rfl ?_; refine Hid.out ?_)
    refine Lib.hid ?_
    go_wp2_with fail
    go_ret
    exact ⟨rfl, HA.out⟩
  cases b5
  · obtain rfl : z = false := by rw [HZ.out]; rfl
    go_wp2_with (refine wpList_load24r _ rfl gp 3 rfl p.sv p.sb A1 HC1.out (by exact HR1.out) hl1 rfl ?_; refine Hid.out ?_)
    refine Lib.hid ?_
    go_wp2_with (refine wpList_load24r _ rfl gq 3 rfl q.sv q.sb A2 HC2.out (by exact HR2.out) hl3 rfl ?_; refine Hid.out ?_)
    refine Lib.hid ?_
    go_wp2_with (refine wpList_eq24 _ _ rfl A1 A2 rfl rfl _ H24A.out rfl ?_; refine Hid.out ?_)
    refine Lib.hid ?_
    go_wp2_with (refine wpList_load24r _ rfl gp 20 rfl p.dv p.db A3 HC3.out (by exact HR3.out) hl2 rfl ?_; refine Hid.out ?_)
    refine Lib.hid ?_
    go_wp2_with (refine wpList_load24r _ rfl gq 20 rfl q.dv q.db A4 HC4.out (by exact HR4.out) hl4 rfl ?_; refine Hid.out ?_)
    refine Lib.hid ?_
    go_wp2_with (refine wpList_eq24 _ _ rfl A3 A4 rfl rfl _ H24B.out rfl ?_; refine Hid.out ?_)
    refine Lib.hid ?_
    go_wp2_with fail
    go_ret
    exact ⟨rfl, HA.out⟩
  cases b6
  · obtain rfl : z = false := by rw [HZ.out]; rfl
    go_wp2_with (refine wpList_load24r _ rfl gp 3 rfl p.sv p.sb A1 HC1.out (by exact HR1.out) hl1 rfl ?_; refine Hid.out ?_)
    refine Lib.hid ?_
    go_wp2_with (refine wpList_load24r _ rfl gq 3 rfl q.sv q.sb A2 HC2.out (by exact HR2.out) hl3 rfl ?_; refine Hid.out ?_)
    refine Lib.hid ?_
    go_wp2_with (refine wpList_eq24 _ _ rfl A1 A2 rfl rfl _ H24A.out rfl ?_; refine Hid.out ?_)
    refine Lib.hid ?_
    go_wp2_with (refine wpList_load24r _ rfl gp 20 rfl p.dv p.db A3 HC3.out (by exact HR3.out) hl2 rfl ?_; refine Hid.out ?_)
    refine Lib.hid ?_
    go_wp2_with (refine wpList_load24r _ rfl gq 20 rfl q.dv q.db A4 HC4.out (by exact HR4.out) hl4 rfl ?_; refine Hid.out ?_)
    refine Lib.hid ?_
    go_wp2_with (refine wpList_eq24 _ _ rfl A3 A4 rfl rfl _ H24B.out rfl ?_; refine Hid.out ?_)
    refine Lib.hid ?_
    go_wp2_with fail
    go_ret
    exact ⟨rfl, HA.out⟩
  cases b7
  · obtain rfl : z = false := by rw [HZ.out]; rfl
    go_wp2_with (refine wpList_load24r _ rfl gp 3 rfl p.sv p.sb A1 HC1.out (by exact HR1.out) hl1 rfl ?_; refine Hid.out ?_)
    refine Lib.hid ?_
    go_wp2_with (refine wpList_load24r _ rfl gq 3 rfl q.sv q.sb A2 HC2.out (by exact HR2.out) hl3 rfl ?_; refine Hid.out ?_)
    refine Lib.hid ?_
    go_wp2_with (refine wpList_eq24 _ _ rfl A1 A2 rfl rfl _ H24A.out rfl ?_; refine Hid.out ?_)
    refine Lib.hid ?_
    go_wp2_with (refine wpList_load24r _ rfl gp 20 rfl p.dv p.db A3 HC3.out (by exact HR3.out) hl2 rfl ?_; refine Hid.out ?_)
    refine Lib.hid ?_
    go_wp2_with (refine wpList_load24r _ rfl gq 20 rfl q.dv q.db A4 HC4.out (by exact HR4.out) hl4 rfl ?_; refine Hid.out ?_)
    refine Lib.hid ?_
    go_wp2_with (refine wpList_eq24 _ _ rfl A3 A4 rfl rfl _ H24B.out rfl ?_; refine Hid.out ?_)
    refine Lib.hid ?_
    go_wp2_with fail
    go_ret
    exact ⟨rfl, HA.out⟩
  cases b8
  · obtain rfl : z = false := by rw [HZ.out]; rfl
    go_wp2_with (refine wpList_load24r _ rfl gp 3 rfl p.sv p.sb A1 HC1.out (by exact HR1.out) hl1 rfl ?_; refine Hid.out ?_)
    refine Lib.hid ?_
    go_wp2_with (refine wpList_load24r _ rfl gq 3 rfl q.sv q.sb A2 HC2.out (by exact HR2.out) hl3 rfl ?_; refine Hid.out ?_)
    refine Lib.hid ?_
    go_wp2_with (refine wpList_eq24 _ _ rfl A1 A2 rfl rfl _ H24A.out rfl ?_; refine Hid.out ?_)
    refine Lib.hid ?_
    go_wp2_with (refine wpList_load24r _ rfl gp 20 rfl p.dv p.db A3 HC3.out (by exact HR3.out) hl2 rfl ?_; refine Hid.out ?_)
    refine Lib.hid ?_
    go_wp2_with (refine wpList_load24r _ rfl gq 20 rfl q.dv q.db A4 HC4.out (by exact HR4.out) hl4 rfl ?_; refine Hid.out ?_)
    refine Lib.hid ?_
    go_wp2_with (refine wpList_eq24 _ _ rfl A3 A4 rfl rfl _ H24B.out rfl ?_; refine Hid.out ?_)
    refine Lib.hid ?_
    go_wp2_with fail
    go_ret
    exact ⟨rfl, HA.out⟩
  cases b9
  · obtain rfl : z = false := by rw [HZ.out]; rfl
    go_wp2_with (refine wpList_load24r _ rfl gp 3 rfl p.sv p.sb A1 HC1.out (by exact HR1.out) hl1 rfl ?_; refine Hid.out ?_)
    refine Lib.hid ?_
    go_wp2_with (refine wpList_load24r _ rfl gq 3 rfl q.sv q.sb A2 HC2.out (by exact HR2.out) hl3 rfl ?_; refine Hid.out ?_)
    refine Lib.hid ?_
    go_wp2_with (refine wpList_eq24 _ _ rfl A1 A2 rfl rfl _ H24A.out rfl ?_; refine Hid.out ?_)
    refine Lib.hid ?_
    go_wp2_with (refine wpList_load24r _ rfl gp 20 rfl p.dv p.db A3 HC3.out (by exact HR3.out) hl2 rfl ?_; refine Hid.out ?_)
    refine Lib.hid ?_
    go_wp2_with (refine wpList_load24r _ rfl gq 20 rfl q.dv q.db A4 HC4.out (by exact HR4.out) hl4 rfl ?_; refine Hid.out ?_)
    refine Lib.hid ?_
    go_wp2_with (refine wpList_eq24 _ _ rfl A3 A4 rfl rfl _ H24B.out rfl ?_; refine Hid.out ?_)
    refine Lib.hid ?_
    go_wp2_with fail
    go_ret
    exact ⟨rfl, HA.out⟩
  cases b10
  · obtain rfl : z = false := by rw [HZ.out]; rfl
    go_wp2_with (refine wpList_load24r _ rfl gp 3 rfl p.sv p.sb A1 HC1.out (by exact HR1.out) hl1 rfl ?_; refine Hid.out ?_)
    refine Lib.hid ?_
    go_wp2_with (refine wpList_load24r _ rfl gq 3 rfl q.sv q.sb A2 HC2.out (by exact HR2.out) hl3 rfl ?_; refine Hid.out ?_)
    refine Lib.hid ?_
    go_wp2_with (refine wpList_eq24 _ _ rfl A1 A2 rfl rfl _ H24A.out rfl ?_; refine Hid.out ?_)
    refine Lib.hid ?_
    go_wp2_with (refine wpList_load24r _ rfl gp 20 rfl p.dv p.db A3 HC3.out (by exact HR3.out) hl2 rfl ?_; refine Hid.out ?_)
    refine Lib.hid ?_
    go_wp2_with (refine wpList_load24r _ rfl gq 20 rfl q.dv q.db A4 HC4.out (by exact HR4.out) hl4 rfl ?_; refine Hid.out ?_)
    refine Lib.hid ?_
    go_wp2_with (refine wpList_eq24 _ _ rfl A3 A4 rfl rfl _ H24B.out rfl ?_; refine Hid.out ?_)
    refine Lib.hid ?_
    go_wp2_with fail
    go_ret
    exact ⟨rfl, HA.out⟩
  cases b11
  · obtain rfl : z = false := by rw [HZ.out]; rfl
    go_wp2_with (refine wpList_load24r _ rfl gp 3 rfl p.sv p.sb A1 HC1.out (by exact HR1.out) hl1 rfl ?_; refine Hid.out ?_)
    refine Lib.hid ?_
    go_wp2_with (refine wpList_load24r _ rfl gq 3 rfl q.sv q.sb A2 HC2.out (by exact HR2.out) hl3 rfl ?_; refine Hid.out ?_)
    refine Lib.hid ?_
    go_wp2_with (refine wpList_eq24 _ _ rfl A1 A2 rfl rfl _ H24A.out rfl ?_; refine Hid.out ?_)
    refine Lib.hid ?_
    go_wp2_with (refine wpList_load24r _ rfl gp 20 rfl p.dv p.db A3 HC3.out (by exact HR3.out) hl2 rfl ?_; refine Hid.out ?_)
    refine Lib.hid ?_
    go_wp2_with (refine wpList_load24r _ rfl gq 20 rfl q.dv q.db A4 HC4.out (by exact HR4.out) hl4 rfl ?_; refine Hid.out ?_)
    refine Lib.hid ?_
    go_wp2_with (refine wpList_eq24 _ _ rfl A3 A4 rfl rfl _ H24B.out rfl ?_; refine Hid.out ?_)
    refine Lib.hid ?_
    go_wp2_with fail
    go_ret
    exact ⟨rfl, HA.out⟩
  cases b12
  · obtain rfl : z = false := by rw [HZ.out]; rfl
    go_wp2_with (refine wpList_load24r _ rfl gp 3 rfl p.sv p.sb A1 HC1.out (by exact HR1.out) hl1 rfl ?_; refine Hid.out ?_)
    refine Lib.hid ?_
    go_wp2_with (refine wpList_load24r _ rfl gq 3 rfl q.sv q.sb A2 HC2.out (by exact HR2.out) hl3 rfl ?_; refine Hid.out ?_)
    refine Lib.hid ?_
    go_wp2_with (refine wpList_eq24 _ _ rfl A1 A2 rfl rfl _ H24A.out rfl ?_; refine Hid.out ?_)
    refine Lib.hid ?_
    go_wp2_with (refine wpList_load24r _ rfl gp 20 rfl p.dv p.db A3 HC3.out (by exact HR3.out) hl2 rfl ?_; refine Hid.out ?_)
    refine Lib.hid ?_
    go_wp2_with (refine wpList_load24r _ rfl gq 20 rfl q.dv q.db A4 HC4.out (by exact HR4.out) hl4 rfl ?_; refine Hid.out ?_)
    refine Lib.hid ?_
    go_wp2_with (refine wpList_eq24 _ _ rfl A3 A4 rfl rfl _ H24B.out rfl ?_; refine Hid.out ?_)
    refine Lib.hid ?_
    go_wp2_with fail
    go_ret
    exact ⟨rfl, HA.out⟩
  go_wp2_with (refine wpList_load24r _ rfl gp 3 rfl p.sv p.sb A1 HC1.out (by exact HR1.out) hl1 rfl ?_; refine Hid.out ?_)
  refine Lib.hid ?_
  go_wp2_with (refine wpList_load24r _ rfl gq 3 rfl q.sv q.sb A2 HC2.out (by exact HR2.out) hl3 rfl ?_; refine Hid.out ?_)
  refine Lib.hid ?_
  go_wp2_with (refine wpList_eq24 _ _ rfl A1 A2 rfl rfl _ H24A.out rfl ?_; refine Hid.out ?_)
  refine Lib.hid ?_
  go_wp2_with (refine wpList_load24r _ rfl gp 20 rfl p.dv p.db A3 HC3.out (by exact HR3.out) hl2 rfl ?_; refine Hid.out ?_)
  refine Lib.hid ?_
  go_wp2_with (refine wpList_load24r _ rfl gq 20 rfl q.dv q.db A4 HC4.out (by exact HR4.out) hl4 rfl ?_; refine Hid.out ?_)
  refine Lib.hid ?_
  go_wp2_with (refine wpList_eq24 _ _ rfl A3 A4 rfl rfl _ H24B.out rfl ?_; refine Hid.out ?_)
  refine Lib.hid ?_
  go_wp2_with fail
  refine (KO.out _ HA.out).mono ?_
  rintro E w' ⟨rfl, rfl⟩
  cases b13
  · obtain rfl : z = false := by rw [HZ.out]; rfl
    go_wp2_with fail
    go_ret
    exact ⟨rfl, HA.out⟩
  go_wp2_with fail
  refine (KD.out _ HA.out).mono ?_
  rintro E w' ⟨rfl, rfl⟩
  obtain rfl : z = b14 := by rw [HZ.out]; rfl
  go_wp2_with fail
  go_ret
  exact ⟨rfl, HA.out⟩
theorem sameP_yes (p q : Pk) (ov dv ou du : Value) (w : World) (hp : Pkt w p ov dv) (hq : Pkt w q ou du) (h : p = q) :
    Calls Tryz.prog 16 #[.agg (csP p ov dv), .agg (csP q ou du)] w fun E w' => E = .returned (.bool true) ∧ Away [] w w' := by
  subst h
  have := sameP_c p p ov dv ou du w hp hq
  rwa [eqPkB_self] at this
#print axioms sameP_c
end Go.Proofs.YtbkeilboneaejaaGreatDoor
