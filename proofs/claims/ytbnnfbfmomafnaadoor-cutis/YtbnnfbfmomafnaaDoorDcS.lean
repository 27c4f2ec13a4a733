/-
  The document: Is.
-/
import Derived.Test.YtbnnfbfmomafnaaDoorSameP
import Derived.Test.YtbnnfbfmomafnaaDoorQ32
import Derived.Test.YtbnnfbfmomafnaaDoorIp
import Derived.Deep.CutBlock
import Derived.Deep.DeepCutAuto
namespace Go.Proofs.YtbnnfbfmomafnaaDoor
open Go.ChangeShapes Go.WideShapes Go.ChangeAt Go.RowKit Num
set_option linter.unusedVariables false
set_option maxHeartbeats 4000000
set_option maxRecDepth 100000

set_option maxHeartbeats 400000 in
theorem rsame_any (a b : Option Addr) (l m : List Int) (n k cap cap' : Nat) (w : World) (hn : l.length = n) (hk : m.length = k) (ha : a = none → cap = 0) (hb : b = none → cap' = 0) (hr : Row w a l) (hs : Row w b m) :
    Calls Tryd.prog 69 #[.slice a n cap, .slice b k cap'] w fun E w' => E = .returned (.bool (decide (l = m))) ∧ w' = w := by
  subst hn; subst hk
  have s1 := conv_any w a l cap hr ha
  have s2 := conv_any w b m cap' hs hb
  have hq := bstr_eq l m hr.2.1 hs.2.1
  generalize bstr l = x at *
  generalize bstr m = y at *
  generalize decide (l = m) = z at *
  clear hr hs ha hb
  go_enter Tryd.func69, Tryd.ntmps69
  go_wp2
  go_ret
  exact ⟨rfl, rfl⟩
theorem rsame_c (p q : Pk) (ov dv ou du : Value) (w : World) (hp : Pkt w p ov dv) (hq : Pkt w q ou du) :
    Calls Tryd.prog 52 #[.agg (csP p ov dv), .agg (csP q ou du)] w fun E w' => E = .returned (.bool (dP p q)) ∧ Away [] w w' := by
  obtain ⟨z, hz⟩ : ∃ z, z = dP p q := ⟨_, rfl⟩
  rw [← hz]
  rw [eqPk] at hz
  have h24a := eq24 p.sv q.sv p.sb q.sb hp.wf.sl hq.wf.sl
  have h24b := eq24 p.dv q.dv p.db q.db hp.wf.dl hq.wf.dl
  obtain ⟨A1, hA1⟩ : ∃ A, A = csA p.sv p.sb := ⟨_, rfl⟩
  obtain ⟨A2, hA2⟩ : ∃ A, A = csA q.sv q.sb := ⟨_, rfl⟩
  obtain ⟨A3, hA3⟩ : ∃ A, A = csA p.dv p.db := ⟨_, rfl⟩
  obtain ⟨A4, hA4⟩ : ∃ A, A = csA q.dv q.db := ⟨_, rfl⟩
  rw [← hA1, ← hA2] at h24a
  rw [← hA3, ← hA4] at h24b
  have HC1 := Lib.hid hA1; have HC2 := Lib.hid hA2; have HC3 := Lib.hid hA3; have HC4 := Lib.hid hA4
  clear hA1 hA2 hA3 hA4
  have HAP := Lib.hid hp.wf.ad
  have HAQ := Lib.hid hq.wf.ad
  have hl1 := hp.wf.sl; have hl2 := hp.wf.dl; have hl3 := hq.wf.sl; have hl4 := hq.wf.dl
  have KO : Hid (∀ w', Away [] w w' → Calls Tryd.prog 69 #[ov, ou] w' fun E w'' => E = .returned (.bool (decide (p.o = q.o))) ∧ w'' = w') := by
    obtain ⟨a1, c1, rfl, x1, y1, z1⟩ := hp.o
    obtain ⟨a2, c2, rfl, x2, y2, z2⟩ := hq.o
    intro w' h
    exact rsame_any a1 a2 p.o q.o _ _ c1 c2 w' rfl rfl y1 y2 (z1.away h (by simp)) (z2.away h (by simp))
  have KD : Hid (∀ w', Away [] w w' → Calls Tryd.prog 69 #[dv, du] w' fun E w'' => E = .returned (.bool (decide (p.d = q.d))) ∧ w'' = w') := by
    obtain ⟨a1, c1, rfl, x1, y1, z1⟩ := hp.d
    obtain ⟨a2, c2, rfl, x2, y2, z2⟩ := hq.d
    intro w' h
    exact rsame_any a1 a2 p.d q.d _ _ c1 c2 w' rfl rfl y1 y2 (z1.away h (by simp)) (z2.away h (by simp))
  obtain ⟨-, ⟨o1, o2, rfl, -⟩, ⟨o3, o4, rfl, -⟩⟩ := hp
  obtain ⟨-, ⟨o5, o6, rfl, -⟩, ⟨o7, o8, rfl, -⟩⟩ := hq
  have HZ := Lib.hid hz
  clear hz
  have ev : (p.v == q.v) = decide (p.v = q.v) := rfl
  have etos : (p.tos == q.tos) = decide (p.tos = q.tos) := rfl
  have eflow : (p.flow == q.flow) = decide (p.flow = q.flow) := rfl
  have eproto : (p.proto == q.proto) = decide (p.proto = q.proto) := rfl
  have ettl : (p.ttl == q.ttl) = decide (p.ttl = q.ttl) := rfl
  have eid : (p.id == q.id) = decide (p.id = q.id) := rfl
  have edf : (p.df == q.df) = decide (p.df = q.df) := by cases p.df <;> cases q.df <;> rfl
  have emore : (p.more == q.more) = decide (p.more = q.more) := by cases p.more <;> cases q.more <;> rfl
  have efrag : (p.frag == q.frag) = decide (p.frag = q.frag) := by cases p.frag <;> cases q.frag <;> rfl
  have eoff : (p.off == q.off) = decide (p.off = q.off) := rfl
  generalize hb1 : decide (p.v = q.v) = b1 at HZ ev
  generalize hb2 : decide (p.tos = q.tos) = b2 at HZ etos
  generalize hb3 : decide (p.flow = q.flow) = b3 at HZ eflow
  generalize hb4 : (decide (p.sv = q.sv) && eqL p.sb q.sb) = b4 at HZ h24a
  clear hb4
  generalize hb5 : (decide (p.dv = q.dv) && eqL p.db q.db) = b5 at HZ h24b
  clear hb5
  generalize hb6 : decide (p.proto = q.proto) = b6 at HZ eproto
  generalize hb7 : decide (p.ttl = q.ttl) = b7 at HZ ettl
  generalize hb8 : decide (p.id = q.id) = b8 at HZ eid
  generalize hb9 : decide (p.df = q.df) = b9 at HZ edf
  generalize hb10 : decide (p.more = q.more) = b10 at HZ emore
  generalize hb11 : decide (p.frag = q.frag) = b11 at HZ efrag
  generalize hb12 : decide (p.off = q.off) = b12 at HZ eoff
  generalize hb13 : decide (p.o = q.o) = b13 at HZ KO
  clear hb13
  generalize hb14 : decide (p.d = q.d) = b14 at HZ KD
  clear hb14
  have H24A := Lib.hid h24a
  have H24B := Lib.hid h24b
  clear h24a h24b
  go_enter Tryd.func52, Tryd.ntmps52
  simp only [List.append_eq, List.cons_append, List.nil_append]
  go_wp2_with (refine wpList_box28 rfl _ rfl p _ _ rfl ?_; refine Hid.out ?_)
  refine Lib.hid ?_
  intro gp w1 hg1 hbp haw1
  go_wp2_with (first | (refine wpList_box28 rfl _ rfl q _ _ rfl ?_; refine Hid.out ?_))
  refine Lib.hid ?_
  intro gq w2 hg2 hbq haw2
  have HBP := Lib.hid (hbp.on haw2)
  have HBQ := Lib.hid hbq
  have HA := Lib.hid (haw1.next haw2 (by simp))
  clear hbp hbq haw1 haw2 hg1 hg2
  have cp := HBP.out.cells HAP.out
  have cq := HBQ.out.cells HAQ.out
  have p_v := cp.v; have q_v := cq.v
  have p_tos := cp.tos; have q_tos := cq.tos
  have p_flow := cp.flow; have q_flow := cq.flow
  have p_proto := cp.proto; have q_proto := cq.proto
  have p_ttl := cp.ttl; have q_ttl := cq.ttl
  have p_id := cp.id; have q_id := cq.id
  have p_df := cp.df; have q_df := cq.df
  have p_more := cp.more; have q_more := cq.more
  have p_frag := cp.frag; have q_frag := cq.frag
  have p_off := cp.off; have q_off := cq.off
  have p_o := cp.o; have q_o := cq.o
  have p_d := cp.d; have q_d := cq.d
  have HR1 := Lib.hid HBP.out.srow
  have HR2 := Lib.hid HBQ.out.srow
  have HR3 := Lib.hid (HBP.out.drow HAP.out)
  have HR4 := Lib.hid (HBQ.out.drow HAQ.out)
  clear cp cq HBP HBQ
  cases b1
  · obtain rfl : z = false := by rw [HZ.out]; rfl
    go_wp2_with fail
    go_ret
    exact ⟨rfl, HA.out⟩
  cases b2
  · obtain rfl : z = false := by rw [HZ.out]; rfl
    go_wp2_with fail
    go_ret
    exact ⟨rfl, HA.out⟩
  cases b3
  · obtain rfl : z = false := by rw [HZ.out]; rfl
    go_wp2_with fail
    go_ret
    exact ⟨rfl, HA.out⟩
  cases b4
  · obtain rfl : z = false := by rw [HZ.out]; rfl
    go_wp2_with (refine wpList_load24r _ rfl gp 3 rfl p.sv p.sb A1 HC1.out (by exact HR1.out) hl1 rfl ?_; refine Hid.out ?_)
    refine Lib.hid ?_
    go_wp2_with (refine wpList_load24r _ rfl gq 3 rfl q.sv q.sb A2 HC2.out (by exact HR2.out) hl3 rfl ?_; refine Hid.out ?_)
    refine Lib.hid ?_
    go_wp2_with (refine wpList_eq24 _ _ rfl A1 A2 rfl rfl _ H24A.out rfl ?_; refine Hid.out ?_)
    refine Lib.hid ?_
    go_wp2_with fail
    go_ret
    exact ⟨rfl, HA.out⟩
  cases b5
  · obtain rfl : z = false := by rw [HZ.out]; rfl
    go_wp2_with (refine wpList_load24r _ rfl gp 3 rfl p.sv p.sb A1 HC1.out (by exact HR1.out) hl1 rfl ?_; refine Hid.out ?_)
    refine Lib.hid ?_
    go_wp2_with (refine wpList_load24r _ rfl gq 3 rfl q.sv q.sb A2 HC2.out (by exact HR2.out) hl3 rfl ?_; refine Hid.out ?_)
    refine Lib.hid ?_
    go_wp2_with (refine wpList_eq24 _ _ rfl A1 A2 rfl rfl _ H24A.out rfl ?_; refine Hid.out ?_)
    refine Lib.hid ?_
    go_wp2_with (refine wpList_load24r _ rfl gp 20 rfl p.dv p.db A3 HC3.out (by exact HR3.out) hl2 rfl ?_; refine Hid.out ?_)
    refine Lib.hid ?_
    go_wp2_with (refine wpList_load24r _ rfl gq 20 rfl q.dv q.db A4 HC4.out (by exact HR4.out) hl4 rfl ?_; refine Hid.out ?_)
    refine Lib.hid ?_
    go_wp2_with (refine wpList_eq24 _ _ rfl A3 A4 rfl rfl _ H24B.out rfl ?_; refine Hid.out ?_)
    refine Lib.hid ?_
    go_wp2_with fail
    go_ret
    exact ⟨rfl, HA.out⟩
  cases b6
  · obtain rfl : z = false := by rw [HZ.out]; rfl
    go_wp2_with (refine wpList_load24r _ rfl gp 3 rfl p.sv p.sb A1 HC1.out (by exact HR1.out) hl1 rfl ?_; refine Hid.out ?_)
    refine Lib.hid ?_
    go_wp2_with (refine wpList_load24r _ rfl gq 3 rfl q.sv q.sb A2 HC2.out (by exact HR2.out) hl3 rfl ?_; refine Hid.out ?_)
    refine Lib.hid ?_
    go_wp2_with (refine wpList_eq24 _ _ rfl A1 A2 rfl rfl _ H24A.out rfl ?_; refine Hid.out ?_)
    refine Lib.hid ?_
    go_wp2_with (refine wpList_load24r _ rfl gp 20 rfl p.dv p.db A3 HC3.out (by exact HR3.out) hl2 rfl ?_; refine Hid.out ?_)
    refine Lib.hid ?_
    go_wp2_with (refine wpList_load24r _ rfl gq 20 rfl q.dv q.db A4 HC4.out (by exact HR4.out) hl4 rfl ?_; refine Hid.out ?_)
    refine Lib.hid ?_
    go_wp2_with (refine wpList_eq24 _ _ rfl A3 A4 rfl rfl _ H24B.out rfl ?_; refine Hid.out ?_)
    refine Lib.hid ?_
    go_wp2_with fail
    go_ret
    exact ⟨rfl, HA.out⟩
  cases b7
  · obtain rfl : z = false := by rw [HZ.out]; rfl
    go_wp2_with (refine wpList_load24r _ rfl gp 3 rfl p.sv p.sb A1 HC1.out (by exact HR1.out) hl1 rfl ?_; refine Hid.out ?_)
    refine Lib.hid ?_
    go_wp2_with (refine wpList_load24r _ rfl gq 3 rfl q.sv q.sb A2 HC2.out (by exact HR2.out) hl3 rfl ?_; refine Hid.out ?_)
    refine Lib.hid ?_
    go_wp2_with (refine wpList_eq24 _ _ rfl A1 A2 rfl rfl _ H24A.out rfl ?_; refine Hid.out ?_)
    refine Lib.hid ?_
    go_wp2_with (refine wpList_load24r _ rfl gp 20 rfl p.dv p.db A3 HC3.out (by exact HR3.out) hl2 rfl ?_; refine Hid.out ?_)
    refine Lib.hid ?_
    go_wp2_with (refine wpList_load24r _ rfl gq 20 rfl q.dv q.db A4 HC4.out (by exact HR4.out) hl4 rfl ?_; refine Hid.out ?_)
    refine Lib.hid ?_
    go_wp2_with (refine wpList_eq24 _ _ rfl A3 A4 rfl rfl _ H24B.out rfl ?_; refine Hid.out ?_)
    refine Lib.hid ?_
    go_wp2_with fail
    go_ret
    exact ⟨rfl, HA.out⟩
  cases b8
  · obtain rfl : z = false := by rw [HZ.out]; rfl
    go_wp2_with (refine wpList_load24r _ rfl gp 3 rfl p.sv p.sb A1 HC1.out (by exact HR1.out) hl1 rfl ?_; refine Hid.out ?_)
    refine Lib.hid ?_
    go_wp2_with (refine wpList_load24r _ rfl gq 3 rfl q.sv q.sb A2 HC2.out (by exact HR2.out) hl3 rfl ?_; refine Hid.out ?_)
    refine Lib.hid ?_
    go_wp2_with (refine wpList_eq24 _ _ rfl A1 A2 rfl rfl _ H24A.out rfl ?_; refine Hid.out ?_)
    refine Lib.hid ?_
    go_wp2_with (refine wpList_load24r _ rfl gp 20 rfl p.dv p.db A3 HC3.out (by exact HR3.out) hl2 rfl ?_; refine Hid.out ?_)
    refine Lib.hid ?_
    go_wp2_with (refine wpList_load24r _ rfl gq 20 rfl q.dv q.db A4 HC4.out (by exact HR4.out) hl4 rfl ?_; refine Hid.out ?_)
    refine Lib.hid ?_
    go_wp2_with (refine wpList_eq24 _ _ rfl A3 A4 rfl rfl _ H24B.out rfl ?_; refine Hid.out ?_)
    refine Lib.hid ?_
    go_wp2_with fail
    go_ret
    exact ⟨rfl, HA.out⟩
  cases b9
  · obtain rfl : z = false := by rw [HZ.out]; rfl
    go_wp2_with (refine wpList_load24r _ rfl gp 3 rfl p.sv p.sb A1 HC1.out (by exact HR1.out) hl1 rfl ?_; refine Hid.out ?_)
    refine Lib.hid ?_
    go_wp2_with (refine wpList_load24r _ rfl gq 3 rfl q.sv q.sb A2 HC2.out (by exact HR2.out) hl3 rfl ?_; refine Hid.out ?_)
    refine Lib.hid ?_
    go_wp2_with (refine wpList_eq24 _ _ rfl A1 A2 rfl rfl _ H24A.out rfl ?_; refine Hid.out ?_)
    refine Lib.hid ?_
    go_wp2_with (refine wpList_load24r _ rfl gp 20 rfl p.dv p.db A3 HC3.out (by exact HR3.out) hl2 rfl ?_; refine Hid.out ?_)
    refine Lib.hid ?_
    go_wp2_with (refine wpList_load24r _ rfl gq 20 rfl q.dv q.db A4 HC4.out (by exact HR4.out) hl4 rfl ?_; refine Hid.out ?_)
    refine Lib.hid ?_
    go_wp2_with (refine wpList_eq24 _ _ rfl A3 A4 rfl rfl _ H24B.out rfl ?_; refine Hid.out ?_)
    refine Lib.hid ?_
    go_wp2_with fail
    go_ret
    exact ⟨rfl, HA.out⟩
  cases b10
  · obtain rfl : z = false := by rw [HZ.out]; rfl
    go_wp2_with (refine wpList_load24r _ rfl gp 3 rfl p.sv p.sb A1 HC1.out (by exact HR1.out) hl1 rfl ?_; refine Hid.out ?_)
    refine Lib.hid ?_
    go_wp2_with (refine wpList_load24r _ rfl gq 3 rfl q.sv q.sb A2 HC2.out (by exact HR2.out) hl3 rfl ?_; refine Hid.out ?_)
    refine Lib.hid ?_
    go_wp2_with (refine wpList_eq24 _ _ rfl A1 A2 rfl rfl _ H24A.out rfl ?_; refine Hid.out ?_)
    refine Lib.hid ?_
    go_wp2_with (refine wpList_load24r _ rfl gp 20 rfl p.dv p.db A3 HC3.out (by exact HR3.out) hl2 rfl ?_; refine Hid.out ?_)
    refine Lib.hid ?_
    go_wp2_with (refine wpList_load24r _ rfl gq 20 rfl q.dv q.db A4 HC4.out (by exact HR4.out) hl4 rfl ?_; refine Hid.out ?_)
    refine Lib.hid ?_
    go_wp2_with (refine wpList_eq24 _ _ rfl A3 A4 rfl rfl _ H24B.out rfl ?_; refine Hid.out ?_)
    refine Lib.hid ?_
    go_wp2_with fail
    go_ret
    exact ⟨rfl, HA.out⟩
  cases b11
  · obtain rfl : z = false := by rw [HZ.out]; rfl
    go_wp2_with (refine wpList_load24r _ rfl gp 3 rfl p.sv p.sb A1 HC1.out (by exact HR1.out) hl1 rfl ?_; refine Hid.out ?_)
    refine Lib.hid ?_
    go_wp2_with (refine wpList_load24r _ rfl gq 3 rfl q.sv q.sb A2 HC2.out (by exact HR2.out) hl3 rfl ?_; refine Hid.out ?_)
    refine Lib.hid ?_
    go_wp2_with (refine wpList_eq24 _ _ rfl A1 A2 rfl rfl _ H24A.out rfl ?_; refine Hid.out ?_)
    refine Lib.hid ?_
    go_wp2_with (refine wpList_load24r _ rfl gp 20 rfl p.dv p.db A3 HC3.out (by exact HR3.out) hl2 rfl ?_; refine Hid.out ?_)
    refine Lib.hid ?_
    go_wp2_with (refine wpList_load24r _ rfl gq 20 rfl q.dv q.db A4 HC4.out (by exact HR4.out) hl4 rfl ?_; refine Hid.out ?_)
    refine Lib.hid ?_
    go_wp2_with (refine wpList_eq24 _ _ rfl A3 A4 rfl rfl _ H24B.out rfl ?_; refine Hid.out ?_)
    refine Lib.hid ?_
    go_wp2_with fail
    go_ret
    exact ⟨rfl, HA.out⟩
  cases b12
  · obtain rfl : z = false := by rw [HZ.out]; rfl
    go_wp2_with (refine wpList_load24r _ rfl gp 3 rfl p.sv p.sb A1 HC1.out (by exact HR1.out) hl1 rfl ?_; refine Hid.out ?_)
    refine Lib.hid ?_
    go_wp2_with (refine wpList_load24r _ rfl gq 3 rfl q.sv q.sb A2 HC2.out (by exact HR2.out) hl3 rfl ?_; refine Hid.out ?_)
    refine Lib.hid ?_
    go_wp2_with (refine wpList_eq24 _ _ rfl A1 A2 rfl rfl _ H24A.out rfl ?_; refine Hid.out ?_)
    refine Lib.hid ?_
    go_wp2_with (refine wpList_load24r _ rfl gp 20 rfl p.dv p.db A3 HC3.out (by exact HR3.out) hl2 rfl ?_; refine Hid.out ?_)
    refine Lib.hid ?_
    go_wp2_with (refine wpList_load24r _ rfl gq 20 rfl q.dv q.db A4 HC4.out (by exact HR4.out) hl4 rfl ?_; refine Hid.out ?_)
    refine Lib.hid ?_
    go_wp2_with (refine wpList_eq24 _ _ rfl A3 A4 rfl rfl _ H24B.out rfl ?_; refine Hid.out ?_)
    refine Lib.hid ?_
    go_wp2_with fail
    go_ret
    exact ⟨rfl, HA.out⟩
  go_wp2_with (refine wpList_load24r _ rfl gp 3 rfl p.sv p.sb A1 HC1.out (by exact HR1.out) hl1 rfl ?_; refine Hid.out ?_)
  refine Lib.hid ?_
  go_wp2_with (refine wpList_load24r _ rfl gq 3 rfl q.sv q.sb A2 HC2.out (by exact HR2.out) hl3 rfl ?_; refine Hid.out ?_)
  refine Lib.hid ?_
  go_wp2_with (refine wpList_eq24 _ _ rfl A1 A2 rfl rfl _ H24A.out rfl ?_; refine Hid.out ?_)
  refine Lib.hid ?_
  go_wp2_with (refine wpList_load24r _ rfl gp 20 rfl p.dv p.db A3 HC3.out (by exact HR3.out) hl2 rfl ?_; refine Hid.out ?_)
  refine Lib.hid ?_
  go_wp2_with (refine wpList_load24r _ rfl gq 20 rfl q.dv q.db A4 HC4.out (by exact HR4.out) hl4 rfl ?_; refine Hid.out ?_)
  refine Lib.hid ?_
  go_wp2_with (refine wpList_eq24 _ _ rfl A3 A4 rfl rfl _ H24B.out rfl ?_; refine Hid.out ?_)
  refine Lib.hid ?_
  go_wp2_with fail
  refine (KO.out _ HA.out).mono ?_
  rintro E w' ⟨rfl, rfl⟩
  cases b13
  · obtain rfl : z = false := by rw [HZ.out]; rfl
    go_wp2_with fail
    go_ret
    exact ⟨rfl, HA.out⟩
  go_wp2_with fail
  refine (KD.out _ HA.out).mono ?_
  rintro E w' ⟨rfl, rfl⟩
  obtain rfl : z = b14 := by rw [HZ.out]; rfl
  go_wp2_with fail
  go_ret
  exact ⟨rfl, HA.out⟩
end Go.Proofs.YtbnnfbfmomafnaaDoor

namespace Go.Proofs.YtbnnfbfmomafnaaDoor
open Go.ChangeShapes Go.WideShapes Go.ChangeAt Go.RowKit Num
open S6 (wp_region_cls quiet_val quiet_call quiet_ld)
set_option linter.unusedVariables false
set_option linter.unusedSimpArgs false
set_option maxHeartbeats 8000000
set_option maxRecDepth 100000

theorem sameL_yes (a b : Option Addr) (xs ys : List X) (n cap cap' : Nat) (w : World) (hn : xs.length = n) (hx : Pks w a xs) (hy : Pks w b ys) (h : xs.map X.p = ys.map X.p) :
    Calls Tryd.prog 20 #[.slice a n cap, .slice b n cap'] w fun E w' => E = .returned (.bool true) ∧ Away [] w w' := by
  have HX := Lib.hid hx
  have HY := Lib.hid hy
  have HN := Lib.hid hn
  have HM := Lib.hid h
  have HNY : Hid (ys.length = n) := by show _ = _; have := congrArg List.length h; rw [List.length_map, List.length_map] at this; omega
  have hnb : n ≤ 925904528640 := by rw [← hn]; exact hx.1
  clear hx hy h hn
  go_enter Tryd.func20, Tryd.ntmps20
  go_wp2_with fail
  go_loopw [5] (fun i wr => ∃ k : Nat, i = .int .i64 (k : Int) ∧ k ≤ n ∧ Away [] w wr) (fun i _ => n - (intOf i).toNat)
  case atStart => exact ⟨0, rfl, Nat.zero_le _, Away.refl _ _⟩
  case round =>
    obtain ⟨k, rfl, hk, haw⟩ := hrel
    have HA := Lib.hid haw
    clear haw
    by_cases hkn : k < n
    · have j1 : decide (k < n) = true := by simp; omega
      have j0 : (k : Int) < (n : Int) := by omega
      obtain ⟨x, hxk, hxm⟩ := get_of (show k < xs.length by rw [HN.out]; exact hkn)
      obtain ⟨y, hyk, hym⟩ := get_of (show k < ys.length by rw [HNY.out]; exact hkn)
      have hpe : x.p = y.p := by
        have h1 := congrArg (fun l => l[k]?) HM.out
        simp only [List.getElem?_map, hxk, hyk, Option.map_some, Option.some.injEq] at h1
        exact h1
      obtain ⟨b1, o1, ha1, r1, k1⟩ := HX.out.at hxk
      obtain ⟨b2, o2, ha2, r2, k2⟩ := HY.out.at hyk
      subst ha1; subst ha2
      obtain ⟨p, xo, xd⟩ := x
      obtain ⟨q, yo, yd⟩ := y
      simp only at hpe
      subst hpe
      have HAD := Lib.hid k1.wf.ad
      have R1 : Hid (∀ w', Away [] w w' → w'.rangeAt b1 (o1 + k * 46) (listP p xo xd)) := fun w' h => range_away h (by simp) r1
      have R2 : Hid (∀ w', Away [] w w' → w'.rangeAt b2 (o2 + k * 46) (listP p yo yd)) := fun w' h => range_away h (by simp) r2
      have KS : Hid (∀ w', Away [] w w' → Calls Tryd.prog 18 #[.agg (csP p xo xd), .agg (csP p yo yd)] w' fun E w2 => E = .returned (.bool true) ∧ Away [] w w2) := fun w' h => (sameP_yes p p xo xd yo yd w' (Pkt.on k1 h) (Pkt.on k2 h) rfl).mono (by rintro E w2 ⟨rfl, h2⟩; exact ⟨rfl, h.trans h2⟩)
      clear r1 r2 k1 k2 hxk hyk hxm hym hkn
      go_wp2_with fail
      refine wp_region_cls (C := fun w' => Away [] w w') (by kernel_rfl) (by kernel_rfl) (by exact HA.out.drew) ?_
      repeat (first
        | go_big_quiet_skip
        | (go_big_quiet_want
           first
             | (refine quiet_call 18 #[.agg (csP p xo xd), .agg (csP p yo yd)] (.bool true) ?_ KS.out ?_; (focus (intro w; go_simp; done)); go_simp; go_big_quiet_on)
             | (refine quiet_ix32 _ _ rfl b1 o1 n cap k _ rfl rfl rfl (by omega) ?_; go_simp; go_big_quiet_on)
             | (refine quiet_ix32 _ _ rfl b2 o2 n cap' k _ rfl rfl rfl (by omega) ?_; go_simp; go_big_quiet_on)
             | (refine quiet_ld _ rfl (ad := ⟨b1, o1 + k * 46, none⟩) rfl (fun w' h => load28m_run (R1.out w' h) HAD.out) ?_; go_simp; go_big_quiet_on)
             | (refine quiet_ld _ rfl (ad := ⟨b2, o2 + k * 46, none⟩) rfl (fun w' h => load28m_run (R2.out w' h) HAD.out) ?_; go_simp; go_big_quiet_on)
             | (go_big_quiet_op; go_big_quiet_on)
             | (refine quiet_val ?_ ?_ ?_
                rotate_left
                · intro w; go_simp; rfl
                go_simp; go_big_quiet_on)))
      refine wpQuiet_nil ?_
      intro V hV
      have HV := Lib.hid hV
      clear hV
      go_wp2_with fail
      go_roundw
      case rel => exact ⟨k + 1, by go_num, by omega, HV.out⟩
      case measure => simp [intOf]; omega
    · have j1 : decide (k < n) = false := by simp; omega
      go_wp2_with fail
      go_ret
      exact ⟨rfl, HA.out⟩
end Go.Proofs.YtbnnfbfmomafnaaDoor

namespace Go.Proofs.YtbnnfbfmomafnaaDoor
open Go.ChangeShapes Go.WideShapes Go.ChangeAt Go.RowKit Num
open S6 (wp_region_cls quiet_val quiet_call quiet_ld ld3 ld4 ld25 ld26 load28_run)
set_option linter.unusedVariables false
set_option linter.unusedSimpArgs false
set_option maxHeartbeats 16000000
set_option maxRecDepth 100000

theorem listP_id {p : Pk} (h : Ad p) (ov dv : Value) : (listP p ov dv)[39]? = some (.int .u32 p.id) := by
  obtain ⟨v, tos, flow, sv, sb, dv', db, proto, ttl, id, df, more, frag, off, o, d⟩ := p
  obtain ⟨h1, h2⟩ := h
  simp only at h1 h2
  obtain ⟨b0, b1, b2, b3, b4, b5, b6, b7, b8, b9, b10, b11, b12, b13, b14, b15, rfl⟩ := list16 h1
  obtain ⟨c0, c1, c2, c3, c4, c5, c6, c7, c8, c9, c10, c11, c12, c13, c14, c15, rfl⟩ := list16 h2
  rfl
theorem listP_d {p : Pk} (h : Ad p) (ov dv : Value) : (listP p ov dv)[45]? = some dv := by
  obtain ⟨v, tos, flow, sv, sb, dv', db, proto, ttl, id, df, more, frag, off, o, d⟩ := p
  obtain ⟨h1, h2⟩ := h
  simp only at h1 h2
  obtain ⟨b0, b1, b2, b3, b4, b5, b6, b7, b8, b9, b10, b11, b12, b13, b14, b15, rfl⟩ := list16 h1
  obtain ⟨c0, c1, c2, c3, c4, c5, c6, c7, c8, c9, c10, c11, c12, c13, c14, c15, rfl⟩ := list16 h2
  rfl
theorem listP_v {p : Pk} (h : Ad p) (ov dv : Value) : (listP p ov dv)[0]? = some (.int .i64 p.v) := rfl
theorem docR_cons (p : Pk) (m id : Int) (n : Nat) (q : Pk) (R : List Pk) : docR p m id n (q :: R) = ((decide (n + q.d.length ≤ p.d.length) && decide (q.d.length ≠ 0) && rgtP q && dP q (pcD p n (n + q.d.length) id) && decide (hdD q + (q.d.length : Int) ≤ m) && (decide (n + q.d.length < p.d.length) == !R.isEmpty)) && docR p m id (n + q.d.length) R) := rfl
/-- What decides the round. -/
theorem doc_step {p q : Pk} {m id : Int} {n : Nat} {R : List Pk} {z : Bool} (h : docR p m id n (q :: R) = z) :
    (¬ n + q.d.length ≤ p.d.length → z = false) ∧ (q.d.length = 0 → z = false) ∧ (rgtP q = false → z = false) ∧ (dP q (pcD p n (n + q.d.length) id) = false → z = false) ∧ (¬ hdD q + (q.d.length : Int) ≤ m → z = false) ∧ ((decide (n + q.d.length < p.d.length) == !R.isEmpty) = false → z = false) ∧
      (n + q.d.length ≤ p.d.length → q.d.length ≠ 0 → rgtP q = true → dP q (pcD p n (n + q.d.length) id) = true → hdD q + (q.d.length : Int) ≤ m → (decide (n + q.d.length < p.d.length) == !R.isEmpty) = true → docR p m id (n + q.d.length) R = z) := by
  subst h
  rw [docR_cons]
  refine ⟨fun h => ?_, fun h => ?_, fun h => ?_, fun h => ?_, fun h => ?_, fun h => ?_, fun h1 h2 h3 h4 h5 h6 => ?_⟩
  · rw [decide_eq_false h]; simp
  · rw [h]; simp
  · rw [h]; simp
  · rw [h]; simp
  · rw [decide_eq_false h]; simp
  · rw [h]; simp
  · rw [decide_eq_true h1, decide_eq_true h2, h3, h4, decide_eq_true h5, h6]; simp
theorem ris_c (p : Pk) (ov dv : Value) (m : Int) (a : Option Addr) (xs : List X) (N cap : Nat) (w : World) (hlen : xs.length = N) (hp : Pkt w p ov dv) (hx : Pks w a xs) :
    Calls Tryd.prog 29 #[.agg (csP p ov dv), .int .i64 m, .slice a N cap] w fun E w' => E = .returned (.bool (isD p m (xs.map X.p))) ∧ Away [] w w' := by
  have HAD := Lib.hid hp.wf.ad
  have HP := Lib.hid hp
  have HW := Lib.hid hp.wf
  have HX := Lib.hid hx
  have HL := Lib.hid hlen
  have hNb : N ≤ 925904528640 := by rw [← hlen]; exact hx.1
  have KU : Hid (∀ w', Away [] w w' → Calls Tryd.prog 46 #[.agg (csP p ov dv)] w' fun E w'' => E = .returned (.bool (uncutP p)) ∧ Away [] w' w'') := fun w' h => rwhole_c p ov dv w' (hp.on h)
  have KM : Hid (∀ w', Calls Tryd.prog 47 #[.int .i64 p.v, .int .i64 m] w' fun E w'' => E = .returned (.bool (mtuP m p.v)) ∧ w'' = w') := fun w' => rmtu_c m p.v w'
  have KL : Hid (∀ w', Away [] w w' → Calls Tryd.prog 48 #[.agg (csP p ov dv)] w' fun E w'' => E = .returned (.int .i64 (hdD p + p.d.length)) ∧ Away [] w w'') := fun w' h => (rlen_c p ov dv w' (hp.on h) hp.wf.ol hp.wf.dn).mono (by rintro E w2 ⟨rfl, h2⟩; exact ⟨rfl, h.trans h2⟩)
  obtain ⟨-, ⟨oa, oc, rfl, -, -, -⟩, ⟨da, dc, rfl, -, -, -⟩⟩ := hp
  obtain ⟨z, hz⟩ : ∃ z, z = isD p m (xs.map X.p) := ⟨_, rfl⟩
  rw [← hz]
  have HZ := Lib.hid hz
  clear hx hlen hz
  go_enter Tryd.func29, Tryd.ntmps29
  go_wp2_with (refine wpList_box28 rfl _ rfl p _ _ rfl ?_; refine Hid.out ?_)
  refine Lib.hid ?_
  intro g w1 hg1 hb haw
  have HA : Hid (Away [] w w1) := haw
  have HB : Hid (BoxP w1 g p (.slice oa p.o.length oc) (.slice da p.d.length dc)) := hb
  clear hb haw hg1
  go_wp2_with (refine wpList_load28 rfl _ rfl g rfl p _ _ (by exact HB.out) HAD.out ?_)
  refine (KU.out _ HA.out).mono ?_
  rintro E w2 ⟨rfl, haw⟩
  replace HB := Lib.hid (HB.out.on haw)
  replace HA := Lib.hid (HA.out.trans haw)
  clear haw KU
  have c0 := (HB.out.cells HAD.out).v
  obtain ⟨bu, hbu⟩ : ∃ bu, bu = uncutP p := ⟨_, rfl⟩
  have HBU := Lib.hid hbu
  rw [← hbu]
  clear hbu
  cases bu
  · have HN : Hid (z = false) := by show _ = _; rw [HZ.out]; unfold isD; rw [← HBU.out]; rfl
    have hz := HN.out
    subst hz
    go_wp2_with fail
    go_ret
    exact ⟨rfl, HA.out⟩
  have HUN : Hid (Unc p) := (uncut_iff p).1 HBU.out.symm
  obtain ⟨bm, hbm⟩ : ∃ bm, bm = mtuP m p.v := ⟨_, rfl⟩
  have HBM := Lib.hid hbm
  rw [← hbm] at KM
  clear hbm
  go_wp2_with fail
  refine (KM.out _).mono ?_
  rintro E w2 ⟨rfl, rfl⟩
  clear KM
  cases bm
  · have HN : Hid (z = false) := by show _ = _; rw [HZ.out]; unfold isD; rw [← HBU.out, ← HBM.out]; rfl
    have hz := HN.out
    subst hz
    go_wp2_with fail
    go_ret
    exact ⟨rfl, HA.out⟩
  have HZ2 : Hid (z = (match xs.map X.p with | [] => false | [q] => dP q p && decide (hdD p + (p.d.length : Int) ≤ m) | q :: r => !p.df && docR p m q.id 0 (q :: r))) := by
    show _ = _; rw [HZ.out]; unfold isD; rw [← HBU.out, ← HBM.out]; rfl
  clear HZ c0
  match xs, HX, HL, HZ2 with
  | [], HX, HL, HZ2 =>
    obtain rfl : N = 0 := HL.out.symm
    have hz : z = false := HZ2.out
    subst hz
    go_wp2_with fail
    go_ret
    exact ⟨rfl, HA.out⟩
  | [x], HX, HL, HZ2 =>
    obtain rfl : N = 1 := HL.out.symm
    obtain ⟨b1, o1, ha1, r1, k1⟩ := HX.out.at (i := 0) (x := x) rfl
    subst ha1
    obtain ⟨q, xo, xd⟩ := x
    have HQA := Lib.hid k1.wf.ad
    have hz : z = (dP q p && decide (hdD p + (p.d.length : Int) ≤ m)) := HZ2.out
    have K52 : Hid (∀ w', Away [] w2 w' → Calls Tryd.prog 52 #[.agg (csP q xo xd), .agg (csP p (.slice oa p.o.length oc) (.slice da p.d.length dc))] w' fun E w'' => E = .returned (.bool (dP q p)) ∧ Away [] w2 w'') := fun w' h => (rsame_c q p xo xd _ _ w' (Pkt.on k1 (HA.out.trans h)) (HP.out.on (HA.out.trans h))).mono (by rintro E w5 ⟨rfl, h2⟩; exact ⟨rfl, h.trans h2⟩)
    have KL2 : Hid (∀ w', Away [] w2 w' → Calls Tryd.prog 48 #[.agg (csP p (.slice oa p.o.length oc) (.slice da p.d.length dc))] w' fun E w'' => E = .returned (.int .i64 (hdD p + p.d.length)) ∧ Away [] w2 w'') := fun w' h => (rlen_c p _ _ w' (HP.out.on (HA.out.trans h)) HW.out.ol HW.out.dn).mono (by rintro E w5 ⟨rfl, h2⟩; exact ⟨rfl, h.trans h2⟩)
    have R1 : Hid (∀ w', Away [] w2 w' → w'.rangeAt b1 o1 (listP q xo xd)) := fun w' h => by
      have := range_away (HA.out.trans h) (by simp) r1
      simpa [X.cells] using this
    obtain ⟨T, hT⟩ : ∃ T, T = hdD p + (p.d.length : Int) := ⟨_, rfl⟩
    rw [← hT] at KL2 hz
    obtain ⟨bs, hbs⟩ : ∃ b, b = dP q p := ⟨_, rfl⟩
    rw [← hbs] at K52 hz
    have HZZ := Lib.hid hz
    clear hz hT hbs r1 k1 HZ2
    have HCC : Hid (Away [] w2 w2.drew) := (Away.refl [] w2).drew
    cases bs
    · have hz := HZZ.out
      simp only [Bool.false_and] at hz
      subst hz
      go_wp2_with fail
      refine wp_region_cls (C := (fun w' => Away [] w2 w')) (by kernel_rfl) (by kernel_rfl) (by exact HCC.out) ?_
      repeat (first
        | go_big_quiet_skip
        | (go_big_quiet_want
           first
             | (refine quiet_call 52 #[.agg (csP q xo xd), .agg (csP p (.slice oa p.o.length oc) (.slice da p.d.length dc))] (.bool false) ?_ K52.out ?_; (focus (intro w; go_simp; done)); go_simp; go_big_quiet_on)
             | (refine quiet_call 48 #[.agg (csP p (.slice oa p.o.length oc) (.slice da p.d.length dc))] (.int .i64 T) ?_ KL2.out ?_; (focus (intro w; go_simp; done)); go_simp; go_big_quiet_on)
             | (refine quiet_ix32 _ _ rfl b1 o1 1 cap 0 _ rfl rfl rfl (by omega) ?_; go_simp; go_big_quiet_on)
             | (refine quiet_ld _ rfl (ad := ⟨b1, o1, none⟩) rfl (fun w' h => load28m_run (R1.out w' h) HQA.out) ?_; go_simp; go_big_quiet_on)
             | (refine quiet_ld _ rfl (ad := ⟨g, 0, none⟩) rfl (fun w' h => load28_run (HB.out.on h) HAD.out) ?_; go_simp; go_big_quiet_on)
             | (go_big_quiet_op; go_big_quiet_on)
             | (refine quiet_val ?_ ?_ ?_
                rotate_left
                · intro w; go_simp; rfl
                go_simp; go_big_quiet_on)))
      refine wpQuiet_nil ?_
      intro V hV
      have HV := Lib.hid hV
      clear hV
      go_wp2_with fail
      go_ret
      exact ⟨rfl, HA.out.trans HV.out⟩
    · have hz := HZZ.out
      simp only [Bool.true_and] at hz
      subst hz
      go_wp2_with fail
      refine wp_region_cls (C := (fun w' => Away [] w2 w')) (by kernel_rfl) (by kernel_rfl) (by exact HCC.out) ?_
      repeat (first
        | go_big_quiet_skip
        | (go_big_quiet_want
           first
             | (refine quiet_call 52 #[.agg (csP q xo xd), .agg (csP p (.slice oa p.o.length oc) (.slice da p.d.length dc))] (.bool true) ?_ K52.out ?_; (focus (intro w; go_simp; done)); go_simp; go_big_quiet_on)
             | (refine quiet_call 48 #[.agg (csP p (.slice oa p.o.length oc) (.slice da p.d.length dc))] (.int .i64 T) ?_ KL2.out ?_; (focus (intro w; go_simp; done)); go_simp; go_big_quiet_on)
             | (refine quiet_ix32 _ _ rfl b1 o1 1 cap 0 _ rfl rfl rfl (by omega) ?_; go_simp; go_big_quiet_on)
             | (refine quiet_ld _ rfl (ad := ⟨b1, o1, none⟩) rfl (fun w' h => load28m_run (R1.out w' h) HQA.out) ?_; go_simp; go_big_quiet_on)
             | (refine quiet_ld _ rfl (ad := ⟨g, 0, none⟩) rfl (fun w' h => load28_run (HB.out.on h) HAD.out) ?_; go_simp; go_big_quiet_on)
             | (go_big_quiet_op; go_big_quiet_on)
             | (refine quiet_val ?_ ?_ ?_
                rotate_left
                · intro w; go_simp; rfl
                go_simp; go_big_quiet_on)))
      refine wpQuiet_nil ?_
      intro V hV
      have HV := Lib.hid hV
      clear hV
      go_wp2_with fail
      go_ret
      exact ⟨rfl, HA.out.trans HV.out⟩
  | x0 :: x1 :: xr, HX, HL, HZ2 =>
    obtain ⟨b0, o0, ha0, r0, k0⟩ := HX.out.at (i := 0) (x := x0) rfl
    subst ha0
    have HID0 : Hid (w.cell? ⟨b0, o0 + 39, none⟩ = some (.int .u32 x0.p.id)) := by
      have := r0 39 _ (listP_id k0.wf.ad x0.o x0.d)
      show _ = _
      simpa using this
    have hi0 := k0.wf.id0
    have hi1 := k0.wf.id1
    obtain ⟨id, hid⟩ : ∃ id, id = x0.p.id := ⟨_, rfl⟩
    obtain ⟨xs, hxs⟩ : ∃ xs, xs = x0 :: x1 :: xr := ⟨_, rfl⟩
    have HZ3 : Hid (z = (!p.df && docR p m id 0 (xs.map X.p))) := by show _ = _; rw [hid, hxs]; exact HZ2.out
    rw [← hid] at HID0 hi0 hi1
    rw [← hxs] at HX HL
    have hN2 : 2 ≤ N := by rw [← HL.out, hxs]; simp
    clear HZ2 hid hxs r0 k0
    have e0 : ¬ ((N : Int) = 0) := by omega
    have e1 : ¬ ((N : Int) = 1) := by omega
    have c40 := (HB.out.cells HAD.out).df
    generalize hdf : p.df = df at c40
    have HDF := Lib.hid hdf
    clear hdf
    rw [HDF.out] at HZ3
    cases df
    rotate_left
    · have hz := HZ3.out
      simp only [Bool.not_true, Bool.false_and] at hz
      subst hz
      go_wp2_with fail
      go_ret
      exact ⟨rfl, HA.out⟩
    have HZ4 : Hid (docR p m id 0 (xs.map X.p) = z) := by show _ = _; have := HZ3.out; simpa using this.symm
    have hall := HUN.out.all.1
    have HFR : Hid (∀ n t : Nat, n ≤ t → t ≤ p.d.length → Wf (pcD p n t id)) := fun n t hnt ht => by
      rw [pcD_eq HUN.out]
      refine (frmD_frm HUN.out HW.out hi0 hi1 n).wf HW.out n (by omega) _ ?_ (by rw [List.length_take, List.length_drop]; omega) _
      intro x hx
      exact HW.out.d x (List.mem_of_mem_drop (List.mem_of_mem_take hx))
    have KP : Hid (∀ (W : World) (n t : Nat), Away [] w W → n ≤ t → t ≤ p.d.length → Calls Tryd.prog 51 #[.agg (csP p (.slice oa p.o.length oc) (.slice da p.d.length dc)), .int .i64 (n : Int), .int .i64 (t : Int), .int .u32 id] W fun E w' => ∃ ou du, E = .returned (.agg (csP (pcD p n t id) ou du)) ∧ Mine w' W.heap.size (pcD p n t id) ou du ∧ Away [] W w') := fun W n t h hnt ht =>
      rpiece_c p _ _ n t id W (HP.out.on h) hnt ht HUN.out.all.1 (fun hv => unc_valid HUN.out hv) hi0 hi1
    obtain ⟨ln, hln⟩ : ∃ l, l = p.d.length := ⟨_, rfl⟩
    have HLN := Lib.hid hln
    rw [← hln] at hall HFR KP HB
    clear hln HZ3
    go_wp2_with fail
    go_loopw [7, 8] (fun av iv wr => ∃ (i n : Nat), av = .int .i64 (n : Int) ∧ iv = .int .i64 (i : Int) ∧ i ≤ N ∧ n ≤ ln ∧ docR p m id n ((xs.map X.p).drop i) = z ∧ Away [] w2 wr) (fun _ iv _ => N - (intOf iv).toNat)
    case atStart => exact ⟨0, 0, rfl, rfl, by omega, by omega, by simpa using HZ4.out, Away.refl _ _⟩
    case round =>
      clear HZ4 c40
      obtain ⟨i, n, rfl, rfl, hi, hn, hdoc, haw⟩ := hrel
      have HAW := Lib.hid haw
      have HDOC := Lib.hid hdoc
      have HBk := Lib.hid (HB.out.on haw)
      have HID := Lib.hid ((HA.out.trans haw).cell (by simp) HID0.out)
      clear hdoc haw
      have c45 := (HBk.out.cells HAD.out).d
      by_cases hiN : i < N
      · obtain ⟨x, hxi, hxm⟩ := get_of (show i < xs.length by rw [HL.out]; exact hiN)
        obtain ⟨b1, o1, ha1, r1, k1⟩ := HX.out.at hxi
        obtain ⟨rfl, rfl⟩ : b0 = b1 ∧ o0 = o1 := by simp only [Option.some.injEq, Addr.mk.injEq, and_true] at ha1; exact ha1
        have hdr : (xs.map X.p).drop i = x.p :: (xs.map X.p).drop (i + 1) := by
          rw [List.drop_eq_getElem_cons (by simp [HL.out, hiN])]
          have h1 := lt_of_get hxi
          have h2 : xs[i] = x := by have h3 := hxi; rw [List.getElem?_eq_getElem h1] at h3; simpa using h3
          simp [h2]
        have hre : (!((xs.map X.p).drop (i + 1)).isEmpty) = decide (i + 1 < N) := by
          have hlx : ((xs.map X.p).drop (i + 1)).length = N - (i + 1) := by rw [List.length_drop, List.length_map, HL.out]
          cases hcs : (xs.map X.p).drop (i + 1) with
          | nil => rw [hcs] at hlx; simp only [List.isEmpty_nil, Bool.not_true]; symm; rw [decide_eq_false_iff_not]; simp only [List.length_nil] at hlx; omega
          | cons y ys => rw [hcs] at hlx; simp only [List.isEmpty_cons, Bool.not_false]; symm; rw [decide_eq_true_eq]; simp only [List.length_cons] at hlx; omega
        obtain ⟨q, xo, xd⟩ := x
        have HDS := Lib.hid (doc_step (p := p) (q := q) (m := m) (id := id) (n := n) (R := (xs.map X.p).drop (i + 1)) (z := z) (by have h5 := HDOC.out; rw [hdr] at h5; exact h5))
        try simp only at HDS
        rw [hre, ← HLN.out] at HDS
        have HQW := Lib.hid k1.wf
        have HQA := Lib.hid k1.wf.ad
        have HQP : Hid (Pkt w q xo xd) := k1
        have HR0 : Hid (w.rangeAt b0 (o0 + i * 46) (listP q xo xd)) := r1
        obtain ⟨-, -, ⟨qa, qc, hqd, -, -, -⟩⟩ := k1
        simp only at hqd
        obtain ⟨qn, hqn⟩ : ∃ n, n = q.d.length := ⟨_, rfl⟩
        have hqb : qn ≤ 140737488355328 := by rw [hqn]; exact HQW.out.dn
        rw [← hqn] at HDS hqd
        have HQN := Lib.hid hqn
        have cq : wr.cell? ⟨b0, o0 + i * 46 + 45, none⟩ = some (.slice qa qn qc) := by
          have h1 := (HA.out.trans HAW.out).cell (by simp) (r1 45 _ (listP_d HQA.out xo xd))
          rw [hqd] at h1; exact h1
        have j0 : 0 ≤ (i : Int) := by omega
        have j1 : (i : Int) < (N : Int) := by omega
        have j2 : ((i : Int)).toNat = i := by omega
        have j3 : decide (i < N) = true := by simp; omega
        have HQD := Lib.hid hqd
        clear hqn hdr hre hxi hxm r1 ha1 hqd HDOC
        by_cases hle : n + qn ≤ ln
        rotate_left
        · have hz : z = false := HDS.out.1 (hle)
          subst hz
          have g1 : ((ln : Int) < (n : Int) + (qn : Int)) := by omega
          go_wp2_with fail
          go_ret
          exact ⟨rfl, HA.out.trans HAW.out⟩
        have g1 : ¬ ((ln : Int) < (n : Int) + (qn : Int)) := by omega
        by_cases hq0 : qn = 0
        · have hz : z = false := HDS.out.2.1 (hq0)
          subst hz
          subst hq0
          go_wp2_with fail
          go_ret
          exact ⟨rfl, HA.out.trans HAW.out⟩
        have g2 : ¬ ((n : Int) + (qn : Int) = (n : Int)) := by omega
        have g2b : ¬ ((qn : Int) = 0) := by omega
        have g2c : ((n : Int) + (qn : Int) == (n : Int)) = false := by rw [beq_eq_false_iff_ne]; omega
        have g2d : ((qn : Int) == 0) = false := by rw [beq_eq_false_iff_ne]; omega
        have K53 := Lib.hid (rrgt_c q xo xd wr (HQP.out.on (HA.out.trans HAW.out)))
        obtain ⟨br, hbr⟩ : ∃ b, b = rgtP q := ⟨_, rfl⟩
        rw [← hbr] at K53 HDS
        have HBR := Lib.hid hbr
        clear hbr
        go_wp2_with (first
          | (refine wpList_load28m rfl _ rfl b0 (o0 + i * 46) rfl q xo xd (by exact range_away (HA.out.trans HAW.out) (by simp) HR0.out) HQA.out ?_)
          | (go_at_call 53; refine K53.out.mono ?_; refine Hid.out ?_))
        refine Lib.hid ?_
        first
          | rintro E w5 rfl haw
          | rintro E w5 ⟨rfl, haw⟩
        replace HAW := Lib.hid (HAW.out.trans haw)
        replace HBk := Lib.hid (HBk.out.on haw)
        replace HID := Lib.hid (haw.cell (by simp) HID.out)
        clear haw K53 c45 cq
        cases br
        · have hz : z = false := HDS.out.2.2.1 (by first | rfl | trivial)
          subst hz
          go_wp2_with fail
          go_ret
          exact ⟨rfl, HA.out.trans HAW.out⟩
        obtain ⟨wr, hwr⟩ : ∃ z, z = w5 := ⟨_, rfl⟩
        subst hwr
        have HWQ := Lib.hid (HFR.out n (n + qn) (by omega) hle)
        have hgl := (Away.refl [] w).size
        have hN0 : 0 < N := by omega
        have hN1 : (0 : Int) < (N : Int) := by omega
        go_upto_region 14 with fail
        go_cut [10] (fun v wc => ∃ g10 ou du, v = .pointer (some ⟨g10, 0, none⟩) ∧ BoxP wc g10 (pcD p n (n + qn) id) ou du ∧ Pkt wc (pcD p n (n + qn) id) ou du ∧ Away [] wr wc)
        case first =>
          as_aux_lemma =>
            refine wp_region_held_drew (S := (fun w' => Away [] wr w')) (by kernel_rfl) (by exact (Away.refl [] wr).drew) (fun hHeld => ?_)
            refine wpAnyH_take (i := 0) (by simp only [List.getElem?_toArray, List.getElem?_cons_zero]; rfl) (by kernel_rfl) (by kernel_rfl) (by kernel_rfl) (by exact fun _ _ _ h => h) (yields_ld (ad := ⟨g, 0, none⟩) (by rfl) _ rfl rfl (fun w' h => load28_run (HBk.out.on h) HAD.out)) (by assumption) ?_
            try simp only [Act.put, List.setIfInBounds_toArray, List.set_cons_zero, List.set_cons_succ]
            refine wpAnyH_take (i := 1) (v := ?_) (by simp only [List.getElem?_toArray, List.getElem?_cons_succ, List.getElem?_cons_zero]; rfl) (by kernel_rfl) (by kernel_rfl) (by kernel_rfl) (by exact fun _ _ _ h => h) (Or.inl ⟨by rfl, ?_⟩) (by assumption) ?_
            rotate_left
            · intro wq hSw
              (try dsimp only at hSw)
              go_simp
              all_goals (with_reducible rfl)
            try simp only [Act.put, List.setIfInBounds_toArray, List.set_cons_zero, List.set_cons_succ]
            refine wpAnyH_take (i := 2) (v := ?_) (by simp only [List.getElem?_toArray, List.getElem?_cons_succ, List.getElem?_cons_zero]; rfl) (by kernel_rfl) (by kernel_rfl) (by kernel_rfl) (by exact fun _ _ _ h => h) (Or.inl ⟨by rfl, ?_⟩) (by assumption) ?_
            rotate_left
            · intro wq hSw
              (try dsimp only at hSw)
              go_simp
              all_goals (with_reducible rfl)
            try simp only [Act.put, List.setIfInBounds_toArray, List.set_cons_zero, List.set_cons_succ]
            refine wpAnyH_take (i := 3) (v := ?_) (by simp only [List.getElem?_toArray, List.getElem?_cons_succ, List.getElem?_cons_zero]; rfl) (by kernel_rfl) (by kernel_rfl) (by kernel_rfl) (by exact fun _ _ _ h => h) (Or.inl ⟨by rfl, ?_⟩) (by assumption) ?_
            rotate_left
            · intro wq hSw
              (try dsimp only at hSw)
              go_simp
              all_goals (with_reducible rfl)
            try simp only [Act.put, List.setIfInBounds_toArray, List.set_cons_zero, List.set_cons_succ]
            refine wpAnyH_take (i := 4) (v := ?_) (by simp only [List.getElem?_toArray, List.getElem?_cons_succ, List.getElem?_cons_zero]; rfl) (by kernel_rfl) (by kernel_rfl) (by kernel_rfl) (by exact fun _ _ _ h => h) (Or.inl ⟨by rfl, ?_⟩) (by assumption) ?_
            rotate_left
            · intro wq hSw
              (try dsimp only at hSw)
              go_simp
              all_goals (with_reducible rfl)
            try simp only [Act.put, List.setIfInBounds_toArray, List.set_cons_zero, List.set_cons_succ]
            refine wpAnyH_take (i := 5) (v := ?_) (by simp only [List.getElem?_toArray, List.getElem?_cons_succ, List.getElem?_cons_zero]; rfl) (by kernel_rfl) (by kernel_rfl) (by kernel_rfl) (by exact fun _ _ _ h => h) (Or.inl ⟨by rfl, ?_⟩) (by assumption) ?_
            rotate_left
            · intro wq hSw
              (try dsimp only at hSw)
              go_simp
              all_goals (with_reducible rfl)
            try simp only [Act.put, List.setIfInBounds_toArray, List.set_cons_zero, List.set_cons_succ]
            refine wpAnyH_take (i := 6) (by simp only [List.getElem?_toArray, List.getElem?_cons_succ, List.getElem?_cons_zero]; rfl) (by kernel_rfl) (by kernel_rfl) (by kernel_rfl) (by exact fun _ _ _ h => h) (yields_ld (ad := ⟨b0, o0 + 39, none⟩) (by rfl) _ rfl rfl (fun w' h => ld25 (h.cell (by simp) HID.out))) (by assumption) ?_
            try simp only [Act.put, List.setIfInBounds_toArray, List.set_cons_zero, List.set_cons_succ]
            refine wpAnyH_ready (rs := [7, 8]) (by kernel_rfl) (by simp) ?_
            refine AllReadyH.cons (by simp only [List.getElem?_toArray, List.getElem?_cons_succ, List.getElem?_cons_zero]; rfl) (fun K hK => ?_) (AllReadyH.cons (by simp only [List.getElem?_toArray, List.getElem?_cons_succ, List.getElem?_cons_zero]; rfl) (fun K hK => ?_) AllReadyH.nil)
            · go_simp
              refine (KP.out _ n (n + qn) (HA.out.trans (Away.trans HAW.out hHeld)) (by omega) hle).mono ?_
              rintro E y51 ⟨ou, du, rfl, hmi, haw⟩
              have hS : Away [] wr y51 := Away.trans hHeld haw
              have hmo := hmi.o.one; have hmd := hmi.d.one
              clear haw
              go_wp2_with fail
              refine hK.out _ _ hS (fun hHeld => ?_)
              clear hK K
              try simp only [Act.put, List.setIfInBounds_toArray, List.set_cons_zero, List.set_cons_succ]
              refine wpAnyH_ready (rs := [8]) (by kernel_rfl) (by simp) ?_
              refine AllReadyH.cons (by simp only [List.getElem?_toArray, List.getElem?_cons_succ, List.getElem?_cons_zero]; rfl) (fun K hK => ?_) AllReadyH.nil
              rw [if_pos (by rfl)]
              refine wp_alloc28 rfl ?_
              intro g10 y52 hg10 hbx haw
              have hgk : wr.heap.size ≤ g10 := Nat.le_trans (Away.size hHeld) hg10
              have hS : Away [] wr y52 := Away.trans hHeld haw
              have hne : ∀ k, ou.ownBlock = some k ∨ du.ownBlock = some k → k ≠ g10 := fun k hk => by have := (hmi.lto k hk).1; omega
              replace hmi := hmi.on haw
              have hg10l := hbx.lt
              clear haw
              refine hK.out _ _ hS (fun hHeld => ?_)
              clear hK K
              try simp only [Act.put, List.setIfInBounds_toArray, List.set_cons_zero, List.set_cons_succ]
              refine wpAnyH_ready (rs := [9]) (by kernel_rfl) (by simp) ?_
              refine AllReadyH.cons (by simp only [List.getElem?_toArray, List.getElem?_cons_succ, List.getElem?_cons_zero]; rfl) (fun K hK => ?_) AllReadyH.nil
              rw [if_pos (by rfl)]
              refine wp_store28 (.tmp 10) (.tmp 81) rfl g10 rfl (pcD p n (n + qn) id) ou du rfl zeroPk (.slice none 0 0) (.slice none 0 0) (by exact hbx) HWQ.out.ad ⟨rfl, rfl⟩ hmo hmd ?_
              intro y53 hb2 haw
              have hS : Away [] wr y53 := Away.next hHeld haw (fun x hx => .inr (by simp at hx; omega))
              have HMI : Hid (Pkt y53 (pcD p n (n + qn) id) ou du) := (hmi.away haw (fun k hk => by simp; exact hne k hk)).pkt HWQ.out
              have HBW := Lib.hid hb2
              clear haw hb2
              refine hK.out _ _ hS (fun hHeld => ?_)
              clear hK K
              try simp only [Act.put]
              refine wpAnyH_done (by kernel_rfl) ?_ _
              go_wp2_with fail
              go_meet
              exact ⟨g10, ou, du, rfl, HBW.out, HMI.out, hHeld⟩
            · rw [if_pos (by rfl)]
              refine wp_alloc28 rfl ?_
              intro g10 y51 hg10 hbx haw
              have hgk : wr.heap.size ≤ g10 := Nat.le_trans (Away.size hHeld) hg10
              have hS : Away [] wr y51 := Away.trans hHeld haw
              have hg10l := hbx.lt
              clear haw
              refine hK.out _ _ hS (fun hHeld => ?_)
              clear hK K
              try simp only [Act.put, List.setIfInBounds_toArray, List.set_cons_zero, List.set_cons_succ]
              refine wpAnyH_ready (rs := [7]) (by kernel_rfl) (by simp) ?_
              refine AllReadyH.cons (by simp only [List.getElem?_toArray, List.getElem?_cons_succ, List.getElem?_cons_zero]; rfl) (fun K hK => ?_) AllReadyH.nil
              go_simp
              refine (KP.out _ n (n + qn) (HA.out.trans (Away.trans HAW.out hHeld)) (by omega) hle).mono ?_
              rintro E y52 ⟨ou, du, rfl, hmi, haw⟩
              have hS : Away [] wr y52 := Away.trans hHeld haw
              replace hbx := BoxP.on hbx haw
              have hmo := hmi.o.one; have hmd := hmi.d.one
              clear haw
              go_wp2_with fail
              refine hK.out _ _ hS (fun hHeld => ?_)
              clear hK K
              try simp only [Act.put, List.setIfInBounds_toArray, List.set_cons_zero, List.set_cons_succ]
              refine wpAnyH_ready (rs := [9]) (by kernel_rfl) (by simp) ?_
              refine AllReadyH.cons (by simp only [List.getElem?_toArray, List.getElem?_cons_succ, List.getElem?_cons_zero]; rfl) (fun K hK => ?_) AllReadyH.nil
              have hne : ∀ k, ou.ownBlock = some k ∨ du.ownBlock = some k → k ≠ g10 := fun k hk => by have h1 := (hmi.lto k hk).2; omega
              rw [if_pos (by rfl)]
              refine wp_store28 (.tmp 10) (.tmp 81) rfl g10 rfl (pcD p n (n + qn) id) ou du rfl zeroPk (.slice none 0 0) (.slice none 0 0) (by exact hbx) HWQ.out.ad ⟨rfl, rfl⟩ hmo hmd ?_
              intro y53 hb2 haw
              have hS : Away [] wr y53 := Away.next hHeld haw (fun x hx => .inr (by simp at hx; omega))
              have HMI : Hid (Pkt y53 (pcD p n (n + qn) id) ou du) := (hmi.away haw (fun k hk => by simp; exact hne k hk)).pkt HWQ.out
              have HBW := Lib.hid hb2
              clear haw hb2
              refine hK.out _ _ hS (fun hHeld => ?_)
              clear hK K
              try simp only [Act.put]
              refine wpAnyH_done (by kernel_rfl) ?_ _
              go_wp2_with fail
              go_meet
              exact ⟨g10, ou, du, rfl, HBW.out, HMI.out, hHeld⟩
        case rest =>
        obtain ⟨g10, ou, du, rfl, hbw, hpk, haw⟩ := hcut
        have HBW := Lib.hid hbw
        have HPK := Lib.hid hpk
        have HK := Lib.hid haw
        have HMO : Hid (wc.cell? ⟨g10, 41, none⟩ = some (.bool (pcD p n (n + qn) id).more)) := (hbw.cells HWQ.out.ad).more
        have hmo : (pcD p n (n + qn) id).more = decide (n + qn < ln) := by rw [pcD_eq HUN.out, HLN.out]; rfl
        rw [hmo] at HMO
        have HAK : Hid (Away [] w wc) := HA.out.trans (HAW.out.trans haw)
        have R1 : Hid (∀ w', Away [] wc w' → w'.rangeAt b0 (o0 + i * 46) (listP q xo xd)) := fun w' h => range_away (HAK.out.trans h) (by simp) HR0.out
        have K52 : Hid (∀ w', Away [] wc w' → Calls Tryd.prog 52 #[.agg (csP q xo xd), .agg (csP (pcD p n (n + qn) id) ou du)] w' fun E w'' => E = .returned (.bool (dP q (pcD p n (n + qn) id))) ∧ Away [] wc w'') := fun w' h => (rsame_c q _ xo xd ou du w' (HQP.out.on (HAK.out.trans h)) (HPK.out.on h)).mono (by rintro E w9 ⟨rfl, h2⟩; exact ⟨rfl, h.trans h2⟩)
        have K48 : Hid (∀ w', Away [] wc w' → Calls Tryd.prog 48 #[.agg (csP q xo xd)] w' fun E w'' => E = .returned (.int .i64 (hdD q + q.d.length)) ∧ Away [] wc w'') := fun w' h => (rlen_c q xo xd w' (HQP.out.on (HAK.out.trans h)) HQW.out.ol HQW.out.dn).mono (by rintro E w9 ⟨rfl, h2⟩; exact ⟨rfl, h.trans h2⟩)
        rw [← HQN.out] at K48
        obtain ⟨TL, hTL⟩ : ∃ t, t = hdD q + (qn : Int) := ⟨_, rfl⟩
        rw [← hTL] at K48 HDS
        obtain ⟨bs, hbs⟩ : ∃ b, b = dP q (pcD p n (n + qn) id) := ⟨_, rfl⟩
        rw [← hbs] at K52 HDS
        obtain ⟨bw, hbw2⟩ : ∃ b, b = decide (n + qn < ln) := ⟨_, rfl⟩
        rw [← hbw2] at HMO HDS
        have hwi : IntKind.i64.wrap ((i : Int) + 1) = (i : Int) + 1 := by rw [IntKind.wrap_i64]; omega
        have HCC : Hid (Away [] wc wc.drew) := (Away.refl [] wc).drew
        clear hbw hpk haw hmo hTL hbs hbw2 HBk HID
        cases bs
        · have hz : z = false := HDS.out.2.2.2.1 (by first | rfl | trivial)
          subst hz
          go_wp2_with fail
          refine wp_region_cls (C := (fun w' => Away [] wc w')) (by kernel_rfl) (by kernel_rfl) (by exact HCC.out) ?_
          repeat (first
            | go_big_quiet_skip
            | (go_big_quiet_want
               first
                 | (refine quiet_call 52 #[.agg (csP q xo xd), .agg (csP (pcD p n (n + qn) id) ou du)] (.bool false) ?_ K52.out ?_; (focus (intro w; go_simp; done)); go_simp; go_big_quiet_on)
                 | (refine quiet_call 48 #[.agg (csP q xo xd)] (.int .i64 TL) ?_ K48.out ?_; (focus (intro w; go_simp; done)); go_simp; go_big_quiet_on)
                 | (refine quiet_ix32 _ _ rfl b0 o0 N cap i _ rfl rfl rfl (by omega) ?_; go_simp; go_big_quiet_on)
                 | (refine quiet_ld _ rfl (ad := ⟨b0, o0 + i * 46, none⟩) rfl (fun w' h => load28m_run (R1.out w' h) HQA.out) ?_; go_simp; go_big_quiet_on)
                 | (refine quiet_ld _ rfl (ad := ⟨g10, 0, none⟩) rfl (fun w' h => load28_run (HBW.out.on h) HWQ.out.ad) ?_; go_simp; go_big_quiet_on)
                 | (refine quiet_ld _ rfl (ad := ⟨g10, 41, none⟩) rfl (fun w' h => ld4 (h.cell (by simp) HMO.out)) ?_; go_simp; go_big_quiet_on)
                 | (go_big_quiet_op; go_big_quiet_on)
                 | (refine quiet_val ?_ ?_ ?_
                    rotate_left
                    · intro w; go_simp; rfl
                    go_simp; go_big_quiet_on)))
          refine wpQuiet_nil ?_
          intro V hV
          have HV := Lib.hid hV
          clear hV
          go_wp2_with fail
          go_ret
          exact ⟨rfl, HA.out.trans (HAW.out.trans (HK.out.trans HV.out))⟩
        by_cases hlm : TL ≤ m
        rotate_left
        · have hz : z = false := HDS.out.2.2.2.2.1 ((by first | exact hlm | omega))
          subst hz
          have g3 : m < TL := by omega
          have g3b : decide (m < TL) = true := by simp; omega
          go_wp2_with fail
          refine wp_region_cls (C := (fun w' => Away [] wc w')) (by kernel_rfl) (by kernel_rfl) (by exact HCC.out) ?_
          repeat (first
            | go_big_quiet_skip
            | (go_big_quiet_want
               first
                 | (refine quiet_call 52 #[.agg (csP q xo xd), .agg (csP (pcD p n (n + qn) id) ou du)] (.bool true) ?_ K52.out ?_; (focus (intro w; go_simp; done)); go_simp; go_big_quiet_on)
                 | (refine quiet_call 48 #[.agg (csP q xo xd)] (.int .i64 TL) ?_ K48.out ?_; (focus (intro w; go_simp; done)); go_simp; go_big_quiet_on)
                 | (refine quiet_ix32 _ _ rfl b0 o0 N cap i _ rfl rfl rfl (by omega) ?_; go_simp; go_big_quiet_on)
                 | (refine quiet_ld _ rfl (ad := ⟨b0, o0 + i * 46, none⟩) rfl (fun w' h => load28m_run (R1.out w' h) HQA.out) ?_; go_simp; go_big_quiet_on)
                 | (refine quiet_ld _ rfl (ad := ⟨g10, 0, none⟩) rfl (fun w' h => load28_run (HBW.out.on h) HWQ.out.ad) ?_; go_simp; go_big_quiet_on)
                 | (refine quiet_ld _ rfl (ad := ⟨g10, 41, none⟩) rfl (fun w' h => ld4 (h.cell (by simp) HMO.out)) ?_; go_simp; go_big_quiet_on)
                 | (go_big_quiet_op; go_big_quiet_on)
                 | (refine quiet_val ?_ ?_ ?_
                    rotate_left
                    · intro w; go_simp; rfl
                    go_simp; go_big_quiet_on)))
          refine wpQuiet_nil ?_
          intro V hV
          have HV := Lib.hid hV
          clear hV
          go_wp2_with fail
          go_ret
          exact ⟨rfl, HA.out.trans (HAW.out.trans (HK.out.trans HV.out))⟩
        have g3 : ¬ (m < TL) := by omega
        have g3b : decide (m < TL) = false := by simp; omega
        have g3c : decide (TL > m) = false := by simp; omega
        by_cases hlast : i + 1 < N
        · have g4 : (i : Int) + 1 < (N : Int) := by omega
          have g4b : decide ((i : Int) + 1 < (N : Int)) = true := decide_eq_true (by omega)
          have g5 : decide (i + 1 < N) = true := by simp; omega
          rw [g5] at HDS
          cases bw
          · have hz : z = false := HDS.out.2.2.2.2.2.1 (by first | rfl | trivial)
            subst hz
            go_wp2_with fail
            refine wp_region_cls (C := (fun w' => Away [] wc w')) (by kernel_rfl) (by kernel_rfl) (by exact HCC.out) ?_
            repeat (first
              | go_big_quiet_skip
              | (go_big_quiet_want
                 first
                   | (refine quiet_call 52 #[.agg (csP q xo xd), .agg (csP (pcD p n (n + qn) id) ou du)] (.bool true) ?_ K52.out ?_; (focus (intro w; go_simp; done)); go_simp; go_big_quiet_on)
                   | (refine quiet_call 48 #[.agg (csP q xo xd)] (.int .i64 TL) ?_ K48.out ?_; (focus (intro w; go_simp; done)); go_simp; go_big_quiet_on)
                   | (refine quiet_ix32 _ _ rfl b0 o0 N cap i _ rfl rfl rfl (by omega) ?_; go_simp; go_big_quiet_on)
                   | (refine quiet_ld _ rfl (ad := ⟨b0, o0 + i * 46, none⟩) rfl (fun w' h => load28m_run (R1.out w' h) HQA.out) ?_; go_simp; go_big_quiet_on)
                   | (refine quiet_ld _ rfl (ad := ⟨g10, 0, none⟩) rfl (fun w' h => load28_run (HBW.out.on h) HWQ.out.ad) ?_; go_simp; go_big_quiet_on)
                   | (refine quiet_ld _ rfl (ad := ⟨g10, 41, none⟩) rfl (fun w' h => ld4 (h.cell (by simp) HMO.out)) ?_; go_simp; go_big_quiet_on)
                   | (go_big_quiet_op; go_big_quiet_on)
                   | (refine quiet_val ?_ ?_ ?_
                      rotate_left
                      · intro w; go_simp; rfl
                      go_simp; go_big_quiet_on)))
            refine wpQuiet_nil ?_
            intro V hV
            have HV := Lib.hid hV
            clear hV
            go_wp2_with fail
            go_ret
            exact ⟨rfl, HA.out.trans (HAW.out.trans (HK.out.trans HV.out))⟩
          · have HNX : Hid (docR p m id (n + qn) ((xs.map X.p).drop (i + 1)) = z) := by
              show _ = _
              have h9 := HDS.out.2.2.2.2.2.2
              first | exact h9 hle hq0 rfl rfl hlm rfl | exact h9 hle hq0 trivial rfl hlm rfl | exact h9 hle hq0 trivial trivial hlm trivial | exact h9 hle hq0 trivial trivial hlm rfl | exact h9 hle hq0 trivial rfl hlm trivial | simpa [hle, hq0, hlm] using h9
            go_wp2_with fail
            refine wp_region_cls (C := (fun w' => Away [] wc w')) (by kernel_rfl) (by kernel_rfl) (by exact HCC.out) ?_
            repeat (first
              | go_big_quiet_skip
              | (go_big_quiet_want
                 first
                   | (refine quiet_call 52 #[.agg (csP q xo xd), .agg (csP (pcD p n (n + qn) id) ou du)] (.bool true) ?_ K52.out ?_; (focus (intro w; go_simp; done)); go_simp; go_big_quiet_on)
                   | (refine quiet_call 48 #[.agg (csP q xo xd)] (.int .i64 TL) ?_ K48.out ?_; (focus (intro w; go_simp; done)); go_simp; go_big_quiet_on)
                   | (refine quiet_ix32 _ _ rfl b0 o0 N cap i _ rfl rfl rfl (by omega) ?_; go_simp; go_big_quiet_on)
                   | (refine quiet_ld _ rfl (ad := ⟨b0, o0 + i * 46, none⟩) rfl (fun w' h => load28m_run (R1.out w' h) HQA.out) ?_; go_simp; go_big_quiet_on)
                   | (refine quiet_ld _ rfl (ad := ⟨g10, 0, none⟩) rfl (fun w' h => load28_run (HBW.out.on h) HWQ.out.ad) ?_; go_simp; go_big_quiet_on)
                   | (refine quiet_ld _ rfl (ad := ⟨g10, 41, none⟩) rfl (fun w' h => ld4 (h.cell (by simp) HMO.out)) ?_; go_simp; go_big_quiet_on)
                   | (go_big_quiet_op; go_big_quiet_on)
                   | (refine quiet_val ?_ ?_ ?_
                      rotate_left
                      · intro w; go_simp; rfl
                      go_simp; go_big_quiet_on)))
            refine wpQuiet_nil ?_
            intro V hV
            have HV := Lib.hid hV
            clear hV
            go_wp2_with fail
            go_roundw
            case rel => first | exact ⟨i + 1, n + qn, by go_num, by go_num, by omega, hle, HNX.out, HAW.out.trans (HK.out.trans HV.out)⟩ | ((repeat apply Exists.intro); (rw [show ((N : Int) == 0) = false from beq_eq_false_iff_ne.2 (by omega), show ((N : Int) == 1) = false from beq_eq_false_iff_ne.2 (by omega)]); (refine And.intro ?_ rfl); exact ⟨i + 1, n + qn, by go_num, by go_num, by omega, hle, HNX.out, HAW.out.trans (HK.out.trans HV.out)⟩)
            case measure => simp [intOf]; omega
        · have g4 : ¬ ((i : Int) + 1 < (N : Int)) := by omega
          have g4b : decide ((i : Int) + 1 < (N : Int)) = false := decide_eq_false (by omega)
          have g5 : decide (i + 1 < N) = false := by simp; omega
          rw [g5] at HDS
          cases bw
          · have HNX : Hid (docR p m id (n + qn) ((xs.map X.p).drop (i + 1)) = z) := by
              show _ = _
              have h9 := HDS.out.2.2.2.2.2.2
              first | exact h9 hle hq0 rfl rfl hlm rfl | exact h9 hle hq0 trivial rfl hlm rfl | exact h9 hle hq0 trivial trivial hlm trivial | exact h9 hle hq0 trivial trivial hlm rfl | exact h9 hle hq0 trivial rfl hlm trivial | simpa [hle, hq0, hlm] using h9
            go_wp2_with fail
            refine wp_region_cls (C := (fun w' => Away [] wc w')) (by kernel_rfl) (by kernel_rfl) (by exact HCC.out) ?_
            repeat (first
              | go_big_quiet_skip
              | (go_big_quiet_want
                 first
                   | (refine quiet_call 52 #[.agg (csP q xo xd), .agg (csP (pcD p n (n + qn) id) ou du)] (.bool true) ?_ K52.out ?_; (focus (intro w; go_simp; done)); go_simp; go_big_quiet_on)
                   | (refine quiet_call 48 #[.agg (csP q xo xd)] (.int .i64 TL) ?_ K48.out ?_; (focus (intro w; go_simp; done)); go_simp; go_big_quiet_on)
                   | (refine quiet_ix32 _ _ rfl b0 o0 N cap i _ rfl rfl rfl (by omega) ?_; go_simp; go_big_quiet_on)
                   | (refine quiet_ld _ rfl (ad := ⟨b0, o0 + i * 46, none⟩) rfl (fun w' h => load28m_run (R1.out w' h) HQA.out) ?_; go_simp; go_big_quiet_on)
                   | (refine quiet_ld _ rfl (ad := ⟨g10, 0, none⟩) rfl (fun w' h => load28_run (HBW.out.on h) HWQ.out.ad) ?_; go_simp; go_big_quiet_on)
                   | (refine quiet_ld _ rfl (ad := ⟨g10, 41, none⟩) rfl (fun w' h => ld4 (h.cell (by simp) HMO.out)) ?_; go_simp; go_big_quiet_on)
                   | (go_big_quiet_op; go_big_quiet_on)
                   | (refine quiet_val ?_ ?_ ?_
                      rotate_left
                      · intro w; go_simp; rfl
                      go_simp; go_big_quiet_on)))
            refine wpQuiet_nil ?_
            intro V hV
            have HV := Lib.hid hV
            clear hV
            go_wp2_with fail
            go_roundw
            case rel => first | exact ⟨i + 1, n + qn, by go_num, by go_num, by omega, hle, HNX.out, HAW.out.trans (HK.out.trans HV.out)⟩ | ((repeat apply Exists.intro); (rw [show ((N : Int) == 0) = false from beq_eq_false_iff_ne.2 (by omega), show ((N : Int) == 1) = false from beq_eq_false_iff_ne.2 (by omega)]); (refine And.intro ?_ rfl); exact ⟨i + 1, n + qn, by go_num, by go_num, by omega, hle, HNX.out, HAW.out.trans (HK.out.trans HV.out)⟩)
            case measure => simp [intOf]; omega
          · have hz : z = false := HDS.out.2.2.2.2.2.1 (by first | rfl | trivial)
            subst hz
            go_wp2_with fail
            refine wp_region_cls (C := (fun w' => Away [] wc w')) (by kernel_rfl) (by kernel_rfl) (by exact HCC.out) ?_
            repeat (first
              | go_big_quiet_skip
              | (go_big_quiet_want
                 first
                   | (refine quiet_call 52 #[.agg (csP q xo xd), .agg (csP (pcD p n (n + qn) id) ou du)] (.bool true) ?_ K52.out ?_; (focus (intro w; go_simp; done)); go_simp; go_big_quiet_on)
                   | (refine quiet_call 48 #[.agg (csP q xo xd)] (.int .i64 TL) ?_ K48.out ?_; (focus (intro w; go_simp; done)); go_simp; go_big_quiet_on)
                   | (refine quiet_ix32 _ _ rfl b0 o0 N cap i _ rfl rfl rfl (by omega) ?_; go_simp; go_big_quiet_on)
                   | (refine quiet_ld _ rfl (ad := ⟨b0, o0 + i * 46, none⟩) rfl (fun w' h => load28m_run (R1.out w' h) HQA.out) ?_; go_simp; go_big_quiet_on)
                   | (refine quiet_ld _ rfl (ad := ⟨g10, 0, none⟩) rfl (fun w' h => load28_run (HBW.out.on h) HWQ.out.ad) ?_; go_simp; go_big_quiet_on)
                   | (refine quiet_ld _ rfl (ad := ⟨g10, 41, none⟩) rfl (fun w' h => ld4 (h.cell (by simp) HMO.out)) ?_; go_simp; go_big_quiet_on)
                   | (go_big_quiet_op; go_big_quiet_on)
                   | (refine quiet_val ?_ ?_ ?_
                      rotate_left
                      · intro w; go_simp; rfl
                      go_simp; go_big_quiet_on)))
            refine wpQuiet_nil ?_
            intro V hV
            have HV := Lib.hid hV
            clear hV
            go_wp2_with fail
            go_ret
            exact ⟨rfl, HA.out.trans (HAW.out.trans (HK.out.trans HV.out))⟩
      · have j3 : decide (i < N) = false := by simp; omega
        have hz : z = decide (n = ln) := by
          have h1 := HDOC.out
          rw [List.drop_of_length_le (by rw [List.length_map, HL.out]; omega)] at h1
          rw [← h1, HLN.out]; rfl
        subst hz
        by_cases hnl : n = ln
        · have g6 : decide (n = ln) = true := by simpa using hnl
          rw [g6]
          subst hnl
          go_wp2_with fail
          go_ret
          exact ⟨rfl, HA.out.trans HAW.out⟩
        · have g6 : decide (n = ln) = false := by simpa using hnl
          have g7 : ¬ ((n : Int) = (ln : Int)) := by omega
          rw [g6]
          go_wp2_with fail
          go_ret
          have g8 : ((n : Int) == (ln : Int)) = false := by simpa using g7
          have e9 : Ending.returned (Value.bool ((n : Int) == (ln : Int))) = Ending.returned (Value.bool (decide (n = ln))) := by rw [g8, g6]
          exact ⟨e9, HA.out.trans HAW.out⟩
end Go.Proofs.YtbnnfbfmomafnaaDoor
