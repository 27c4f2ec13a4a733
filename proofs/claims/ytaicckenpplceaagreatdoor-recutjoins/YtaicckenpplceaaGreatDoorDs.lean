/-
  The document: own, same, Same, Right.
-/
import Derived.Test.YtaicckenpplceaaGreatDoorRefF
import Derived.Test.YtaicckenpplceaaGreatDoorR6
namespace Go.Proofs.YtaicckenpplceaaGreatDoor
open Go.ChangeShapes Go.WideShapes Go.ChangeAt Go.RowKit Num
open S6 (wp_region_cls quiet_val quiet_call quiet_ld ld3 ld4 ld5 ld25 ld26 load28_run load24m_run)
set_option linter.unusedVariables false
set_option linter.unusedSimpArgs false
set_option maxHeartbeats 8000000
set_option maxRecDepth 100000

theorem down_c (a : Option Addr) (l : List Int) (n cap : Nat) (w : World) (hn : l.length = n) (ha : a = none → cap = 0) (hr : Row w a l) :
    Calls Tryz.prog 21 #[.slice a n cap] w fun E w' => ∃ v, E = .returned v ∧ Owns w' v l ∧ New w.heap.size v ∧ Away [] w w' := by
  subst hn
  have hlen := hr.1
  rcases a with _ | ad
  · have h0 : l = [] := by rcases hr.2.2 with h | ⟨_, _, h, _⟩ <;> simp_all
    subst h0
    obtain rfl := ha rfl
    go_enter Tryz.func21, Tryz.ntmps21
    go_wp2_with (at_builtin; refine wpList_app_none rfl _ _ rfl _ [] rfl (Owns.nil _) rfl ?_)
    go_wp2_with fail
    go_ret
    exact ⟨_, rfl, Owns.nil _, New.nil _, Away.refl _ _⟩
  · have HR := Lib.hid hr
    clear hr
    go_enter Tryz.func21, Tryz.ntmps21
    go_wp2_with (at_builtin; refine wpList_app rfl _ _ rfl _ [] l rfl (Owns.nil _) ad l.length cap rfl rfl HR.out.src (by simpa using hlen) ?_)
    intro v' w2 hown2 hgr hblk
    have HO := Lib.hid hown2
    have HA : Hid (Away [] w w2) := (Away.refl [] w).grown hgr (by simp [Value.ownBlock])
    have HN : Hid (New w.heap.size v') := fun k hk => by
      rcases hblk k hk with h | h
      · simp [Value.ownBlock] at h
      · exact h
    clear hown2 hgr hblk
    go_wp2_with fail
    go_ret
    exact ⟨v', rfl, HO.out, HN.out, HA.out⟩
theorem take_one {l m : List Int} {j : Nat} (h : l.take j = m.take j) (hl : j < l.length) (hm : j < m.length) (e : l[j]?.getD 0 = m[j]?.getD 0) : l.take (j + 1) = m.take (j + 1) := by
  rw [List.take_add_one, List.take_add_one, h]
  rw [List.getElem?_eq_getElem hl, List.getElem?_eq_getElem hm] at e ⊢
  simp only [Option.getD_some] at e
  rw [e]
theorem dsame_any (a b : Option Addr) (l m : List Int) (n k cap cap' : Nat) (w : World) (hn : l.length = n) (hk : m.length = k) (hr : Row w a l) (hs : Row w b m) :
    Calls Tryz.prog 26 #[.slice a n cap, .slice b k cap'] w fun E w' => E = .returned (.bool (decide (l = m))) ∧ Away [] w w' := by
  obtain ⟨z, hz⟩ : ∃ z, z = decide (l = m) := ⟨_, rfl⟩
  rw [← hz]
  have HZ := Lib.hid hz
  have HR := Lib.hid hr; have HS := Lib.hid hs; have HN := Lib.hid hn; have HK := Lib.hid hk
  have hlen := hr.1
  have hlen2 := hs.1
  rw [hn] at hlen
  rw [hk] at hlen2
  clear hr hs hn hk hz
  by_cases hnk : n = k
  · subst hnk
    go_enter Tryz.func26, Tryz.ntmps26
    go_wp2_with fail
    go_loopw [5] (fun i wr => ∃ j : Nat, i = .int .i64 (j : Int) ∧ j ≤ n ∧ l.take j = m.take j ∧ Away [] w wr) (fun i _ => n - (intOf i).toNat)
    case atStart => exact ⟨0, rfl, by omega, rfl, Away.refl _ _⟩
    case round =>
      obtain ⟨k, rfl, hk, ht, haw⟩ := hrel
      have HAW := Lib.hid haw; have HT := Lib.hid ht
      clear haw ht
      by_cases hlt : k < n
      · obtain ⟨xb, xo, rfl, hcx⟩ : ∃ xb xo, a = some ⟨xb, xo, none⟩ ∧ ∀ i, i < l.length → wr.cell? ⟨xb, xo + i, none⟩ = some (.int .u8 (l[i]?.getD 0)) := by
          rcases (HR.out.on HAW.out).2.2 with h | ⟨b', o', h, hc⟩
          · have := HN.out; rw [h] at this; simp at this; omega
          · exact ⟨b', o', h, hc⟩
        obtain ⟨yb, yo, rfl, hcy⟩ : ∃ xb xo, b = some ⟨xb, xo, none⟩ ∧ ∀ i, i < m.length → wr.cell? ⟨xb, xo + i, none⟩ = some (.int .u8 (m[i]?.getD 0)) := by
          rcases (HS.out.on HAW.out).2.2 with h | ⟨b', o', h, hc⟩
          · have := HK.out; rw [h] at this; simp at this; omega
          · exact ⟨b', o', h, hc⟩
        have c1 := hcx k (by have := HN.out; omega)
        have c2 := hcy k (by have := HK.out; omega)
        clear hcx hcy
        obtain ⟨e1, he1⟩ : ∃ e, e = l[k]?.getD 0 := ⟨_, rfl⟩
        obtain ⟨e2, he2⟩ : ∃ e, e = m[k]?.getD 0 := ⟨_, rfl⟩
        rw [← he1] at c1
        rw [← he2] at c2
        have HE1 := Lib.hid he1; have HE2 := Lib.hid he2
        clear he1 he2
        have i2 : 0 ≤ (k : Int) := by omega
        have i3 : (k : Int) < (n : Int) := by omega
        have i4 : ((k : Int)).toNat = k := by omega
        by_cases he : e1 = e2
        · subst he
          have HT2 : Hid (l.take (k + 1) = m.take (k + 1)) := take_one HT.out (by have := HN.out; omega) (by have := HK.out; omega) (by rw [← HE1.out, ← HE2.out])
          go_wp2_with fail
          go_region
          replace HAW : Hid (Away [] w wr.drew) := HAW.out.drew
          clear c1 c2
          generalize wr.drew = wz at *
          go_wp2_with fail
          go_roundw
          case rel => exact ⟨k + 1, by go_num, by omega, HT2.out, HAW.out⟩
          case measure => simp [intOf]; omega
        · have hne : (e1 != e2) = true := by simpa [bne_iff_ne] using he
          have hne2 : decide (e1 = e2) = false := by simpa using he
          obtain rfl : z = false := by
            rw [HZ.out]; refine decide_eq_false (fun h => he ?_)
            rw [HE1.out, HE2.out, h]
          clear he
          go_wp2_with fail
          go_region
          replace HAW : Hid (Away [] w wr.drew) := HAW.out.drew
          clear c1 c2
          generalize wr.drew = wz at *
          go_wp2_with fail
          go_ret
          exact ⟨rfl, HAW.out⟩
      · obtain rfl : k = n := by omega
        obtain rfl : z = true := by
          rw [HZ.out]; refine decide_eq_true ?_
          have := HT.out
          rwa [List.take_of_length_le (by rw [HN.out]; omega), List.take_of_length_le (by rw [HK.out]; omega)] at this
        go_wp2_with fail
        go_ret
        exact ⟨rfl, HAW.out⟩
  · obtain rfl : z = false := by
      rw [HZ.out]; refine decide_eq_false (fun h => hnk ?_)
      rw [← HN.out, ← HK.out, h]
    have hne : ((n : Int) != (k : Int)) = true := by simp [bne_iff_ne]; omega
    have hne2 : decide ((n : Int) = (k : Int)) = false := by simp; omega
    have hne3 : (n != k) = true := by simp [bne_iff_ne]; omega
    have hne4 : ¬ ((n : Int) = (k : Int)) := by omega
    clear hnk
    go_enter Tryz.func26, Tryz.ntmps26
    go_wp2_with fail
    go_ret
    exact ⟨rfl, Away.refl _ _⟩
theorem wpList_ne24g {ops : Array Oper} {rest : List Oper} {o : Oper} {a : Act} {w : World} {Q : Exit → Act → World → Prop} (x y : Operand) (ho : o.op = .binOp .neq 25 x y 25)
    (c1 c2 : Array Value) (hx : a.eval x = .agg c1) (hy : a.eval y = .agg c2) (b : Bool) (hq : ∀ w, (Op.equalIn 10000 25 (.agg c1) (.agg c2)).run Tryz.prog w = .ok b w) (hw : Region.wanted o (yielded ops a.tmps) = true)
    (h : wpList Tryz.prog ops Q rest (a.put o.dst (.bool (!b))) w) : wpList Tryz.prog ops Q (o :: rest) a w :=
  BigFrame.wpList_want hw fun K hK => by
    have hg := guard24
    have e : (execOp a.eval o).run Tryz.prog w = .ok (.value (.bool (!b))) w := by
      unfold execOp
      simp only [ho, hx, hy]
      simp [go_sem, hq, hg]
    unfold Oper.wp
    rw [e, Oper.upon_value]
    exact hK _ _ h
theorem dsameP_c (p q : Pk) (ov dv ou du : Value) (w : World) (hp : Pkt w p ov dv) (hq : Pkt w q ou du) :
    Calls Tryz.prog 8 #[.agg (csP p ov dv), .agg (csP q ou du)] w fun E w' => E = .returned (.bool (dP p q)) ∧ Away [] w w' := by
  obtain ⟨z, hz⟩ : ∃ z, z = dP p q := ⟨_, rfl⟩
  rw [← hz]
  rw [eqPk] at hz
  have h24a := eq24 p.sv q.sv p.sb q.sb hp.wf.sl hq.wf.sl
  have h24b := eq24 p.dv q.dv p.db q.db hp.wf.dl hq.wf.dl
  obtain ⟨A1, hA1⟩ : ∃ A, A = csA p.sv p.sb := ⟨_, rfl⟩
  obtain ⟨A2, hA2⟩ : ∃ A, A = csA q.sv q.sb := ⟨_, rfl⟩
  obtain ⟨A3, hA3⟩ : ∃ A, A = csA p.dv p.db := ⟨_, rfl⟩
  obtain ⟨A4, hA4⟩ : ∃ A, A = csA q.dv q.db := ⟨_, rfl⟩
  rw [← hA1, ← hA2] at h24a
  rw [← hA3, ← hA4] at h24b
  have HC1 := Lib.hid hA1; have HC2 := Lib.hid hA2; have HC3 := Lib.hid hA3; have HC4 := Lib.hid hA4
  clear hA1 hA2 hA3 hA4
  have HAP := Lib.hid hp.wf.ad
  have HAQ := Lib.hid hq.wf.ad
  have hl1 := hp.wf.sl; have hl2 := hp.wf.dl; have hl3 := hq.wf.sl; have hl4 := hq.wf.dl
  have KO : Hid (∀ w', Away [] w w' → Calls Tryz.prog 26 #[ov, ou] w' fun E w'' => E = .returned (.bool (decide (p.o = q.o))) ∧ Away [] w' w'') := by
    obtain ⟨a1, c1, rfl, x1, y1, z1⟩ := hp.o
    obtain ⟨a2, c2, rfl, x2, y2, z2⟩ := hq.o
    intro w' h
    exact dsame_any a1 a2 p.o q.o _ _ c1 c2 w' rfl rfl (z1.away h (by simp)) (z2.away h (by simp))
  have KD : Hid (∀ w', Away [] w w' → Calls Tryz.prog 26 #[dv, du] w' fun E w'' => E = .returned (.bool (decide (p.d = q.d))) ∧ Away [] w' w'') := by
    obtain ⟨a1, c1, rfl, x1, y1, z1⟩ := hp.d
    obtain ⟨a2, c2, rfl, x2, y2, z2⟩ := hq.d
    intro w' h
    exact dsame_any a1 a2 p.d q.d _ _ c1 c2 w' rfl rfl (z1.away h (by simp)) (z2.away h (by simp))
  obtain ⟨-, ⟨o1, o2, rfl, -⟩, ⟨o3, o4, rfl, -⟩⟩ := hp
  obtain ⟨-, ⟨o5, o6, rfl, -⟩, ⟨o7, o8, rfl, -⟩⟩ := hq
  have HZ := Lib.hid hz
  clear hz
  have ev : Hid ((p.v == q.v) = decide (p.v = q.v)) := Lib.hid rfl
  generalize hb1 : decide (p.v = q.v) = b1 at HZ ev
  clear hb1
  have etos : Hid ((p.tos == q.tos) = decide (p.tos = q.tos)) := Lib.hid rfl
  generalize hb2 : decide (p.tos = q.tos) = b2 at HZ etos
  clear hb2
  have eflow : Hid ((p.flow == q.flow) = decide (p.flow = q.flow)) := Lib.hid rfl
  generalize hb3 : decide (p.flow = q.flow) = b3 at HZ eflow
  clear hb3
  have eproto : Hid ((p.proto == q.proto) = decide (p.proto = q.proto)) := Lib.hid rfl
  generalize hb6 : decide (p.proto = q.proto) = b6 at HZ eproto
  clear hb6
  have ettl : Hid ((p.ttl == q.ttl) = decide (p.ttl = q.ttl)) := Lib.hid rfl
  generalize hb7 : decide (p.ttl = q.ttl) = b7 at HZ ettl
  clear hb7
  have eid : Hid ((p.id == q.id) = decide (p.id = q.id)) := Lib.hid rfl
  generalize hb8 : decide (p.id = q.id) = b8 at HZ eid
  clear hb8
  have edf : Hid ((p.df == q.df) = decide (p.df = q.df)) := by show _ = _; cases p.df <;> cases q.df <;> rfl
  generalize hb9 : decide (p.df = q.df) = b9 at HZ edf
  clear hb9
  have emore : Hid ((p.more == q.more) = decide (p.more = q.more)) := by show _ = _; cases p.more <;> cases q.more <;> rfl
  generalize hb10 : decide (p.more = q.more) = b10 at HZ emore
  clear hb10
  have efrag : Hid ((p.frag == q.frag) = decide (p.frag = q.frag)) := by show _ = _; cases p.frag <;> cases q.frag <;> rfl
  generalize hb11 : decide (p.frag = q.frag) = b11 at HZ efrag
  clear hb11
  have eoff : Hid ((p.off == q.off) = decide (p.off = q.off)) := Lib.hid rfl
  generalize hb12 : decide (p.off = q.off) = b12 at HZ eoff
  clear hb12
  generalize hb4 : (decide (p.sv = q.sv) && eqL p.sb q.sb) = b4 at HZ h24a
  clear hb4
  generalize hb5 : (decide (p.dv = q.dv) && eqL p.db q.db) = b5 at HZ h24b
  clear hb5
  generalize hb13 : decide (p.o = q.o) = b13 at HZ KO
  clear hb13
  generalize hb14 : decide (p.d = q.d) = b14 at HZ KD
  clear hb14
  have H24A := Lib.hid h24a
  have H24B := Lib.hid h24b
  clear h24a h24b
  generalize p.o.length = no at *
  generalize p.d.length = nd at *
  generalize q.o.length = mo at *
  generalize q.d.length = md at *
  go_enter Tryz.func8, Tryz.ntmps8
  go_wp2_with (refine wpList_box28 rfl _ rfl p _ _ rfl ?_; refine Hid.out ?_)
  refine Lib.hid ?_
  intro gp w1 hg1 hbp haw1
  go_wp2_with (first | (refine wpList_box28 rfl _ rfl q _ _ rfl ?_; refine Hid.out ?_))
  refine Lib.hid ?_
  intro gq w2 hg2 hbq haw2
  have HBP := Lib.hid (hbp.on haw2)
  have HBQ := Lib.hid hbq
  have HA := Lib.hid (haw1.next haw2 (by simp))
  clear hbp hbq haw1 haw2 hg1 hg2
  have cp := HBP.out.cells HAP.out
  have cq := HBQ.out.cells HAQ.out
  have p_v := cp.v; have q_v := cq.v
  have p_tos := cp.tos; have q_tos := cq.tos
  have p_flow := cp.flow; have q_flow := cq.flow
  have p_proto := cp.proto; have q_proto := cq.proto
  have p_ttl := cp.ttl; have q_ttl := cq.ttl
  have HR1 := Lib.hid HBP.out.srow
  have HR2 := Lib.hid HBQ.out.srow
  have HR3 := Lib.hid (HBP.out.drow HAP.out)
  have HR4 := Lib.hid (HBQ.out.drow HAQ.out)
  clear cp cq
  cases b1
  · obtain rfl : z = false := by rw [HZ.out]; simp
    have xv : (p.v == q.v) = false := ev.out
    have yv : (p.v != q.v) = true := by show (!(p.v == q.v)) = true; rw [xv]; rfl
    go_wp2_with fail
    go_ret
    exact ⟨rfl, HA.out⟩
  have xv : (p.v == q.v) = true := ev.out
  have yv : (p.v != q.v) = false := by show (!(p.v == q.v)) = false; rw [xv]; rfl
  cases b2
  · obtain rfl : z = false := by rw [HZ.out]; simp
    have xtos : (p.tos == q.tos) = false := etos.out
    have ytos : (p.tos != q.tos) = true := by show (!(p.tos == q.tos)) = true; rw [xtos]; rfl
    go_wp2_with fail
    go_ret
    exact ⟨rfl, HA.out⟩
  have xtos : (p.tos == q.tos) = true := etos.out
  have ytos : (p.tos != q.tos) = false := by show (!(p.tos == q.tos)) = false; rw [xtos]; rfl
  cases b3
  · obtain rfl : z = false := by rw [HZ.out]; simp
    have xflow : (p.flow == q.flow) = false := eflow.out
    have yflow : (p.flow != q.flow) = true := by show (!(p.flow == q.flow)) = true; rw [xflow]; rfl
    go_wp2_with fail
    go_ret
    exact ⟨rfl, HA.out⟩
  have xflow : (p.flow == q.flow) = true := eflow.out
  have yflow : (p.flow != q.flow) = false := by show (!(p.flow == q.flow)) = false; rw [xflow]; rfl
  cases b4
  · obtain rfl : z = false := by rw [HZ.out]; simp
    go_wp2_with (refine wpList_load24r _ rfl gp 3 rfl p.sv p.sb A1 HC1.out (by exact HR1.out) hl1 rfl ?_; refine Hid.out ?_)
    refine Lib.hid ?_
    go_wp2_with (refine wpList_load24r _ rfl gq 3 rfl q.sv q.sb A2 HC2.out (by exact HR2.out) hl3 rfl ?_; refine Hid.out ?_)
    refine Lib.hid ?_
    go_wp2_with (refine wpList_ne24g _ _ rfl A1 A2 rfl rfl _ H24A.out rfl ?_; refine Hid.out ?_)
    refine Lib.hid ?_
    go_wp2_with fail
    go_ret
    exact ⟨rfl, HA.out⟩
  cases b5
  · obtain rfl : z = false := by rw [HZ.out]; simp
    go_wp2_with (refine wpList_load24r _ rfl gp 3 rfl p.sv p.sb A1 HC1.out (by exact HR1.out) hl1 rfl ?_; refine Hid.out ?_)
    refine Lib.hid ?_
    go_wp2_with (refine wpList_load24r _ rfl gq 3 rfl q.sv q.sb A2 HC2.out (by exact HR2.out) hl3 rfl ?_; refine Hid.out ?_)
    refine Lib.hid ?_
    go_wp2_with (refine wpList_ne24g _ _ rfl A1 A2 rfl rfl _ H24A.out rfl ?_; refine Hid.out ?_)
    refine Lib.hid ?_
    go_wp2_with (refine wpList_load24r _ rfl gp 20 rfl p.dv p.db A3 HC3.out (by exact HR3.out) hl2 rfl ?_; refine Hid.out ?_)
    refine Lib.hid ?_
    go_wp2_with (refine wpList_load24r _ rfl gq 20 rfl q.dv q.db A4 HC4.out (by exact HR4.out) hl4 rfl ?_; refine Hid.out ?_)
    refine Lib.hid ?_
    go_wp2_with (refine wpList_ne24g _ _ rfl A3 A4 rfl rfl _ H24B.out rfl ?_; refine Hid.out ?_)
    refine Lib.hid ?_
    go_wp2_with fail
    go_ret
    exact ⟨rfl, HA.out⟩
  cases b6
  · obtain rfl : z = false := by rw [HZ.out]; simp
    have xproto : (p.proto == q.proto) = false := eproto.out
    have yproto : (p.proto != q.proto) = true := by show (!(p.proto == q.proto)) = true; rw [xproto]; rfl
    go_wp2_with (refine wpList_load24r _ rfl gp 3 rfl p.sv p.sb A1 HC1.out (by exact HR1.out) hl1 rfl ?_; refine Hid.out ?_)
    refine Lib.hid ?_
    go_wp2_with (refine wpList_load24r _ rfl gq 3 rfl q.sv q.sb A2 HC2.out (by exact HR2.out) hl3 rfl ?_; refine Hid.out ?_)
    refine Lib.hid ?_
    go_wp2_with (refine wpList_ne24g _ _ rfl A1 A2 rfl rfl _ H24A.out rfl ?_; refine Hid.out ?_)
    refine Lib.hid ?_
    go_wp2_with (refine wpList_load24r _ rfl gp 20 rfl p.dv p.db A3 HC3.out (by exact HR3.out) hl2 rfl ?_; refine Hid.out ?_)
    refine Lib.hid ?_
    go_wp2_with (refine wpList_load24r _ rfl gq 20 rfl q.dv q.db A4 HC4.out (by exact HR4.out) hl4 rfl ?_; refine Hid.out ?_)
    refine Lib.hid ?_
    go_wp2_with (refine wpList_ne24g _ _ rfl A3 A4 rfl rfl _ H24B.out rfl ?_; refine Hid.out ?_)
    refine Lib.hid ?_
    go_wp2_with fail
    go_ret
    exact ⟨rfl, HA.out⟩
  have xproto : (p.proto == q.proto) = true := eproto.out
  have yproto : (p.proto != q.proto) = false := by show (!(p.proto == q.proto)) = false; rw [xproto]; rfl
  cases b7
  · obtain rfl : z = false := by rw [HZ.out]; simp
    have xttl : (p.ttl == q.ttl) = false := ettl.out
    have yttl : (p.ttl != q.ttl) = true := by show (!(p.ttl == q.ttl)) = true; rw [xttl]; rfl
    go_wp2_with (refine wpList_load24r _ rfl gp 3 rfl p.sv p.sb A1 HC1.out (by exact HR1.out) hl1 rfl ?_; refine Hid.out ?_)
    refine Lib.hid ?_
    go_wp2_with (refine wpList_load24r _ rfl gq 3 rfl q.sv q.sb A2 HC2.out (by exact HR2.out) hl3 rfl ?_; refine Hid.out ?_)
    refine Lib.hid ?_
    go_wp2_with (refine wpList_ne24g _ _ rfl A1 A2 rfl rfl _ H24A.out rfl ?_; refine Hid.out ?_)
    refine Lib.hid ?_
    go_wp2_with (refine wpList_load24r _ rfl gp 20 rfl p.dv p.db A3 HC3.out (by exact HR3.out) hl2 rfl ?_; refine Hid.out ?_)
    refine Lib.hid ?_
    go_wp2_with (refine wpList_load24r _ rfl gq 20 rfl q.dv q.db A4 HC4.out (by exact HR4.out) hl4 rfl ?_; refine Hid.out ?_)
    refine Lib.hid ?_
    go_wp2_with (refine wpList_ne24g _ _ rfl A3 A4 rfl rfl _ H24B.out rfl ?_; refine Hid.out ?_)
    refine Lib.hid ?_
    go_wp2_with fail
    go_ret
    exact ⟨rfl, HA.out⟩
  have xttl : (p.ttl == q.ttl) = true := ettl.out
  have yttl : (p.ttl != q.ttl) = false := by show (!(p.ttl == q.ttl)) = false; rw [xttl]; rfl
  go_wp2_with (refine wpList_load24r _ rfl gp 3 rfl p.sv p.sb A1 HC1.out (by exact HR1.out) hl1 rfl ?_; refine Hid.out ?_)
  refine Lib.hid ?_
  go_wp2_with (refine wpList_load24r _ rfl gq 3 rfl q.sv q.sb A2 HC2.out (by exact HR2.out) hl3 rfl ?_; refine Hid.out ?_)
  refine Lib.hid ?_
  go_wp2_with (refine wpList_ne24g _ _ rfl A1 A2 rfl rfl _ H24A.out rfl ?_; refine Hid.out ?_)
  refine Lib.hid ?_
  go_wp2_with (refine wpList_load24r _ rfl gp 20 rfl p.dv p.db A3 HC3.out (by exact HR3.out) hl2 rfl ?_; refine Hid.out ?_)
  refine Lib.hid ?_
  go_wp2_with (refine wpList_load24r _ rfl gq 20 rfl q.dv q.db A4 HC4.out (by exact HR4.out) hl4 rfl ?_; refine Hid.out ?_)
  refine Lib.hid ?_
  go_wp2_with (refine wpList_ne24g _ _ rfl A3 A4 rfl rfl _ H24B.out rfl ?_; refine Hid.out ?_)
  refine Lib.hid ?_
  go_upto_region 3 with fail
  clear p_v q_v xv yv p_tos q_tos xtos ytos p_flow q_flow xflow yflow p_proto q_proto xproto yproto p_ttl q_ttl xttl yttl
  have cp := HBP.out.cells HAP.out
  have cq := HBQ.out.cells HAQ.out
  have p_id := cp.id; have q_id := cq.id
  have p_df := cp.df; have q_df := cq.df
  have p_more := cp.more; have q_more := cq.more
  have p_frag := cp.frag; have q_frag := cq.frag
  have p_off := cp.off; have q_off := cq.off
  have p_o := cp.o; have q_o := cq.o
  clear cp cq
  cases b8
  · obtain rfl : z = false := by rw [HZ.out]; simp
    have xid : (p.id == q.id) = false := eid.out
    have yid : (p.id != q.id) = true := by show (!(p.id == q.id)) = true; rw [xid]; rfl
    go_wp2_with fail
    go_ret
    exact ⟨rfl, HA.out⟩
  have xid : (p.id == q.id) = true := eid.out
  have yid : (p.id != q.id) = false := by show (!(p.id == q.id)) = false; rw [xid]; rfl
  cases b9
  · obtain rfl : z = false := by rw [HZ.out]; simp
    have xdf : (p.df == q.df) = false := edf.out
    have ydf : (p.df != q.df) = true := by show (!(p.df == q.df)) = true; rw [xdf]; rfl
    go_wp2_with fail
    go_ret
    exact ⟨rfl, HA.out⟩
  have xdf : (p.df == q.df) = true := edf.out
  have ydf : (p.df != q.df) = false := by show (!(p.df == q.df)) = false; rw [xdf]; rfl
  cases b10
  · obtain rfl : z = false := by rw [HZ.out]; simp
    have xmore : (p.more == q.more) = false := emore.out
    have ymore : (p.more != q.more) = true := by show (!(p.more == q.more)) = true; rw [xmore]; rfl
    go_wp2_with fail
    go_ret
    exact ⟨rfl, HA.out⟩
  have xmore : (p.more == q.more) = true := emore.out
  have ymore : (p.more != q.more) = false := by show (!(p.more == q.more)) = false; rw [xmore]; rfl
  cases b11
  · obtain rfl : z = false := by rw [HZ.out]; simp
    have xfrag : (p.frag == q.frag) = false := efrag.out
    have yfrag : (p.frag != q.frag) = true := by show (!(p.frag == q.frag)) = true; rw [xfrag]; rfl
    go_wp2_with fail
    go_ret
    exact ⟨rfl, HA.out⟩
  have xfrag : (p.frag == q.frag) = true := efrag.out
  have yfrag : (p.frag != q.frag) = false := by show (!(p.frag == q.frag)) = false; rw [xfrag]; rfl
  cases b12
  · obtain rfl : z = false := by rw [HZ.out]; simp
    have xoff : (p.off == q.off) = false := eoff.out
    have yoff : (p.off != q.off) = true := by show (!(p.off == q.off)) = true; rw [xoff]; rfl
    go_wp2_with fail
    go_ret
    exact ⟨rfl, HA.out⟩
  have xoff : (p.off == q.off) = true := eoff.out
  have yoff : (p.off != q.off) = false := by show (!(p.off == q.off)) = false; rw [xoff]; rfl
  go_wp2_with fail
  refine (KO.out _ HA.out).mono ?_
  rintro E w3 ⟨rfl, haw⟩
  replace HBP := Lib.hid (HBP.out.on haw)
  replace HBQ := Lib.hid (HBQ.out.on haw)
  replace HA := Lib.hid (HA.out.on haw)
  clear haw KO p_id q_id p_df q_df p_more q_more p_frag q_frag p_off q_off p_o q_o xid yid xdf ydf xmore ymore xfrag yfrag xoff yoff
  cases b13
  · obtain rfl : z = false := by rw [HZ.out]; simp
    go_wp2_with fail
    go_ret
    exact ⟨rfl, HA.out⟩
  have p_d := (HBP.out.cells HAP.out).d
  have q_d := (HBQ.out.cells HAQ.out).d
  go_wp2_with fail
  refine (KD.out _ HA.out).mono ?_
  rintro E w4 ⟨rfl, haw⟩
  replace HA := Lib.hid (HA.out.on haw)
  clear haw KD p_d q_d
  obtain rfl : z = b14 := by rw [HZ.out]; simp
  go_wp2_with fail
  go_ret
  exact ⟨rfl, HA.out⟩
theorem rgt_four {p : Pk} (h4 : ¬ p.v = 4) : rightP p = false := by
  cases hr : rightP p
  · rfl
  · exact absurd ((right_iff p).1 hr).1.v h4
theorem dright_c (p : Pk) (ov dv : Value) (w : World) (hp : Pkt w p ov dv) :
    Calls Tryz.prog 22 #[.agg (csP p ov dv)] w fun E w' => E = .returned (.bool (rgtP p)) ∧ Away [] w w' := by
  have HAD := Lib.hid hp.wf.ad
  have K5 : Hid (∀ W, Away [] w W → Calls Tryz.prog 37 #[.agg (csP p ov dv)] W fun E w' => E = .returned (.bool (rightP p)) ∧ Away [] W w') := fun W h => rright_c p ov dv W (hp.on h)
  have K6 : Hid (∀ W, Away [] w W → Calls Tryz.prog 38 #[.agg (csP p ov dv)] W fun E w' => E = .returned (.bool (S6.rightP p)) ∧ Away [] W w') := fun W h => S6.rright_c p ov dv W (hp.on h).six
  obtain ⟨ans, hans⟩ : ∃ z, z = rgtP p := ⟨_, rfl⟩
  rw [← hans]
  have HE : Hid (ans = if p.v = 6 then S6.rightP p else rightP p) := hans
  clear hp hans
  go_enter Tryz.func22, Tryz.ntmps22
  go_wp2_with (refine wpList_box28 rfl _ rfl p _ _ rfl ?_; refine Hid.out ?_)
  refine Lib.hid ?_
  intro g1 w1 hg1 hb haw
  have HA := Lib.hid haw
  have HB := Lib.hid hb
  have c0 := (hb.cells HAD.out).v
  clear hb haw hg1
  by_cases h4 : p.v = 4
  · rw [h4] at c0
    have HE4 : Hid (ans = rightP p) := by show _ = _; rw [HE.out, if_neg (by omega)]
    clear h4
    go_wp2_with (refine wpList_load28 rfl _ rfl _ rfl p _ _ (by exact HB.out) HAD.out ?_)
    refine (K5.out _ HA.out).mono ?_
    rintro E w2 ⟨rfl, haw⟩
    replace HA := Lib.hid (HA.out.trans haw)
    clear haw K5 K6
    rw [← HE4.out]
    go_wp2_with fail
    go_ret
    exact ⟨rfl, HA.out⟩
  · have e4 : (p.v == 4) = false := by simpa using h4
    by_cases h6 : p.v = 6
    · rw [h6] at c0
      have HE6 : Hid (ans = S6.rightP p) := by show _ = _; rw [HE.out, if_pos h6]
      clear h4 h6 e4
      go_wp2_with (refine wpList_load28 rfl _ rfl _ rfl p _ _ (by exact HB.out) HAD.out ?_)
      refine (K6.out _ HA.out).mono ?_
      rintro E w2 ⟨rfl, haw⟩
      replace HA := Lib.hid (HA.out.trans haw)
      clear haw K5 K6
      rw [← HE6.out]
      go_wp2_with fail
      go_ret
      exact ⟨rfl, HA.out⟩
    · have e6 : (p.v == 6) = false := by simpa using h6
      obtain rfl : ans = false := by rw [HE.out, if_neg h6]; exact rgt_four h4
      generalize p.v = pv at *
      clear K5 K6
      go_wp2_with fail
      go_ret
      exact ⟨rfl, HA.out⟩
#print axioms dright_c
end Go.Proofs.YtaicckenpplceaaGreatDoor
