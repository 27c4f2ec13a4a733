/-
  The document: alike, ends, at.
-/
import Derived.Test.YtaicckenpplceaaGreatDoorDs
import Derived.Test.YtaicckenpplceaaGreatDoorJnP
import Derived.Test.YtaicckenpplceaaGreatDoorQ32
namespace Go.Proofs.YtaicckenpplceaaGreatDoor
open Go.ChangeShapes Go.WideShapes Go.ChangeAt Go.RowKit Num
open S6 (wp_region_cls quiet_val quiet_call quiet_ld ld3 ld4 ld5 ld25 ld26 load28_run load24m_run)
set_option linter.unusedVariables false
set_option linter.unusedSimpArgs false
set_option maxHeartbeats 8000000
set_option maxRecDepth 100000

theorem listP_fld {p : Pk} (h : Ad p) (ov dv : Value) : (listP p ov dv)[41]? = some (.bool p.more) ∧ (listP p ov dv)[43]? = some (.int .i64 p.off) ∧ (listP p ov dv)[45]? = some dv := by
  obtain ⟨v, tos, flow, sv, sb, dv', db, proto, ttl, id, df, more, frag, off, o, d⟩ := p
  obtain ⟨h1, h2⟩ := h
  simp only at h1 h2
  obtain ⟨b0, b1, b2, b3, b4, b5, b6, b7, b8, b9, b10, b11, b12, b13, b14, b15, rfl⟩ := list16 h1
  obtain ⟨c0, c1, c2, c3, c4, c5, c6, c7, c8, c9, c10, c11, c12, c13, c14, c15, rfl⟩ := list16 h2
  exact ⟨rfl, rfl, rfl⟩
namespace R
/-- ends. -/
theorem ends_c (p : Pk) (ov dv : Value) (w : World) (hp : Pkt w p ov dv) (h0 : 0 ≤ p.off) (h1 : p.off ≤ 65528) :
    Calls Tryz.prog 36 #[.agg (csP p ov dv)] w fun E w' => E = .returned (.int .i64 (p.off + p.d.length)) ∧ Away [] w w' := by
  have HAD := Lib.hid hp.wf.ad
  have hdn := hp.wf.dn
  obtain ⟨hwf, ho, ⟨ad, capd, rfl, q1, q2, q3⟩⟩ := hp
  clear hwf ho q1 q2 q3
  go_enter Tryz.func36, Tryz.ntmps36
  go_wp2_with (refine wpList_box28 rfl _ rfl p _ _ rfl ?_; refine Hid.out ?_)
  refine Lib.hid ?_
  intro g w1 hg hb haw
  have HA : Hid (Away [] w w1) := haw
  have c43 := (hb.cells HAD.out).off
  have c45 := (hb.cells HAD.out).d
  clear hb haw hg
  go_wp2_with fail
  go_ret
  exact ⟨by apply ret_int; go_num, HA.out⟩
theorem alike_c (p q : Pk) (ov dv ou du : Value) (w : World) (hp : Pkt w p ov dv) (hq : Pkt w q ou du) :
    Calls Tryz.prog 35 #[.agg (csP p ov dv), .agg (csP q ou du)] w fun E w' => E = .returned (.bool (keyB p q)) ∧ Away [] w w' := by
  obtain ⟨z, hz⟩ : ∃ z, z = keyB p q := ⟨_, rfl⟩
  rw [← hz]
  unfold keyB at hz
  have h24a := eq24 p.sv q.sv p.sb q.sb hp.wf.sl hq.wf.sl
  have h24b := eq24 p.dv q.dv p.db q.db hp.wf.dl hq.wf.dl
  obtain ⟨A1, hA1⟩ : ∃ A, A = csA p.sv p.sb := ⟨_, rfl⟩
  obtain ⟨A2, hA2⟩ : ∃ A, A = csA q.sv q.sb := ⟨_, rfl⟩
  obtain ⟨A3, hA3⟩ : ∃ A, A = csA p.dv p.db := ⟨_, rfl⟩
  obtain ⟨A4, hA4⟩ : ∃ A, A = csA q.dv q.db := ⟨_, rfl⟩
  rw [← hA1, ← hA2] at h24a
  rw [← hA3, ← hA4] at h24b
  have HC1 := Lib.hid hA1; have HC2 := Lib.hid hA2; have HC3 := Lib.hid hA3; have HC4 := Lib.hid hA4
  clear hA1 hA2 hA3 hA4
  have HAP := Lib.hid hp.wf.ad
  have HAQ := Lib.hid hq.wf.ad
  have hl1 := hp.wf.sl; have hl2 := hp.wf.dl; have hl3 := hq.wf.sl; have hl4 := hq.wf.dl
  obtain ⟨-, ⟨o1, o2, rfl, -⟩, ⟨o3, o4, rfl, -⟩⟩ := hp
  obtain ⟨-, ⟨o5, o6, rfl, -⟩, ⟨o7, o8, rfl, -⟩⟩ := hq
  have HZ := Lib.hid hz
  clear hz
  have ev : Hid ((p.v == q.v) = decide (p.v = q.v)) := Lib.hid rfl
  generalize hb1 : decide (p.v = q.v) = b1 at HZ ev
  clear hb1
  have eproto : Hid ((p.proto == q.proto) = decide (p.proto = q.proto)) := Lib.hid rfl
  generalize hb4 : decide (p.proto = q.proto) = b4 at HZ eproto
  clear hb4
  have eid : Hid ((p.id == q.id) = decide (p.id = q.id)) := Lib.hid rfl
  generalize hb5 : decide (p.id = q.id) = b5 at HZ eid
  clear hb5
  generalize hb2 : (decide (p.sv = q.sv) && eqL p.sb q.sb) = b2 at HZ h24a
  clear hb2
  generalize hb3 : (decide (p.dv = q.dv) && eqL p.db q.db) = b3 at HZ h24b
  clear hb3
  have H24A := Lib.hid h24a
  have H24B := Lib.hid h24b
  clear h24a h24b
  generalize p.o.length = no at *
  generalize p.d.length = nd at *
  generalize q.o.length = mo at *
  generalize q.d.length = md at *
  go_enter Tryz.func35, Tryz.ntmps35
  go_wp2_with (refine wpList_box28 rfl _ rfl p _ _ rfl ?_; refine Hid.out ?_)
  refine Lib.hid ?_
  intro gp w1 hg1 hbp haw1
  go_wp2_with (first | (refine wpList_box28 rfl _ rfl q _ _ rfl ?_; refine Hid.out ?_))
  refine Lib.hid ?_
  intro gq w2 hg2 hbq haw2
  have HBP := Lib.hid (hbp.on haw2)
  have HBQ := Lib.hid hbq
  have HA := Lib.hid (haw1.next haw2 (by simp))
  clear hbp hbq haw1 haw2 hg1 hg2
  have cp := HBP.out.cells HAP.out
  have cq := HBQ.out.cells HAQ.out
  have p_v := cp.v; have q_v := cq.v
  have p_proto := cp.proto; have q_proto := cq.proto
  have p_id := cp.id; have q_id := cq.id
  have HR1 := Lib.hid HBP.out.srow
  have HR2 := Lib.hid HBQ.out.srow
  have HR3 := Lib.hid (HBP.out.drow HAP.out)
  have HR4 := Lib.hid (HBQ.out.drow HAQ.out)
  clear cp cq HBP HBQ
  cases b1
  · obtain rfl : z = false := by rw [HZ.out]; simp
    have xv : (p.v == q.v) = false := ev.out
    go_wp2_with fail
    go_ret
    exact ⟨rfl, HA.out⟩
  have xv : (p.v == q.v) = true := ev.out
  cases b2
  · obtain rfl : z = false := by rw [HZ.out]; simp
    go_wp2_with (refine wpList_load24r _ rfl gp 3 rfl p.sv p.sb A1 HC1.out (by exact HR1.out) hl1 rfl ?_; refine Hid.out ?_)
    refine Lib.hid ?_
    go_wp2_with (refine wpList_load24r _ rfl gq 3 rfl q.sv q.sb A2 HC2.out (by exact HR2.out) hl3 rfl ?_; refine Hid.out ?_)
    refine Lib.hid ?_
    go_wp2_with (refine wpList_eq24 _ _ rfl A1 A2 rfl rfl _ H24A.out rfl ?_; refine Hid.out ?_)
    refine Lib.hid ?_
    go_wp2_with fail
    go_ret
    exact ⟨rfl, HA.out⟩
  cases b3
  · obtain rfl : z = false := by rw [HZ.out]; simp
    go_wp2_with (refine wpList_load24r _ rfl gp 3 rfl p.sv p.sb A1 HC1.out (by exact HR1.out) hl1 rfl ?_; refine Hid.out ?_)
    refine Lib.hid ?_
    go_wp2_with (refine wpList_load24r _ rfl gq 3 rfl q.sv q.sb A2 HC2.out (by exact HR2.out) hl3 rfl ?_; refine Hid.out ?_)
    refine Lib.hid ?_
    go_wp2_with (refine wpList_eq24 _ _ rfl A1 A2 rfl rfl _ H24A.out rfl ?_; refine Hid.out ?_)
    refine Lib.hid ?_
    go_wp2_with (refine wpList_load24r _ rfl gp 20 rfl p.dv p.db A3 HC3.out (by exact HR3.out) hl2 rfl ?_; refine Hid.out ?_)
    refine Lib.hid ?_
    go_wp2_with (refine wpList_load24r _ rfl gq 20 rfl q.dv q.db A4 HC4.out (by exact HR4.out) hl4 rfl ?_; refine Hid.out ?_)
    refine Lib.hid ?_
    go_wp2_with (refine wpList_eq24 _ _ rfl A3 A4 rfl rfl _ H24B.out rfl ?_; refine Hid.out ?_)
    refine Lib.hid ?_
    go_wp2_with fail
    go_ret
    exact ⟨rfl, HA.out⟩
  cases b4
  · obtain rfl : z = false := by rw [HZ.out]; simp
    have xproto : (p.proto == q.proto) = false := eproto.out
    go_wp2_with (refine wpList_load24r _ rfl gp 3 rfl p.sv p.sb A1 HC1.out (by exact HR1.out) hl1 rfl ?_; refine Hid.out ?_)
    refine Lib.hid ?_
    go_wp2_with (refine wpList_load24r _ rfl gq 3 rfl q.sv q.sb A2 HC2.out (by exact HR2.out) hl3 rfl ?_; refine Hid.out ?_)
    refine Lib.hid ?_
    go_wp2_with (refine wpList_eq24 _ _ rfl A1 A2 rfl rfl _ H24A.out rfl ?_; refine Hid.out ?_)
    refine Lib.hid ?_
    go_wp2_with (refine wpList_load24r _ rfl gp 20 rfl p.dv p.db A3 HC3.out (by exact HR3.out) hl2 rfl ?_; refine Hid.out ?_)
    refine Lib.hid ?_
    go_wp2_with (refine wpList_load24r _ rfl gq 20 rfl q.dv q.db A4 HC4.out (by exact HR4.out) hl4 rfl ?_; refine Hid.out ?_)
    refine Lib.hid ?_
    go_wp2_with (refine wpList_eq24 _ _ rfl A3 A4 rfl rfl _ H24B.out rfl ?_; refine Hid.out ?_)
    refine Lib.hid ?_
    go_wp2_with fail
    go_ret
    exact ⟨rfl, HA.out⟩
  have xproto : (p.proto == q.proto) = true := eproto.out
  cases b5
  · obtain rfl : z = false := by rw [HZ.out]; simp
    have xid : (p.id == q.id) = false := eid.out
    go_wp2_with (refine wpList_load24r _ rfl gp 3 rfl p.sv p.sb A1 HC1.out (by exact HR1.out) hl1 rfl ?_; refine Hid.out ?_)
    refine Lib.hid ?_
    go_wp2_with (refine wpList_load24r _ rfl gq 3 rfl q.sv q.sb A2 HC2.out (by exact HR2.out) hl3 rfl ?_; refine Hid.out ?_)
    refine Lib.hid ?_
    go_wp2_with (refine wpList_eq24 _ _ rfl A1 A2 rfl rfl _ H24A.out rfl ?_; refine Hid.out ?_)
    refine Lib.hid ?_
    go_wp2_with (refine wpList_load24r _ rfl gp 20 rfl p.dv p.db A3 HC3.out (by exact HR3.out) hl2 rfl ?_; refine Hid.out ?_)
    refine Lib.hid ?_
    go_wp2_with (refine wpList_load24r _ rfl gq 20 rfl q.dv q.db A4 HC4.out (by exact HR4.out) hl4 rfl ?_; refine Hid.out ?_)
    refine Lib.hid ?_
    go_wp2_with (refine wpList_eq24 _ _ rfl A3 A4 rfl rfl _ H24B.out rfl ?_; refine Hid.out ?_)
    refine Lib.hid ?_
    go_wp2_with fail
    go_ret
    exact ⟨rfl, HA.out⟩
  have xid : (p.id == q.id) = true := eid.out
  obtain rfl : z = true := by rw [HZ.out]; simp
  go_wp2_with (refine wpList_load24r _ rfl gp 3 rfl p.sv p.sb A1 HC1.out (by exact HR1.out) hl1 rfl ?_; refine Hid.out ?_)
  refine Lib.hid ?_
  go_wp2_with (refine wpList_load24r _ rfl gq 3 rfl q.sv q.sb A2 HC2.out (by exact HR2.out) hl3 rfl ?_; refine Hid.out ?_)
  refine Lib.hid ?_
  go_wp2_with (refine wpList_eq24 _ _ rfl A1 A2 rfl rfl _ H24A.out rfl ?_; refine Hid.out ?_)
  refine Lib.hid ?_
  go_wp2_with (refine wpList_load24r _ rfl gp 20 rfl p.dv p.db A3 HC3.out (by exact HR3.out) hl2 rfl ?_; refine Hid.out ?_)
  refine Lib.hid ?_
  go_wp2_with (refine wpList_load24r _ rfl gq 20 rfl q.dv q.db A4 HC4.out (by exact HR4.out) hl4 rfl ?_; refine Hid.out ?_)
  refine Lib.hid ?_
  go_wp2_with (refine wpList_eq24 _ _ rfl A3 A4 rfl rfl _ H24B.out rfl ?_; refine Hid.out ?_)
  refine Lib.hid ?_
  go_wp2_with fail
  go_ret
  exact ⟨rfl, HA.out⟩
/-- at. -/
theorem at_c (a : Option Addr) (xs : List X) (n cap : Nat) (z : Int) (w : World) (hn : xs.length = n) (hx : Pks w a xs) :
    Calls Tryz.prog 20 #[.slice a n cap, .int .i64 z] w fun E w' => ∃ zi : Int, E = .returned (.int .i64 zi) ∧ w' = w ∧ ((∃ (i : Nat) (x : X), zi = (i : Int) ∧ xs[i]? = some x ∧ x.p.off = z) ∨ (zi = -1 ∧ ∀ x ∈ xs, x.p.off ≠ z)) := by
  have HX := Lib.hid hx
  have HL := Lib.hid hn
  have hNb : n ≤ 925904528640 := by rw [← hn]; exact hx.1
  clear hx hn
  go_enter Tryz.func20, Tryz.ntmps20
  go_wp2_with fail
  go_loopw [5] (fun iv wr => ∃ i : Nat, iv = .int .i64 (i : Int) ∧ i ≤ n ∧ (∀ x ∈ xs.take i, x.p.off ≠ z) ∧ wr = w) (fun iv _ => n - (intOf iv).toNat)
  case atStart => exact ⟨0, rfl, by omega, by simp, rfl⟩
  case round =>
    obtain ⟨i, rfl, hi, hno, hwr⟩ := hrel
    subst hwr
    have HNO := Lib.hid hno
    clear hno
    by_cases hiN : i < n
    · obtain ⟨x, hxi, hxm⟩ := get_of (show i < xs.length by rw [HL.out]; exact hiN)
      obtain ⟨b1, o1, ha1, r1, k1⟩ := HX.out.at hxi
      subst ha1
      have cq : wr.cell? ⟨b1, o1 + i * 46 + 43, none⟩ = some (.int .i64 x.p.off) := r1 43 _ (listP_fld k1.wf.ad x.o x.d).2.1
      have HXI := Lib.hid hxi
      obtain ⟨xo, hxo⟩ : ∃ z, z = x.p.off := ⟨_, rfl⟩
      rw [← hxo] at cq
      have HXO := Lib.hid hxo
      have HTK : Hid (xs.take (i + 1) = xs.take i ++ [x]) := by
        show _ = _
        have h1 := lt_of_get hxi
        have h2 : xs[i] = x := by have h3 := hxi; rw [List.getElem?_eq_getElem h1] at h3; simpa using h3
        rw [List.take_succ_eq_append_getElem h1, h2]
      have j0 : 0 ≤ (i : Int) := by omega
      have j1 : (i : Int) < (n : Int) := by omega
      have j2 : ((i : Int)).toNat = i := by omega
      clear hxi hxm r1 k1 hxo
      by_cases he : xo = z
      · have e1 : (xo == z) = true := by simpa using he
        have HE := Lib.hid he
        clear he
        go_wp2_with fail
        go_ret
        exact ⟨_, rfl, rfl, .inl ⟨i, x, rfl, HXI.out, by rw [← HXO.out]; exact HE.out⟩⟩
      · have e1 : (xo == z) = false := by simpa using he
        have HNX : Hid (∀ y ∈ xs.take (i + 1), y.p.off ≠ z) := fun y hy => by
          rw [HTK.out] at hy
          rcases List.mem_append.1 hy with hy | hy
          · exact HNO.out y hy
          · simp at hy; subst hy; rw [← HXO.out]; exact he
        clear he
        go_wp2_with fail
        go_roundw
        case rel => exact ⟨i + 1, by go_num, by omega, HNX.out, by first | trivial | rfl⟩
        case measure => simp [intOf]; omega
    · obtain rfl : i = n := by omega
      have HNX : Hid (∀ y ∈ xs, y.p.off ≠ z) := fun y hy => HNO.out y (by rw [List.take_of_length_le (by rw [HL.out]; omega)]; exact hy)
      go_wp2_with fail
      go_ret
      exact ⟨_, rfl, rfl, .inr ⟨rfl, HNX.out⟩⟩
end R
#print axioms R.at_c
end Go.Proofs.YtaicckenpplceaaGreatDoor
