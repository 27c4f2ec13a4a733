/-
  Ip4Fields: P5.3, each field at its place.
-/
import Derived.Test.YtkfbhofbajejiaaDoorTurn
import Derived.Test.YtkfbhofbajejiaaDoorLex
import Derived.Deep.CutBlock
import Derived.Deep.DeepCutAuto
namespace Go.Proofs.YtkfbhofbajejiaaDoor
open Go.ChangeShapes Go.WideShapes Go.ChangeAt Go.RowKit Go.Deep Num
set_option linter.unusedVariables false
set_option maxHeartbeats 4000000
set_option maxRecDepth 100000

theorem arr4s (g : Nat) (w : World) : (Instr.sliceAt 22 (.pointer (some ⟨g, 4, none⟩)) none (some (.int .i64 4)) none).run Tryd.prog w = .ok (.slice (some ⟨g, 4, none⟩) 4 16) w := by kernel_rfl
theorem arr4d (g : Nat) (w : World) : (Instr.sliceAt 22 (.pointer (some ⟨g, 21, none⟩)) none (some (.int .i64 4)) none).run Tryd.prog w = .ok (.slice (some ⟨g, 21, none⟩) 4 16) w := by kernel_rfl
theorem load26_run {w : World} {ad : Addr} {v : Value} (h : w.cell? ad = some v) (hv : ∃ a n c, v = .slice a n c) : (Instr.loadAt 26 (.pointer (some ad))).run Tryd.prog w = .ok v w := by
  obtain ⟨a, n, c, rfl⟩ := hv
  simp [go_sem, Instr.loadAt, h]
theorem quiet_load26 {o : Oper} {a : Act} {C : World → Prop} {K : Act → Prop} (x : Operand) (ho : o.op = .load 26 x) (ad : Addr) (hx : a.eval x = .pointer (some ad)) (v : Value) (hv : ∃ a n c, v = .slice a n c) (hC : ∀ w, C w → w.cell? ad = some v) (hk : K (a.put o.dst v)) : o.quiet Tryd.prog a C K := by
  refine ⟨v, fun w hw => ?_, hk⟩
  unfold Oper.quietAt execOp
  simp only [ho, hx, Sem.run_bind, load26_run (hC w hw) hv, Result.andThen_ok]
  exact ⟨rfl, rfl⟩
theorem load5_run {w : World} {ad : Addr} {n : Int} (h : w.cell? ad = some (.int .u8 n)) : (Instr.loadAt 5 (.pointer (some ad))).run Tryd.prog w = .ok (.int .u8 n) w := by simp [go_sem, Instr.loadAt, h]
theorem load3_run {w : World} {ad : Addr} {n : Int} (h : w.cell? ad = some (.int .i64 n)) : (Instr.loadAt 3 (.pointer (some ad))).run Tryd.prog w = .ok (.int .i64 n) w := by simp [go_sem, Instr.loadAt, h]
theorem load25_run {w : World} {ad : Addr} {n : Int} (h : w.cell? ad = some (.int .u32 n)) : (Instr.loadAt 25 (.pointer (some ad))).run Tryd.prog w = .ok (.int .u32 n) w := by simp [go_sem, Instr.loadAt, h]
theorem quiet_loadv {o : Oper} {a : Act} {C : World → Prop} {K : Act → Prop} (t : TypeId) (x : Operand) (ho : o.op = .load t x) (ad : Addr) (hx : a.eval x = .pointer (some ad)) (v : Value) (hC : ∀ w, C w → (Instr.loadAt t (.pointer (some ad))).run Tryd.prog w = .ok v w) (hk : K (a.put o.dst v)) : o.quiet Tryd.prog a C K := by
  refine ⟨v, fun w hw => ?_, hk⟩
  unfold Oper.quietAt execOp
  simp only [ho, hx, Sem.run_bind, hC w hw, Result.andThen_ok]
  exact ⟨rfl, rfl⟩
theorem index26 (g n cap i : Nat) (z : Int) (hz : z = (i : Int)) (hi : i < n) (W : World) : (Instr.indexAt 26 (.slice (some ⟨g, 0, none⟩) n cap) (.int .i64 z)).run Tryd.prog W = .ok (.pointer (some ⟨g, i, none⟩)) W := by
  subst hz
  rw [run_indexAt_slice (h := under22), if_pos ⟨by omega, by omega⟩, size5]
  simp only [Result.andThen, add_plain, Int.toNat_natCast, Nat.mul_one, Nat.zero_add]
theorem quiet_index26 {o : Oper} {a : Act} {C : World → Prop} {K : Act → Prop} (x ix : Operand) (ho : o.op = .indexAddr 26 x ix) (g n cap i : Nat) (z : Int) (hx : a.eval x = .slice (some ⟨g, 0, none⟩) n cap) (hix : a.eval ix = .int .i64 z) (hz : z = (i : Int)) (hi : i < n) (hk : K (a.put o.dst (.pointer (some ⟨g, i, none⟩)))) : o.quiet Tryd.prog a C K := by
  refine ⟨.pointer (some ⟨g, i, none⟩), fun w hw => ?_, hk⟩
  unfold Oper.quietAt execOp
  simp only [ho, hx, hix, Sem.run_bind, index26 g n cap i z hz hi w, Result.andThen_ok]
  exact ⟨rfl, rfl⟩
theorem and16 (z : Int) (h0 : 0 ≤ z) (h1 : z ≤ 4000000) : bits .and .i64 z 65535 = z % 65536 := by
  obtain ⟨n, rfl⟩ := Int.eq_ofNat_of_zero_le h0
  have e : bits .and .i64 (n : Int) 65535 = IntKind.i64.wrap ((BitVec.ofInt 64 (n : Int) &&& BitVec.ofInt 64 65535).toNat : Nat) := rfl
  have h2 : (BitVec.ofInt 64 (n : Int)).toNat = n := by rw [BitVec.toNat_ofInt]; omega
  rw [e, BitVec.toNat_and, h2, show (BitVec.ofInt 64 65535).toNat = 2 ^ 16 - 1 from by decide, Nat.and_two_pow_sub_one_eq_mod, IntKind.wrap_i64]
  omega
theorem fold_turn {z : Int} (h : 65535 < z) : fold (z / 65536 + z % 65536) = fold z := fold_congr (by omega) (by omega) (by omega) (by omega)
theorem ws_take2 (b : List Int) (k : Nat) (h : 2 * k + 1 < b.length) : ws true (b.take (2 * k + 2)) = ws true (b.take (2 * k)) + b[2 * k]?.getD 0 * 256 + b[2 * k + 1]?.getD 0 := by
  have e1 : b.take (2 * k + 2) = b.take (2 * k) ++ [b[2 * k]?.getD 0, b[2 * k + 1]?.getD 0] := by
    rw [show 2 * k + 2 = 2 * k + 1 + 1 from rfl, List.take_succ_eq_append_getElem h, List.take_succ_eq_append_getElem (by omega : 2 * k < b.length), List.append_assoc, List.getElem?_eq_getElem h, List.getElem?_eq_getElem (by omega : 2 * k < b.length)]
    rfl
  have e2 : ((b.take (2 * k)).length % 2 == 0) = true := by
    rw [List.length_take, Nat.min_eq_left (by omega)]; simp
  rw [e1, ws_app, e2]
  simp [ws]
  omega
theorem lay_sum {q : Pk} (hw : Wf q) (hr : rightP q = true) : fold (ws true ((lay4 q).take (20 + q.o.length))) = 65535 := by
  obtain ⟨hf, hv⟩ := (right_iff q).1 hr
  have h40 := (valid_len hv).1
  have e : (lay4 q).take (20 + q.o.length) = layH q := by rw [← layH_len hw]; exact List.take_left
  rw [e]
  have hB := hd_bytes hw hf h40 (x := 0) (y := 0) (by omega) (by omega)
  have hl := hd_len hw.sl hw.dl 0 0
  exact pt_verifies (hd q 0 0) 5 (by omega) hB rfl rfl
theorem i64_or (a b : Nat) (ha : a < 4611686018427387904) (hb : b < 4611686018427387904) (hab : a ||| b < 4611686018427387904) : bits .or .i64 (a : Int) (b : Int) = ((a ||| b : Nat) : Int) := by
  have e : bits .or .i64 (a : Int) (b : Int) = IntKind.i64.wrap ((BitVec.ofInt 64 (a : Int) ||| BitVec.ofInt 64 (b : Int)).toNat : Nat) := rfl
  have h1 : (BitVec.ofInt 64 (a : Int)).toNat = a := by rw [BitVec.toNat_ofInt]; omega
  have h2 : (BitVec.ofInt 64 (b : Int)).toNat = b := by rw [BitVec.toNat_ofInt]; omega
  rw [e, BitVec.toNat_or, h1, h2, IntKind.wrap_i64]
  omega
theorem orB64 (x y : Int) (hx : 0 ≤ x ∧ x ≤ 255) (hy : 0 ≤ y ∧ y ≤ 255) : bits .or .i64 (x * 256) y = 256 * x + y := by
  obtain ⟨a, rfl⟩ := Int.eq_ofNat_of_zero_le hx.1
  obtain ⟨b, rfl⟩ := Int.eq_ofNat_of_zero_le hy.1
  have e : a * 256 ||| b = 2 ^ 8 * a + b := by rw [show a * 256 = 2 ^ 8 * a from by omega, ← Nat.two_pow_add_eq_or_of_lt (by omega)]
  rw [show (a : Int) * 256 = ((a * 256 : Nat) : Int) from by omega, i64_or _ _ (by omega) (by omega) (by omega), e]
  omega
theorem orB32 (x y : Int) (hx : 0 ≤ x ∧ x ≤ 255) (hy : 0 ≤ y ∧ y ≤ 255) : bits .or .u32 (x * 256) y = 256 * x + y := by
  obtain ⟨a, rfl⟩ := Int.eq_ofNat_of_zero_le hx.1
  obtain ⟨b, rfl⟩ := Int.eq_ofNat_of_zero_le hy.1
  have e : a * 256 ||| b = 2 ^ 8 * a + b := by rw [show a * 256 = 2 ^ 8 * a from by omega, ← Nat.two_pow_add_eq_or_of_lt (by omega)]
  rw [show (a : Int) * 256 = ((a * 256 : Nat) : Int) from by omega, u32_or_nat _ _ (by omega) (by omega), e]
  omega
theorem or64_14 (a : Int) (h0 : 0 ≤ a) (h1 : a < 8192) : bits .or .i64 a 16384 = a + 16384 := by
  obtain ⟨n, rfl⟩ := Int.eq_ofNat_of_zero_le h0
  have e : n ||| 16384 = 2 ^ 14 * 1 + n := by rw [Nat.two_pow_add_eq_or_of_lt (by omega), Nat.or_comm]
  have := i64_or n 16384 (by omega) (by omega) (by omega)
  rw [e] at this
  rw [show ((16384 : Nat) : Int) = 16384 from rfl] at this
  omega
theorem or64_13 (a : Int) (h0 : 0 ≤ a) (h1 : a < 8192) : bits .or .i64 a 8192 = a + 8192 := by
  obtain ⟨n, rfl⟩ := Int.eq_ofNat_of_zero_le h0
  have e : n ||| 8192 = 2 ^ 13 * 1 + n := by rw [Nat.two_pow_add_eq_or_of_lt (by omega), Nat.or_comm]
  have := i64_or n 8192 (by omega) (by omega) (by omega)
  rw [e] at this
  rw [show ((8192 : Nat) : Int) = 8192 from rfl] at this
  omega
theorem or64_1413 (a : Int) (h0 : 0 ≤ a) (h1 : a < 8192) : bits .or .i64 (a + 16384) 8192 = a + 16384 + 8192 := by
  obtain ⟨n, rfl⟩ := Int.eq_ofNat_of_zero_le h0
  have e : (n + 16384) ||| 8192 = 2 ^ 13 * 3 + n := by
    rw [show n + 16384 = 2 ^ 13 * 2 + n from by omega, Nat.two_pow_add_eq_or_of_lt (by omega), Nat.or_assoc, Nat.or_comm n, ← Nat.or_assoc, show 2 ^ 13 * 2 ||| 8192 = 2 ^ 13 * 3 from by decide, ← Nat.two_pow_add_eq_or_of_lt (by omega)]
  have := i64_or (n + 16384) 8192 (by omega) (by omega) (by omega)
  rw [e] at this
  rw [show ((8192 : Nat) : Int) = 8192 from rfl, show ((n + 16384 : Nat) : Int) = (n : Int) + 16384 from by omega] at this
  omega

theorem walk (p : Pk) (ov dv : Value) (W : World) (hg : Glob W) (hp : Pkt W p ov dv) (_ : p.o.length ≤ 140737488351232) (_ : p.d.length ≤ 140737488351232) :
    Calls Tryd.prog 4 #[.agg (csP p ov dv)] W fun e W' => e = .returned (.bool true) ∧ Below W.heap.size W W' := by
  have HG := Lib.hid hg
  have HP := Lib.hid hp
  have HA := Lib.hid (Away.refl [] W)
  have HAP := Lib.hid hp.wf.ad
  obtain ⟨q, hq⟩ : ∃ q, q = mendP p := ⟨_, rfl⟩
  have HQW : Hid (Wf q) := by rw [hq]; exact mend_wf hp.wf
  have HQR : Hid (rightP q = true) := by rw [hq]; exact mend_right hp.wf
  have HQA := Lib.hid HQW.out.ad
  obtain ⟨b, hb4⟩ : ∃ b, b = lay4 q := ⟨_, rfl⟩
  have hbd := lay4_bd HQW.out HQR.out
  rw [← hb4] at hbd
  have HBB := Lib.hid hbd.1
  have hbl := hbd.2.1
  have HBL := Lib.hid hbd.2.2
  have HB4 := Lib.hid hb4
  have hb0 : 20 ≤ b.length := by have := HBL.out; omega
  have hpos := Lib.hid hg.pos
  clear hg hp hbd
  go_enter Tryd.func4, Tryd.ntmps4
  go_wp2_with (refine wpList_box28 rfl _ rfl p _ _ rfl ?_; refine Hid.out ?_)
  refine Lib.hid ?_
  intro g1 w1 hg_g1 hb haw
  replace HG := Lib.hid (HG.out.on haw)
  replace HP := Lib.hid (HP.out.on haw)
  replace HA := Lib.hid (HA.out.on haw)
  clear haw
  have HB1 := Lib.hid hb
  clear hb
  go_wp2_with fail
  refine (alive_c _ HG.out).mono ?_
  rintro E w2 ⟨rfl, haw⟩
  replace HG := Lib.hid (HG.out.on haw)
  replace HP := Lib.hid (HP.out.on haw)
  replace HA := Lib.hid (HA.out.on haw)
  replace HB1 := Lib.hid (HB1.out.on haw)
  clear haw
  go_wp2_with (first | (refine wpList_load28 rfl _ rfl _ rfl p _ _ (by exact HB1.out) HAP.out ?_))
  refine (mended_c p _ _ _ HP.out).mono ?_
  rw [← hq]
  rintro E w3 ⟨ou, du, rfl, hmi, haw⟩
  replace HG := Lib.hid (HG.out.on haw)
  replace HP := Lib.hid (HP.out.on haw)
  replace HA := Lib.hid (HA.out.on haw)
  replace HB1 := Lib.hid (HB1.out.on haw)
  clear haw
  have HQ := Lib.hid (hmi.pkt HQW.out)
  clear hmi hq
  clear HB1 HP
  obtain ⟨oa, oc, hoe, hoc, hon, -⟩ := HQ.out.o
  obtain ⟨da, dc, hde, hdc, hdn, -⟩ := HQ.out.d
  subst hoe
  subst hde
  go_wp2_with (first | (refine wpList_new28 rfl rfl rfl _ _ rfl q (.slice oa q.o.length oc) (.slice da q.d.length dc) (fun _ => rfl) (fun _ => rfl) HQA.out rfl rfl ?_; refine Hid.out ?_))
  refine Lib.hid ?_
  intro g3 w4 hg_g3 hb haw
  replace HG := Lib.hid (HG.out.on haw)
  replace HA := Lib.hid (HA.out.on haw)
  replace HQ := Lib.hid (HQ.out.on haw)
  clear haw
  have HB3 := Lib.hid hb
  clear hb
  go_wp2_with (first | (refine wpList_load28 rfl _ rfl _ rfl q _ _ (by exact HB3.out) HQA.out ?_))
  refine (ownP_c q _ _ _ HQ.out).mono ?_
  rintro E w5 ⟨o5, d5, rfl, hmi, haw⟩
  replace HG := Lib.hid (HG.out.on haw)
  replace HA := Lib.hid (HA.out.on haw)
  replace HQ := Lib.hid (HQ.out.on haw)
  replace HB3 := Lib.hid (HB3.out.on haw)
  clear haw
  have HQ1 := Lib.hid (hmi.pkt HQW.out)
  clear hmi
  go_wp2_with fail
  refine (build_c q _ _ _ HQ1.out HG.out).mono ?_
  rintro E w6 ⟨v6, rfl, hown, hnew, haw⟩
  replace HG := Lib.hid (HG.out.on haw)
  replace HA := Lib.hid (HA.out.on haw)
  replace HQ := Lib.hid (HQ.out.on haw)
  replace HB3 := Lib.hid (HB3.out.on haw)
  replace HQ1 := Lib.hid (HQ1.out.on haw)
  clear haw
  clear HQ1
  rw [build_ok HQR.out] at hown
  rw [build_ok HQR.out]
  replace hown : Owns w6 v6 b := by rw [hb4]; exact hown
  obtain ⟨gb, cb, hv6, hcb⟩ := hown.some' (by intro h; rw [h] at hb0; simp at hb0)
  subst hv6
  have HOB := Lib.hid hown
  clear hown hnew hb4
  obtain ⟨hd, hhd⟩ : ∃ h : Nat, h = 20 + q.o.length := ⟨_, rfl⟩
  have HHD := Lib.hid hhd
  have hhe : (20 : Int) + (q.o.length : Int) = (hd : Int) := by omega
  have hhb : (b.length : Int) = (hd : Int) + (q.d.length : Int) := by have := HBL.out; omega
  have HHB := Lib.hid hhb
  have hol40 := (valid_len ((right_iff q).1 HQR.out).2)
  have hhd20 : 20 ≤ hd := by omega
  have hhd60 : hd ≤ 60 := by omega
  have hdlb : hd ≤ b.length := by omega
  have HHP : Hid (headP q = (hd : Int)) := by show _ = _; unfold headP; rw [if_pos HQR.out]; omega
  clear hhd hhb
  have c44 := (HB3.out.cells HQA.out).o
  go_wp2_with (first | (refine wpList_load28 rfl _ rfl _ rfl q _ _ (by exact HB3.out) HQA.out ?_))
  refine (head_c q _ _ _ HQ.out HG.out).mono ?_
  rintro E w7 ⟨rfl, haw⟩
  rw [HHP.out]
  clear c44
  replace HG := Lib.hid (HG.out.on haw)
  replace HA := Lib.hid (HA.out.on haw)
  replace HQ := Lib.hid (HQ.out.on haw)
  replace HB3 := Lib.hid (HB3.out.on haw)
  replace HOB := Lib.hid (HOB.out.on haw)
  clear haw
  have c45 := (HB3.out.cells HQA.out).d
  have hbe : (hd : Int) + (q.d.length : Int) = (b.length : Int) := HHB.out.symm
  have hbe2 : ((b.length : Int) != (b.length : Int)) = false := by simp
  have hbe3 : ((hd : Int) != (hd : Int)) = false := by simp
  have cs := HB3.out.cells HQA.out
  have k1 := cs.tos
  have k2 := cs.id
  have k3 := cs.off
  have k4 := cs.df
  have k5 := cs.more
  have k6 := cs.ttl
  have k7 := cs.proto
  clear cs
  have hF := ((right_iff q).1 HQR.out).1
  have ho0 := hF.o0
  have ho1 := hF.o1
  have f14 := or64_14 (q.off / 8) (by omega) (by omega)
  have f13 := or64_13 (q.off / 8) (by omega) (by omega)
  have f1413 := or64_1413 (q.off / 8) (by omega) (by omega)
  have HFL : Hid (flagP q = q.off / 8 + (if q.df = true then 16384 else 0) + (if q.more = true then 8192 else 0)) := rfl
  have hfb := flag_bd hF
  have HF := Lib.hid hF
  clear hF
  go_upto_if 46 with fail
  go_cut [7] (fun v wc => v = .int .i64 (q.off / 8 + (if q.df = true then 16384 else 0)) ∧ wc = w7)
  case first =>
    generalize q.df = df at *
    cases df
    · go_wp2_with fail
      go_meet
      exact ⟨by simp, rfl⟩
    · go_wp2_with fail
      go_meet
      exact ⟨by simp, rfl⟩
  case rest =>
  obtain ⟨hv7, rfl⟩ := hcut
  have HV7 := Lib.hid hv7
  clear hv7
  rename Value => v7
  go_upto_if 50 with fail
  go_cut [7] (fun v wc' => v = .int .i64 (flagP q) ∧ wc' = wc)
  case first =>
    obtain rfl := HV7.out
    generalize q.df = df at *
    generalize q.more = mo at *
    cases df <;> cases mo
    all_goals simp only [if_true, if_false, Bool.false_eq_true, Int.add_zero]
    all_goals go_wp2_with fail
    all_goals go_meet
    all_goals exact ⟨by rw [HFL.out]; simp, rfl⟩
  case rest =>
  obtain ⟨rfl, rfl⟩ := hcut
  clear HV7 f14 f13 f1413 k3 k4 k5
  obtain ⟨b0, hb0e⟩ : ∃ x, x = gt b 0 := ⟨_, rfl⟩
  obtain ⟨b1, hb1e⟩ : ∃ x, x = gt b 1 := ⟨_, rfl⟩
  obtain ⟨b2, hb2e⟩ : ∃ x, x = gt b 2 := ⟨_, rfl⟩
  obtain ⟨b3, hb3e⟩ : ∃ x, x = gt b 3 := ⟨_, rfl⟩
  obtain ⟨b4, hb4e⟩ : ∃ x, x = gt b 4 := ⟨_, rfl⟩
  obtain ⟨b5, hb5e⟩ : ∃ x, x = gt b 5 := ⟨_, rfl⟩
  obtain ⟨b6, hb6e⟩ : ∃ x, x = gt b 6 := ⟨_, rfl⟩
  obtain ⟨b7, hb7e⟩ : ∃ x, x = gt b 7 := ⟨_, rfl⟩
  have d0 := (HOB.out.cells 0 (by omega)).1; have d1 := (HOB.out.cells 1 (by omega)).1; have d2 := (HOB.out.cells 2 (by omega)).1; have d3 := (HOB.out.cells 3 (by omega)).1; have d4 := (HOB.out.cells 4 (by omega)).1
  have d5 := (HOB.out.cells 5 (by omega)).1; have d6 := (HOB.out.cells 6 (by omega)).1; have d7 := (HOB.out.cells 7 (by omega)).1; have d8 := (HOB.out.cells 8 (by omega)).1; have d9 := (HOB.out.cells 9 (by omega)).1
  have e0 : (b[0]?.getD 0) = 64 + (hd : Int) / 4 := by rw [HB4.out]; show 64 + (20 + (q.o.length : Int)) / 4 = _; omega
  have e1 : (b[1]?.getD 0) = q.tos := by rw [HB4.out]; rfl
  have e8 : (b[8]?.getD 0) = q.ttl := by rw [HB4.out]; rfl
  have e9 : (b[9]?.getD 0) = q.proto := by rw [HB4.out]; rfl
  rw [e0] at d0
  rw [e1] at d1
  rw [e8] at d8
  rw [e9] at d9
  have x2 := gt_bd HBB.out 2; have x3 := gt_bd HBB.out 3; have x4 := gt_bd HBB.out 4; have x5 := gt_bd HBB.out 5; have x6 := gt_bd HBB.out 6; have x7 := gt_bd HBB.out 7
  have m2 : 256 * gt b 2 + gt b 3 = (b.length : Int) := by
    have h := HBL.out
    have t : 256 * gt b 2 + gt b 3 = totP q := by rw [HB4.out]; show 256 * (totP q / 256) + totP q % 256 = _; omega
    rw [t]; unfold totP; omega
  have m4 : 256 * gt b 4 + gt b 5 = q.id := by rw [HB4.out]; show 256 * (q.id / 256) + q.id % 256 = _; omega
  have m6 : 256 * gt b 6 + gt b 7 = flagP q := by rw [HB4.out]; show 256 * (flagP q / 256) + flagP q % 256 = _; omega
  change wc.cell? _ = some (.int .u8 (gt b 2)) at d2
  change wc.cell? _ = some (.int .u8 (gt b 3)) at d3
  change wc.cell? _ = some (.int .u8 (gt b 4)) at d4
  change wc.cell? _ = some (.int .u8 (gt b 5)) at d5
  change wc.cell? _ = some (.int .u8 (gt b 6)) at d6
  change wc.cell? _ = some (.int .u8 (gt b 7)) at d7
  have n2 := orB64 (gt b 2) (gt b 3) x2 x3
  have n4 := orB32 (gt b 4) (gt b 5) x4 x5
  have n6 := orB64 (gt b 6) (gt b 7) x6 x7
  rw [m2] at n2
  rw [m4] at n4
  rw [m6] at n6
  clear m2 m4 m6 hb0e hb1e hb2e hb3e hb4e hb5e hb6e hb7e b0 b1 b2 b3 b4 b5 b6 b7 e0 e1 e8 e9
  generalize gt b 2 = b2 at *
  generalize gt b 3 = b3 at *
  generalize gt b 4 = b4 at *
  generalize gt b 5 = b5 at *
  generalize gt b 6 = b6 at *
  generalize gt b 7 = b7 at *
  have ha1 := HF.out.t0; have ha2 := HF.out.t1; have ha3 := HF.out.l0; have ha4 := HF.out.l1; have ha5 := HF.out.r0; have ha6 := HF.out.r1
  have r0 : ((64 + (hd : Int) / 4) != (64 + (hd : Int) / 4)) = false := by simp
  have r1 : (q.tos != q.tos) = false := by simp
  have r4 : (q.id != q.id) = false := by simp
  have r6 : (flagP q != flagP q) = false := by simp
  have r8 : (q.ttl != q.ttl) = false := by simp
  have r9 : (q.proto != q.proto) = false := by simp
  have wr0 : IntKind.i64.wrap ((hd : Int) / 4) = (hd : Int) / 4 := by rw [IntKind.wrap_i64]; omega
  have wr1 : IntKind.i64.wrap (64 + (hd : Int) / 4) = 64 + (hd : Int) / 4 := by rw [IntKind.wrap_i64]; omega
  have wr2 : IntKind.i64.wrap (b2) = b2 := by rw [IntKind.wrap_i64]; omega
  have wr3 : IntKind.i64.wrap (b3) = b3 := by rw [IntKind.wrap_i64]; omega
  have wr4 : IntKind.i64.wrap (b6) = b6 := by rw [IntKind.wrap_i64]; omega
  have wr5 : IntKind.i64.wrap (b7) = b7 := by rw [IntKind.wrap_i64]; omega
  have wr6 : IntKind.i64.wrap (q.tos) = q.tos := by rw [IntKind.wrap_i64]; omega
  have wr7 : IntKind.i64.wrap (q.ttl) = q.ttl := by rw [IntKind.wrap_i64]; omega
  have wr8 : IntKind.i64.wrap (q.proto) = q.proto := by rw [IntKind.wrap_i64]; omega
  have wr9 : IntKind.i64.wrap (b2 * 256) = b2 * 256 := by rw [IntKind.wrap_i64]; omega
  have wr10 : IntKind.i64.wrap (b6 * 256) = b6 * 256 := by rw [IntKind.wrap_i64]; omega
  have wr11 : IntKind.u32.wrap (b4) = b4 := by rw [IntKind.wrap_u32]; omega
  have wr12 : IntKind.u32.wrap (b5) = b5 := by rw [IntKind.wrap_u32]; omega
  have wr13 : IntKind.u32.wrap (b4 * 256) = b4 * 256 := by rw [IntKind.wrap_u32]; omega
  go_upto_region 13 with fail
  have D0 : Hid (∀ w', Away [] wc w' → (Instr.loadAt 5 (.pointer (some ⟨gb, 0, none⟩))).run Tryd.prog w' = .ok (.int .u8 (64 + (hd : Int) / 4)) w') := fun w' h => load5_run (h.cell (by simp) d0)
  have D1 : Hid (∀ w', Away [] wc w' → (Instr.loadAt 5 (.pointer (some ⟨gb, 1, none⟩))).run Tryd.prog w' = .ok (.int .u8 (q.tos)) w') := fun w' h => load5_run (h.cell (by simp) d1)
  have D2 : Hid (∀ w', Away [] wc w' → (Instr.loadAt 5 (.pointer (some ⟨gb, 2, none⟩))).run Tryd.prog w' = .ok (.int .u8 (b2)) w') := fun w' h => load5_run (h.cell (by simp) d2)
  have D3 : Hid (∀ w', Away [] wc w' → (Instr.loadAt 5 (.pointer (some ⟨gb, 3, none⟩))).run Tryd.prog w' = .ok (.int .u8 (b3)) w') := fun w' h => load5_run (h.cell (by simp) d3)
  have D4 : Hid (∀ w', Away [] wc w' → (Instr.loadAt 5 (.pointer (some ⟨gb, 4, none⟩))).run Tryd.prog w' = .ok (.int .u8 (b4)) w') := fun w' h => load5_run (h.cell (by simp) d4)
  have D5 : Hid (∀ w', Away [] wc w' → (Instr.loadAt 5 (.pointer (some ⟨gb, 5, none⟩))).run Tryd.prog w' = .ok (.int .u8 (b5)) w') := fun w' h => load5_run (h.cell (by simp) d5)
  have D6 : Hid (∀ w', Away [] wc w' → (Instr.loadAt 5 (.pointer (some ⟨gb, 6, none⟩))).run Tryd.prog w' = .ok (.int .u8 (b6)) w') := fun w' h => load5_run (h.cell (by simp) d6)
  have D7 : Hid (∀ w', Away [] wc w' → (Instr.loadAt 5 (.pointer (some ⟨gb, 7, none⟩))).run Tryd.prog w' = .ok (.int .u8 (b7)) w') := fun w' h => load5_run (h.cell (by simp) d7)
  have D8 : Hid (∀ w', Away [] wc w' → (Instr.loadAt 5 (.pointer (some ⟨gb, 8, none⟩))).run Tryd.prog w' = .ok (.int .u8 (q.ttl)) w') := fun w' h => load5_run (h.cell (by simp) d8)
  have D9 : Hid (∀ w', Away [] wc w' → (Instr.loadAt 5 (.pointer (some ⟨gb, 9, none⟩))).run Tryd.prog w' = .ok (.int .u8 (q.proto)) w') := fun w' h => load5_run (h.cell (by simp) d9)
  have E1 : Hid (∀ w', Away [] wc w' → (Instr.loadAt 3 (.pointer (some ⟨g3, 1, none⟩))).run Tryd.prog w' = .ok (.int .i64 (q.tos)) w') := fun w' h => load3_run (h.cell (by simp) k1)
  have E2 : Hid (∀ w', Away [] wc w' → (Instr.loadAt 25 (.pointer (some ⟨g3, 39, none⟩))).run Tryd.prog w' = .ok (.int .u32 (q.id)) w') := fun w' h => load25_run (h.cell (by simp) k2)
  have E6 : Hid (∀ w', Away [] wc w' → (Instr.loadAt 3 (.pointer (some ⟨g3, 38, none⟩))).run Tryd.prog w' = .ok (.int .i64 (q.ttl)) w') := fun w' h => load3_run (h.cell (by simp) k6)
  have E7 : Hid (∀ w', Away [] wc w' → (Instr.loadAt 3 (.pointer (some ⟨g3, 37, none⟩))).run Tryd.prog w' = .ok (.int .i64 (q.proto)) w') := fun w' h => load3_run (h.cell (by simp) k7)
  clear d0 d1 d2 d3 d4 d5 d6 d7 d8 d9 k1 k2 k6 k7 c45
  refine wp_region_cls (C := fun w' => Away [] wc w') (by kernel_rfl) (Eq.trans (b := lexOf Tryd.f4 13) (by kernel_rfl) lex13) (Away.refl [] wc).drew ?_
  simp only [List.append_eq, List.cons_append, List.nil_append]
  repeat (first
      | go_big_quiet_skip
      | (go_big_quiet_want
         first
           | (go_big_quiet_op; go_big_quiet_on)
           | (refine quiet_index26 _ _ rfl gb b.length cb 0 0 rfl rfl rfl (by omega) ?_; go_simp; go_big_quiet_on)
           | (refine quiet_index26 _ _ rfl gb b.length cb 1 1 rfl rfl rfl (by omega) ?_; go_simp; go_big_quiet_on)
           | (refine quiet_index26 _ _ rfl gb b.length cb 2 2 rfl rfl rfl (by omega) ?_; go_simp; go_big_quiet_on)
           | (refine quiet_index26 _ _ rfl gb b.length cb 3 3 rfl rfl rfl (by omega) ?_; go_simp; go_big_quiet_on)
           | (refine quiet_index26 _ _ rfl gb b.length cb 4 4 rfl rfl rfl (by omega) ?_; go_simp; go_big_quiet_on)
           | (refine quiet_index26 _ _ rfl gb b.length cb 5 5 rfl rfl rfl (by omega) ?_; go_simp; go_big_quiet_on)
           | (refine quiet_index26 _ _ rfl gb b.length cb 6 6 rfl rfl rfl (by omega) ?_; go_simp; go_big_quiet_on)
           | (refine quiet_index26 _ _ rfl gb b.length cb 7 7 rfl rfl rfl (by omega) ?_; go_simp; go_big_quiet_on)
           | (refine quiet_index26 _ _ rfl gb b.length cb 8 8 rfl rfl rfl (by omega) ?_; go_simp; go_big_quiet_on)
           | (refine quiet_index26 _ _ rfl gb b.length cb 9 9 rfl rfl rfl (by omega) ?_; go_simp; go_big_quiet_on)
           | (refine quiet_loadv 5 _ rfl ⟨gb, 0, none⟩ rfl _ D0.out ?_; go_simp; go_big_quiet_on)
           | (refine quiet_loadv 5 _ rfl ⟨gb, 1, none⟩ rfl _ D1.out ?_; go_simp; go_big_quiet_on)
           | (refine quiet_loadv 5 _ rfl ⟨gb, 2, none⟩ rfl _ D2.out ?_; go_simp; go_big_quiet_on)
           | (refine quiet_loadv 5 _ rfl ⟨gb, 3, none⟩ rfl _ D3.out ?_; go_simp; go_big_quiet_on)
           | (refine quiet_loadv 5 _ rfl ⟨gb, 4, none⟩ rfl _ D4.out ?_; go_simp; go_big_quiet_on)
           | (refine quiet_loadv 5 _ rfl ⟨gb, 5, none⟩ rfl _ D5.out ?_; go_simp; go_big_quiet_on)
           | (refine quiet_loadv 5 _ rfl ⟨gb, 6, none⟩ rfl _ D6.out ?_; go_simp; go_big_quiet_on)
           | (refine quiet_loadv 5 _ rfl ⟨gb, 7, none⟩ rfl _ D7.out ?_; go_simp; go_big_quiet_on)
           | (refine quiet_loadv 5 _ rfl ⟨gb, 8, none⟩ rfl _ D8.out ?_; go_simp; go_big_quiet_on)
           | (refine quiet_loadv 5 _ rfl ⟨gb, 9, none⟩ rfl _ D9.out ?_; go_simp; go_big_quiet_on)
           | (refine quiet_loadv 3 _ rfl ⟨g3, 1, none⟩ rfl _ E1.out ?_; go_simp; go_big_quiet_on)
           | (refine quiet_loadv 25 _ rfl ⟨g3, 39, none⟩ rfl _ E2.out ?_; go_simp; go_big_quiet_on)
           | (refine quiet_loadv 3 _ rfl ⟨g3, 38, none⟩ rfl _ E6.out ?_; go_simp; go_big_quiet_on)
           | (refine quiet_loadv 3 _ rfl ⟨g3, 37, none⟩ rfl _ E7.out ?_; go_simp; go_big_quiet_on)
           | (refine quiet_val ?_ ?_ ?_
              rotate_left
              · intro w; go_simp; rfl
              go_simp; go_big_quiet_on)))
  refine wpQuiet_nil ?_
  intro V0 hV0
  replace HOB := Lib.hid (HOB.out.on hV0)
  replace HA := Lib.hid (HA.out.on hV0)
  replace HB3 := Lib.hid (HB3.out.on hV0)
  replace HQ := Lib.hid (HQ.out.on hV0)
  replace HG := Lib.hid (HG.out.on hV0)
  clear hV0 D0 D1 D2 D3 D4 D5 D6 D7 D8 D9 E1 E2 E6 E7 n2 n4 n6
  go_upto_region 15 with fail
  have hre := read_eq HQW.out HF.out ((valid_len ((right_iff q).1 HQR.out).2)) (ckP q / 256) (ckP q % 256)
  have hre' : readP b (20 + q.o.length) = q := by rw [HB4.out]; exact hre
  have j1 : (b.drop 12).take 4 = q.sb.take 4 := by
    have h := congrArg Pk.sb hre'
    change (b.drop 12).take 4 ++ z12 = q.sb at h
    rw [← h, List.take_append_of_le_length (by simp; omega), List.take_take]; rfl
  have j2 : (b.drop 16).take 4 = q.db.take 4 := by
    have h := congrArg Pk.db hre'
    change (b.drop 16).take 4 ++ z12 = q.db at h
    rw [← h, List.take_append_of_le_length (by simp; omega), List.take_take]; rfl
  have j3 : (b.drop 20).take (hd - 20) = q.o := by
    have h := congrArg Pk.o hre'
    rw [HHD.out]; exact h
  have j4 : b.drop hd = q.d := by
    have h := congrArg Pk.d hre'
    rw [HHD.out]; exact h
  have hrow : Row V0 (some ⟨gb, 0, none⟩) b := HOB.out.row' (by omega) HBB.out
  obtain ⟨A1, hA1⟩ : ∃ A, A = if cb = 12 then some (⟨gb, 0, none⟩ : Addr) else (some (⟨gb, 0, none⟩ : Addr)).map (·.add 12) := ⟨_, rfl⟩
  obtain ⟨A2, hA2⟩ : ∃ A, A = if cb = 16 then some (⟨gb, 0, none⟩ : Addr) else (some (⟨gb, 0, none⟩ : Addr)).map (·.add 16) := ⟨_, rfl⟩
  obtain ⟨A3, hA3⟩ : ∃ A, A = if cb = 20 then some (⟨gb, 0, none⟩ : Addr) else (some (⟨gb, 0, none⟩ : Addr)).map (·.add 20) := ⟨_, rfl⟩
  obtain ⟨A4, hA4⟩ : ∃ A, A = if cb = hd then some (⟨gb, 0, none⟩ : Addr) else (some (⟨gb, 0, none⟩ : Addr)).map (·.add hd) := ⟨_, rfl⟩
  have nA1 : A1 = none → cb - 12 = 0 := by rw [hA1]; intro h; revert h; split <;> simp
  have nA2 : A2 = none → cb - 16 = 0 := by rw [hA2]; intro h; revert h; split <;> simp
  have nA3 : A3 = none → cb - 20 = 0 := by rw [hA3]; intro h; revert h; split <;> simp
  have nA4 : A4 = none → cb - hd = 0 := by rw [hA4]; intro h; revert h; split <;> simp
  have t1 : Row V0 A1 (q.sb.take 4) := by have h := hrow.sub 12 4 cb hcb (by omega); rw [j1, ← hA1] at h; exact h
  have t2 : Row V0 A2 (q.db.take 4) := by have h := hrow.sub 16 4 cb hcb (by omega); rw [j2, ← hA2] at h; exact h
  have t3 : Row V0 A3 q.o := by have h := hrow.sub 20 (hd - 20) cb hcb (by omega); rw [j3, ← hA3] at h; exact h
  have t4 : Row V0 A4 q.d := by have h := hrow.tail hd cb hcb (by omega); rw [j4, ← hA4] at h; exact h
  have v1 := slice_lh (some ⟨gb, 0, none⟩) A1 b.length cb 12 4 12 16 hA1 rfl rfl (by omega)
  have v2 := slice_lh (some ⟨gb, 0, none⟩) A2 b.length cb 16 4 16 20 hA2 rfl rfl (by omega)
  have v3 := slice_lh (some ⟨gb, 0, none⟩) A3 b.length cb 20 (hd - 20) 20 (hd : Int) hA3 rfl (by omega) (by omega)
  have v4 := slice_l (some ⟨gb, 0, none⟩) A4 b.length cb hd (hd : Int) hA4 rfl (by omega)
  have l3 : hd - 20 = q.o.length := by have := HHD.out; omega
  have l4 : b.length - hd = q.d.length := by have := HBL.out; have := HHD.out; omega
  rw [l3] at v3
  rw [l4] at v4
  have u1 := arr4s g3
  have u2 := arr4d g3
  have S1 : Hid (∀ w', Away [] V0 w' → Calls Tryd.prog 17 #[.slice A1 4 (cb - 12), .slice (some ⟨g3, 4, none⟩) 4 16] w' fun E w'' => E = .returned (.bool true) ∧ Away [] V0 w'') := fun w' h =>
    (same_yes A1 (some ⟨g3, 4, none⟩) (q.sb.take 4) (q.sb.take 4) 4 4 (cb - 12) 16 w' (by simp [HQA.out.1]) (by simp [HQA.out.1]) nA1 (by simp) (t1.on h) ((range_row (HB3.out.on h).srow HQW.out.sb HQA.out.1).head 4) rfl).mono (fun E w'' hh => ⟨hh.1, by rw [hh.2]; exact h⟩)
  have S2 : Hid (∀ w', Away [] V0 w' → Calls Tryd.prog 17 #[.slice A2 4 (cb - 16), .slice (some ⟨g3, 21, none⟩) 4 16] w' fun E w'' => E = .returned (.bool true) ∧ Away [] V0 w'') := fun w' h =>
    (same_yes A2 (some ⟨g3, 21, none⟩) (q.db.take 4) (q.db.take 4) 4 4 (cb - 16) 16 w' (by simp [HQA.out.2]) (by simp [HQA.out.2]) nA2 (by simp) (t2.on h) ((range_row ((HB3.out.on h).drow HQA.out) HQW.out.db HQA.out.2).head 4) rfl).mono (fun E w'' hh => ⟨hh.1, by rw [hh.2]; exact h⟩)
  have S3 : Hid (∀ w', Away [] V0 w' → Calls Tryd.prog 17 #[.slice A3 q.o.length (cb - 20), .slice oa q.o.length oc] w' fun E w'' => E = .returned (.bool true) ∧ Away [] V0 w'') := fun w' h =>
    (same_yes A3 oa q.o q.o _ _ (cb - 20) oc w' rfl rfl nA3 hon (t3.on h) (HQ.out.on h).o.of.2.2.2 rfl).mono (fun E w'' hh => ⟨hh.1, by rw [hh.2]; exact h⟩)
  have S4 : Hid (∀ w', Away [] V0 w' → Calls Tryd.prog 17 #[.slice A4 q.d.length (cb - hd), .slice da q.d.length dc] w' fun E w'' => E = .returned (.bool true) ∧ Away [] V0 w'') := fun w' h =>
    (same_yes A4 da q.d q.d _ _ (cb - hd) dc w' rfl rfl nA4 hdn (t4.on h) (HQ.out.on h).d.of.2.2.2 rfl).mono (fun E w'' hh => ⟨hh.1, by rw [hh.2]; exact h⟩)
  have HC4 : Hid (∀ w', Away [] V0 w' → w'.cell? ⟨g3, 44, none⟩ = some (.slice oa q.o.length oc)) := fun w' h => ((HB3.out.on h).cells HQA.out).o
  have HC5 : Hid (∀ w', Away [] V0 w' → w'.cell? ⟨g3, 45, none⟩ = some (.slice da q.d.length dc)) := fun w' h => ((HB3.out.on h).cells HQA.out).d
  clear t1 t2 t3 t4 nA1 nA2 nA3 nA4 hA1 hA2 hA3 hA4 j1 j2 j3 j4 hre hre' hrow l3 l4
  refine wp_region_cls (C := fun w' => Away [] V0 w') (by kernel_rfl) (by kernel_rfl) (Away.refl [] V0).drew ?_
  repeat (first
      | go_big_quiet_skip
      | (go_big_quiet_want
         first
           | (go_big_quiet_op; go_big_quiet_on)
           | (refine quiet_load26 _ rfl ⟨g3, 44, none⟩ rfl _ ⟨_, _, _, rfl⟩ HC4.out ?_; go_simp; go_big_quiet_on)
           | (refine quiet_load26 _ rfl ⟨g3, 45, none⟩ rfl _ ⟨_, _, _, rfl⟩ HC5.out ?_; go_simp; go_big_quiet_on)
           | (refine quiet_call 17 #[.slice A1 4 (cb - 12), .slice (some ⟨g3, 4, none⟩) 4 16] (.bool true) ?_ S1.out ?_
              · intro w; go_simp; done
              go_simp; go_big_quiet_on)
           | (refine quiet_call 17 #[.slice A2 4 (cb - 16), .slice (some ⟨g3, 21, none⟩) 4 16] (.bool true) ?_ S2.out ?_
              · intro w; go_simp; done
              go_simp; go_big_quiet_on)
           | (refine quiet_call 17 #[.slice A3 q.o.length (cb - 20), .slice oa q.o.length oc] (.bool true) ?_ S3.out ?_
              · intro w; go_simp; done
              go_simp; go_big_quiet_on)
           | (refine quiet_call 17 #[.slice A4 q.d.length (cb - hd), .slice da q.d.length dc] (.bool true) ?_ S4.out ?_
              · intro w; go_simp; done
              go_simp; go_big_quiet_on)
           | (refine quiet_val ?_ ?_ ?_
              rotate_left
              · intro w; go_simp; rfl
              go_simp; go_big_quiet_on)))
  refine wpQuiet_nil ?_
  intro V hV
  replace HOB := Lib.hid (HOB.out.on hV)
  replace HA := Lib.hid (HA.out.on hV)
  clear hV S1 S2 S3 S4 HC4 HC5 v1 v2 v3 v4 u1 u2
  have HSUM : Hid (fold (ws true (b.take hd)) = 65535) := by rw [HB4.out, HHD.out]; exact lay_sum HQW.out HQR.out
  have hd4 : hd % 4 = 0 := by have := HHD.out; omega
  go_wp2_with fail
  go_loopw [8, 9] (fun n i wr => ∃ k m : Nat, 2 * k ≤ hd ∧ i = .int .i64 (2 * (k : Int)) ∧ n = .int .i64 (ws true (b.take (2 * k))) ∧ wr = V.drewN m) (fun _ i _ => hd - (intOf i).toNat)
  case atStart => exact ⟨0, 0, by omega, rfl, rfl, rfl⟩
  case round =>
    obtain ⟨k, m, hk, rfl, rfl, rfl⟩ := hrel
    by_cases hlt : 2 * k < hd
    · have hlt' : 2 * (k : Int) < (hd : Int) := by omega
      have x0 := (HOB.out.cells (2 * k) (by omega)).1
      have x1 := (HOB.out.cells (2 * k + 1) (by omega)).1
      have hS := ws_take2 b k (by omega)
      have y0 := gt_bd HBB.out (2 * k); have y1 := gt_bd HBB.out (2 * k + 1)
      have hwb := ws_bd true (b.take (2 * k)) (HBB.out.take _)
      have hwl : (b.take (2 * k)).length ≤ 60 := by simp; omega
      change V.cell? _ = some (.int .u8 (gt b (2 * k))) at x0
      change V.cell? _ = some (.int .u8 (gt b (2 * k + 1))) at x1
      change ws true (b.take (2 * k + 2)) = ws true (b.take (2 * k)) + gt b (2 * k) * 256 + gt b (2 * k + 1) at hS
      have hwu : ws true (b.take (2 * k)) ≤ 3916800 := by omega
      have hwl0 := hwb.1
      have HS := Lib.hid hS
      clear hS hwb hwl
      generalize gt b (2 * k) = X at *
      generalize gt b (2 * k + 1) = Y at *
      generalize ws true (b.take (2 * k)) = S at *
      have i0 : (2 * (k : Int)).toNat = 2 * k := by omega
      have i1 : (2 * (k : Int) + 1).toNat = 2 * k + 1 := by omega
      have i2 : 2 * (k : Int) + 1 < (b.length : Int) := by omega
      have i3 : 2 * (k : Int) < (b.length : Int) := by omega
      go_wp2_with fail
      go_quiet (fail)
      go_wp2_with fail
      go_roundw
      case rel => exact ⟨k + 1, _, by omega, by go_num, by show Value.int .i64 _ = .int .i64 (ws true (b.take (2 * k + 2))); rw [HS.out], rfl⟩
      case measure => simp [intOf]; omega
    · have hlt' : ¬ 2 * (k : Int) < (hd : Int) := by omega
      have hkd : 2 * k = hd := by omega
      rw [hkd]
      have hwb := ws_bd true (b.take hd) (HBB.out.take _)
      have hwl : (b.take hd).length ≤ 60 := by simp; omega
      have hwu : ws true (b.take hd) ≤ 3916800 := by omega
      have hwl0 := hwb.1
      clear hwb hwl hkd hlt hk
      generalize ws true (b.take hd) = S at *
      go_wp2_with fail
      go_loopw [8] (fun n wr => ∃ (z : Int) (m : Nat), n = .int .i64 z ∧ 0 ≤ z ∧ z ≤ 3916800 ∧ fold z = 65535 ∧ wr = V.drewN m) (fun n _ => (intOf n).toNat)
      case atStart => exact ⟨S, m, rfl, hwl0, hwu, HSUM.out, rfl⟩
      case round =>
        obtain ⟨z, m, rfl, hz0, hz1, hz, rfl⟩ := hrel
        have HZ := Lib.hid hz
        clear hz
        by_cases hgt : 65535 < z
        · have ha := and16 z hz0 (by omega)
          have hf := fold_turn hgt
          rw [HZ.out] at hf
          have HF2 := Lib.hid hf
          clear hf
          go_wp2_with fail
          go_roundw
          case rel => exact ⟨z / 65536 + z % 65536, m, by go_num, by omega, by omega, HF2.out, rfl⟩
          case measure => simp [intOf]; omega
        · have hz2 : z = 65535 := by rw [← HZ.out]; exact (fold_self hz0 (by omega)).symm
          subst hz2
          clear HZ
          go_wp2_with fail
          go_ret
          exact ⟨rfl, (HA.out.drewN m).to_below⟩
namespace ip4Fields
theorem contract (H : Type) (enc : TypeId × Value → H) (W : World) (base : Nat) (args : Array Value) (ds gs : List (DataW H)) (before : List MemPlace)
    (hval0 : ∀ (j : Nat) t v, Tryd.f4.params[j]? = some t → args[j]? = some v → Value.okWide Tryd.prog W .any base t v)
    (hW : DataW.Whole enc Tryd.prog Tryd.f4.params.toList Rows.ip4FieldsSpec.vars false W args.toList ds gs before)
    (hsz0 : (DataW.weightsEach Tryd.prog (Tryd.f4.params.toList ++ Rows.ip4FieldsSpec.plain.varTypes Tryd.prog) (ds ++ gs)).all (· ≤ reachBytes) = true)
    (hL : laidMetH Tryd.prog Rows.ip4FieldsRow.laid W) :
    Calls Tryd.prog 4 args W fun e W' => ∃ v, e = .returned v ∧ Rows.ip4FieldsSpec.post enc Tryd.prog Tryd.f4 false true false false W args v W' := by
  have hval := hval0
  have hsz := hsz0
  have hW' := hW
  obtain ⟨p, q, hA0, hV, rfl, hfz, hnd⟩ := hW
  have hA : DataW.TrodAll enc Tryd.prog W 0 (fun _ => true) true Tryd.f4.params.toList args.toList ds p := hA0
  rw [Tryd.params4] at hA hval hsz
  obtain ⟨v0, vs0, d0, ds0, p0, q0, hargs, rfl, rfl, h0, r0⟩ := trodAll_cons hA
  obtain ⟨rfl, rfl, rfl⟩ := trodAll_nil r0
  obtain rfl : args = #[v0] := by cases args; simp_all
  obtain ⟨rfl, rfl⟩ := trodVars_none hV
  have k0 := h0
  have lt0 : ∀ x ∈ p0, x.block < W.heap.size := by obtain ⟨m, hm⟩ := k0; exact DataW.trod_lt m _ _ _ hm
  have z0 : ∀ m ∈ d0.weights Tryd.prog 28, m ≤ reachBytes := fun m hm => by
    have := List.all_eq_true.1 hsz m (DataW.weights_mem_each (j := 0) (t := 28) rfl rfl m hm)
    simpa using this
  obtain ⟨x0, ov0, dv0, rfl, w0, ol0, dl0⟩ := open_pkt (hval 0 28 v0 rfl rfl) h0 z0
  clear hA0 hval0
  refine (walk x0 ov0 dv0 W (glob_of hL) w0 ol0 dl0).mono fun e W' ⟨he, bel⟩ => ?_
  subst he
  exact ⟨_, rfl, _, _, _, [], _, [], hW', trodAll_mk1 (shut_bool Tryd.underlying4 _), (trodAll_cons_mk (Below.trod laidOut (by kernel_rfl) (of_decide_eq_true (by kernel_rfl)) k0 bel lt0) trodAll_mk0), rfl, bel.frame _, fun h => by cases h⟩
theorem laid_met (os : Os) : laidMet Tryd.prog Rows.ip4FieldsRow.laid ((laidWorld Tryd.prog os).forCall (fun _ _ => 0) ⟨#[], #[.agg (csP zeroPk (.slice none 0 0) (.slice none 0 0))], []⟩).memory :=
  laidMet_of_run' 8 (by kernel_rfl) (by kernel_rfl)
theorem reads (os : Os) {H : Type} (enc : TypeId × Value → H) : ∃ places, DataW.whole enc Tryd.prog ((laidWorld Tryd.prog os).forCall (fun _ _ => 0) ⟨#[], #[.agg (csP zeroPk (.slice none 0 0) (.slice none 0 0))], []⟩).memory Tryd.f4.params.toList Rows.ip4FieldsSpec.vars false #[.agg (csP zeroPk (.slice none 0 0) (.slice none 0 0))].toList 8 = some ([.agg [.lit (.int .i64 0), .lit (.int .i64 0), .lit (.int .i64 0), .agg [.lit (.int .i64 0), .agg [.lit (.int .u8 0), .lit (.int .u8 0), .lit (.int .u8 0), .lit (.int .u8 0), .lit (.int .u8 0), .lit (.int .u8 0), .lit (.int .u8 0), .lit (.int .u8 0), .lit (.int .u8 0), .lit (.int .u8 0), .lit (.int .u8 0), .lit (.int .u8 0), .lit (.int .u8 0), .lit (.int .u8 0), .lit (.int .u8 0), .lit (.int .u8 0)]], .agg [.lit (.int .i64 0), .agg [.lit (.int .u8 0), .lit (.int .u8 0), .lit (.int .u8 0), .lit (.int .u8 0), .lit (.int .u8 0), .lit (.int .u8 0), .lit (.int .u8 0), .lit (.int .u8 0), .lit (.int .u8 0), .lit (.int .u8 0), .lit (.int .u8 0), .lit (.int .u8 0), .lit (.int .u8 0), .lit (.int .u8 0), .lit (.int .u8 0), .lit (.int .u8 0)]], .lit (.int .i64 0), .lit (.int .i64 0), .lit (.int .u32 0), .lit (.bool false), .lit (.bool false), .lit (.bool false), .lit (.int .i64 0), .nil, .nil]], [], places) :=
  ⟨[], by kernel_rfl⟩
theorem lifted (os : Os) (started : os.Started) (H : Type) (enc : TypeId × Value → H) (F : Stop.Interp) :
    ReturnsInHanded {} Tryd.checked os 4 .any ((OpenSpec.ofChange Rows.ip4FieldsSpec).preRow enc Tryd.prog Tryd.f4 Rows.ip4FieldsRow.domain false Rows.ip4FieldsRow.laid) (((OpenSpec.ofChange Rows.ip4FieldsSpec).at F).post enc Tryd.prog Tryd.f4 false true false false) := by
  obtain ⟨places, hx⟩ := reads os enc
  refine returnsInHanded_of_row (C := Tryd.checked) (s := OpenSpec.ofChange Rows.ip4FieldsSpec) ownKn started (by kernel_rfl) Tryd.func4
    (witness_row_at (enc := enc) (C := Tryd.checked) false (laidWorld Tryd.prog os) #[.agg (csP zeroPk (.slice none 0 0) (.slice none 0 0))] rfl (by kernel_rfl) (by kernel_rfl) (by kernel_rfl)
      (OpenSpec.preRow_of_cond 8 hx (by kernel_rfl) (fun k hk => by cases hk) (by kernel_rfl) (laid_met os))) ?_
  intro W base args ds gs before hval hW _ hcond hsz hL hS _
  exact contract H enc W base args ds gs before hval hW hsz hL
theorem said : Rows.Ip4FieldsSaid :=
  OpenClaim.holds_of_cond 4 Tryd.f4 rfl rfl rfl rfl rfl rfl rfl ⟨rfl, rfl, rfl, rfl, rfl⟩ rfl rfl rfl rfl rfl (by kernel_rfl) Tryd.func4 (by kernel_rfl)
    (of_decide_eq_true (by kernel_rfl)) (by unfold Func.isWrapper; first | (rw [if_pos (by decide +kernel)]; kernel_rfl) | (rw [if_neg (by decide +kernel)]; exact ⟨rfl, rfl⟩))
    (fun os started H enc _ F => by rw [OpenClaim.pre_eq_preRow]; exact lifted os started H enc F)
theorem plain (f : FuncId) (fn : Func) (hf : Tryd.pinned.checked.prog.funcNamed "mosaic/mosaiclaw05.Ip4Fields" = some f) (hfn : Tryd.pinned.checked.prog.funcs[f]? = some fn) :
    false = Tryd.pinned.checked.prog.looks [] ∧ ∀ (j : Nat) t, fn.params[j]? = some t → Tryd.pinned.checked.prog.wantsStandIn t = false := by
  obtain rfl : f = 4 := Option.some.inj ((show Tryd.prog.funcNamed "mosaic/mosaiclaw05.Ip4Fields" = some 4 by kernel_rfl).symm.trans hf) |>.symm
  obtain rfl : fn = Tryd.f4 := (Option.some.inj (Tryd.func4.symm.trans hfn)).symm
  refine ⟨by kernel_rfl, fun j t ht => ?_⟩
  rw [Tryd.params4] at ht
  have hm := Array.mem_of_getElem? ht
  simp only [List.mem_toArray, List.mem_cons, List.not_mem_nil, or_false] at hm
  have h28 : Tryd.prog.wantsStandIn 28 = false := by kernel_rfl
  have h26 : Tryd.prog.wantsStandIn 26 = false := by kernel_rfl
  have h3 : Tryd.prog.wantsStandIn 3 = false := by kernel_rfl
  subst hm
  all_goals first | exact h28 | exact h26 | exact h3
theorem card : Rows.Ip4FieldsCardSaid :=
  Claim7.holds_tied_plain_at .later [] _ _ _ _ said (fun _ h => by cases h) (by kernel_rfl) (fun _ h => by cases h) ip4Fields_row_tie rfl ⟨rfl, rfl⟩ (by kernel_rfl) rfl plain (by kernel_rfl)
end ip4Fields
theorem ip4Fields_holds : Rows.Ip4FieldsCardSaid := ip4Fields.card
#print axioms ip4Fields_holds
end Go.Proofs.YtkfbhofbajejiaaDoor
