/-
  RecutRefuses.
-/
import Derived.Test.YtaicckenpplceaaDoorKit
namespace Go.Proofs.YtaicckenpplceaaDoor
open Go.ChangeShapes Go.WideShapes Go.ChangeAt Go.RowKit Go.Deep Num
set_option linter.unusedVariables false
set_option maxHeartbeats 8000000
set_option maxRecDepth 100000

namespace recutRefuses
open R
theorem run_build24 (v : Int) (l : List Int) (hl : l.length = 16) (w : World) : (Instr.build 24 #[(0, .int .i64 v), (1, .agg (l.map (Value.int .u8)).toArray)]).run Tryd.prog w = .ok (.agg (csA v l)) w := by
  obtain ⟨b0, b1, b2, b3, b4, b5, b6, b7, b8, b9, b10, b11, b12, b13, b14, b15, rfl⟩ := list16 hl
  kernel_rfl
def six (sb db d : List Int) : Pk := ⟨6, 0, 0, 6, sb, 6, db, 17, 9, 0, false, false, false, 0, [], d⟩
theorem run_build28s (sb db d : List Int) (h1 : sb.length = 16) (h2 : db.length = 16) (a : Option Addr) (n c : Nat) (w : World) : (Instr.build 28 #[(0, .int .i64 6), (3, .agg (csA 6 sb)), (4, .agg (csA 6 db)), (5, .int .i64 17), (6, .int .i64 9), (13, .slice a n c)]).run Tryd.prog w = .ok (.agg (csP (six sb db d) (.slice none 0 0) (.slice a n c))) w := by
  obtain ⟨b0, b1, b2, b3, b4, b5, b6, b7, b8, b9, b10, b11, b12, b13, b14, b15, rfl⟩ := list16 h1
  obtain ⟨c0, c1, c2, c3, c4, c5, c6, c7, c8, c9, c10, c11, c12, c13, c14, c15, rfl⟩ := list16 h2
  kernel_rfl
theorem wpList_build24 {ops : Array Oper} {rest : List Oper} {o : Oper} {a : Act} {w : World} {Q : Exit → Act → World → Prop} (hg : o.guard = none) (x0 x1 : Operand) (ho : o.op = .build 24 #[(0, x0), (1, x1)])
    (v : Int) (l : List Int) (hl : l.length = 16) (h0 : a.eval x0 = .int .i64 v) (h1 : a.eval x1 = .agg (l.map (Value.int .u8)).toArray)
    (h : wpList Tryd.prog ops Q rest (a.put o.dst (.agg (csA v l))) w) : wpList Tryd.prog ops Q (o :: rest) a w := by
  refine wpList_plain hg fun K hK => ?_
  unfold Oper.wp execOp
  simp only [ho, List.map_toArray, List.map_cons, List.map_nil, h0, h1, run_build24 v l hl, Sem.run_bind, Result.andThen_ok, Sem.run_pure]
  exact hK _ _ h
theorem wpList_build28s {ops : Array Oper} {rest : List Oper} {o : Oper} {a : Act} {w : World} {Q : Exit → Act → World → Prop} (hg : o.guard = none) (x0 x3 x4 x5 x6 x13 : Operand) (ho : o.op = .build 28 #[(0, x0), (3, x3), (4, x4), (5, x5), (6, x6), (13, x13)])
    (sb db d : List Int) (h1 : sb.length = 16) (h2 : db.length = 16) (ad : Option Addr) (n c : Nat) (e0 : a.eval x0 = .int .i64 6) (e3 : a.eval x3 = .agg (csA 6 sb)) (e4 : a.eval x4 = .agg (csA 6 db)) (e5 : a.eval x5 = .int .i64 17) (e6 : a.eval x6 = .int .i64 9) (e13 : a.eval x13 = .slice ad n c)
    (h : wpList Tryd.prog ops Q rest (a.put o.dst (.agg (csP (six sb db d) (.slice none 0 0) (.slice ad n c)))) w) : wpList Tryd.prog ops Q (o :: rest) a w := by
  refine wpList_plain hg fun K hK => ?_
  unfold Oper.wp execOp
  simp only [ho, List.map_toArray, List.map_cons, List.map_nil, e0, e3, e4, e5, e6, e13, run_build28s sb db d h1 h2 ad n c, Sem.run_bind, Result.andThen_ok, Sem.run_pure]
  exact hK _ _ h
/-- A packet that goes whole or not at all. -/
structure Stiff (Q : Pk) (z : Nat) : Prop where
  wf : Wf Q
  r : rgtP Q = true
  long : longP Q = z
  st : Q.v = 6 ∨ Q.df = true
theorem stiff4 {q : Pk} (hu : Unc q) (hw : Wf q) (hv : q.v = 4) : Stiff { q with df := true } (20 + q.o.length + q.d.length) := by
  have hr := hu.r
  unfold rgtP at hr
  rw [if_neg (by omega), right_iff] at hr
  have hr1 := hr.1
  have hR : rgtP { q with df := true } = true := by
    unfold rgtP
    refine (if_neg (show q.v ≠ 6 by omega)).trans ?_
    rw [right_iff]
    exact ⟨⟨hr1.v, hr1.flow, hr1.frag, hr1.id, hr1.t0, hr1.t1, hr1.l0, hr1.l1, hr1.r0, hr1.r1, hr1.sv, hr1.sb, hr1.dv, hr1.db, hr1.o0, hr1.o1, hr1.o8, hr1.m8, hr1.m0, hr1.f0, hr1.reach, hr1.all⟩, hr.2⟩
  refine ⟨⟨hw.v, hw.tos, hw.flow, hw.sv, hw.sl, hw.sb, hw.dv, hw.dl, hw.db, hw.proto, hw.ttl, hw.id0, hw.id1, hw.off, hw.o, hw.ol, hw.d, hw.dn⟩, hR, ?_, .inr rfl⟩
  rw [long_of hR]
  unfold topP
  rw [if_neg (show ({ q with df := true } : Pk).v ≠ 6 from by show q.v ≠ 6; omega)]
theorem stiff6 {p : Pk} (hp : Wf p) {d : List Int} (hd : Bytes d) (hl : d.length ≤ 65535) : Stiff (six p.sb p.db d) (40 + d.length) := by
  have hR : rgtP (six p.sb p.db d) = true := by
    unfold rgtP
    refine (if_pos rfl).trans ?_
    rw [S6.right_iff]
    exact ⟨rfl, rfl, rfl, by simp [six], by simp [six], by simp [six], by simp [six], by simp [six], by simp [six], by simp [six], by simp [six], by simp [six], rfl, rfl, by simp [six], by simp [six], by simp [six], fun h => by simp [six] at h, fun h => by simp [six] at h, by show (0 : Int) + d.length ≤ 65535; omega, fun _ => ⟨rfl, rfl, rfl⟩, by show 40 - 40 + d.length ≤ 65535; omega⟩
  refine ⟨⟨by simp [six, i64ok], by simp [six, i64ok], by simp [six, i64ok], by simp [six, i64ok], hp.sl, hp.sb, by simp [six, i64ok], hp.dl, hp.db, by simp [six, i64ok], by simp [six, i64ok], by simp [six], by simp [six], by simp [six, i64ok], Bytes.nil, by simp [six], hd, by show d.length ≤ _; omega⟩, hR, ?_, .inl rfl⟩
  rw [long_of hR]; rfl
theorem Stiff.recut {Q : Pk} {z : Nat} (h : Stiff Q z) (m : Int) : recutP Q m = if mtuP m 4 = true then (if (z : Int) ≤ m then ([Q], 0) else ([], 100)) else ([], 1) := by
  unfold recutP
  rw [h.long]
  by_cases hm : mtuP m 4 = true
  · rw [if_pos ⟨h.r, hm⟩, if_pos hm, if_pos h.st]
  · rw [if_neg (fun e => hm e.2), if_neg hm]
theorem Stiff.is {Q : Pk} {z : Nat} (h : Stiff Q z) (m : Int) : isR Q m [Q] = (mtuP m 4 && decide ((z : Int) ≤ m)) := by
  have e : dP Q Q = true := @decide_eq_true _ (pkDec Q Q) rfl
  simp [isR, h.r, h.long, e]
theorem bad_ttl {Q : Pk} : rgtP { Q with ttl := 256 } = false := by
  rw [Bool.eq_false_iff]
  intro h
  unfold rgtP at h
  by_cases hv : Q.v = 6
  · rw [if_pos (show ({ Q with ttl := 256 } : Pk).v = 6 from hv), S6.right_iff] at h
    have := h.l1; simp at this
  · rw [if_neg (show ({ Q with ttl := 256 } : Pk).v ≠ 6 from hv), right_iff] at h
    have := h.1.l1; simp at this
theorem bad_recut (Q : Pk) (m : Int) : recutP { Q with ttl := 256 } m = ([], 1) := by
  unfold recutP; rw [if_neg (by rw [bad_ttl]; simp)]
theorem one_of {xs : List X} {a : Pk} (h : xs.map X.p = [a]) : ∃ oa da, xs = [⟨a, oa, da⟩] := by
  have hl : xs.length = 1 := by rw [← List.length_map (f := X.p), h]; rfl
  cases xs with
  | nil => exact absurd hl (by decide)
  | cons x r => cases r with
    | nil => have h1 := (List.cons.inj h).1; exact ⟨x.o, x.d, by rw [← h1]⟩
    | cons y r => simp only [List.length_cons] at hl; omega
theorem none_of {w : World} {B : Nat} {v : Value} {xs : List X} (hc : Cuts w B v xs) (h : xs.map X.p = []) : ∃ a c, v = .slice a 0 c := by
  obtain rfl : xs = [] := by simpa using h
  rcases hc.lst.2 with ⟨rfl, -⟩ | ⟨g, cap, cur, rfl, -⟩
  · exact ⟨_, _, rfl⟩
  · exact ⟨_, _, rfl⟩
theorem wpList_build28w {ops : Array Oper} {rest : List Oper} {o : Oper} {a : Act} {w : World} {Q : Exit → Act → World → Prop} (hw : Region.wanted o (yielded ops a.tmps) = true) (x : Operand) (ho : o.op = .buildSlice 32 1 #[(0, x)]) (p : Pk) (ov dv : Value) (hx : a.eval x = .agg (csP p ov dv)) (ha : Ad p)
    (h : ∀ g w1, w.heap.size ≤ g → BoxP w1 g p ov dv → Away [] w w1 → wpList Tryd.prog ops Q rest (a.put o.dst (.slice (some ⟨g, 0, none⟩) 1 1)) w1) : wpList Tryd.prog ops Q (o :: rest) a w :=
  BigFrame.wpList_want hw fun K hK => wp_build28 x ho p ov dv hx ha fun g w1 h1 h2 h3 _ _ => hK _ _ (h g w1 h1 h2 h3)
theorem pks_one {w : World} {g : Nat} {Q : Pk} {ov dv : Value} (hb : BoxP w g Q ov dv) (hp : Pkt w Q ov dv) : Pks w (some ⟨g, 0, none⟩) [⟨Q, ov, dv⟩] := by
  obtain ⟨a', c', hv', -, -, hp', -⟩ := (lst_one hb hp.wf.ad).pks (by simp) (fun x hx => by simp at hx; subst hx; exact hp)
  simp only [List.length_singleton, Value.slice.injEq] at hv'
  rw [hv'.1]; exact hp'
theorem walk (p : Pk) (ov dv : Value) (mtu : Int) (sx : Bool) (w : World) (hg : Glob w) (hp : Pkt w p ov dv) (hol : p.o.length ≤ 140737488351232) (hdl : p.d.length ≤ 140737488351232) (hwn : (Lit.int .i64 mtu).wf = true) :
    Calls Tryd.prog 5 #[.agg (csP p ov dv), .int .i64 mtu, .bool sx] w fun E w' => E = .returned (.bool true) ∧ Below w.heap.size w w' := by
  have HAD := Lib.hid hp.wf.ad
  have HW := Lib.hid hp.wf
  have HP := Lib.hid hp; have HG := Lib.hid hg
  clear hp hg hol hdl hwn
  go_enter Tryd.func5, Tryd.ntmps5
  go_wp2_with (refine wpList_box28 rfl _ rfl p _ _ rfl ?_; refine Hid.out ?_)
  refine Lib.hid ?_
  intro g3 w1 hg3 hb haw
  have HB3 := Lib.hid hb; have HA := Lib.hid haw
  replace HP := Lib.hid (HP.out.on haw)
  replace HG := Lib.hid (HG.out.on haw)
  clear hb haw hg3
  go_wp2_with (refine wpList_load28 rfl _ rfl g3 rfl p _ _ (by exact HB3.out) HAD.out ?_)
  refine (R.right_c p ov dv _ HP.out HG.out).mono ?_
  rintro E w2 ⟨q, qo, qd, rfl, hu, hwf, hqv, hqf, hmine, haw⟩
  have HU := Lib.hid hu; have HQW := Lib.hid hwf; have HQA := Lib.hid hwf.ad
  have HQ := Lib.hid (hmine.pkt hwf)
  have HO1 := Lib.hid hmine.o.one; have HD1 := Lib.hid hmine.d.one
  have HQV := Lib.hid hqv
  have HQ2 := HQ
  replace HA := Lib.hid (HA.out.on haw)
  replace HG := Lib.hid (HG.out.on haw)
  replace HP := Lib.hid (HP.out.on haw)
  replace HB3 := Lib.hid (HB3.out.on haw)
  have hl3 := HB3.out.lt
  have HA2 := HA; have HG2 := HG
  clear haw hu hwf hmine hqv hqf
  go_wp2_with (refine wpList_new28 rfl rfl rfl _ _ rfl q qo qd (fun g => rfl) (fun g => rfl) HQA.out HO1.out HD1.out ?_; refine Hid.out ?_)
  refine Lib.hid ?_
  intro g7 w3 hg7 hb haw
  have s40 := (hb.cells HQA.out).df
  have f40 := hb.free 40
  have hA4 := haw.next (away_put (w := w3) (g := g7) 40 (.bool true)) (fun x hx => .inr (by simp at hx; omega) : ∀ x ∈ [g7], x ∈ ([] : List Nat) ∨ w2.heap.size ≤ x)
  have HB7 := Lib.hid (hb.put 40 (.bool true) ((csP_set HQA.out _ _).2.2.2.2.2.2.2.2.1 true))
  have HA4 := Lib.hid hA4
  clear hb haw hA4
  go_upto_region 3 with fail
  clear s40 f40
  generalize w3.setCell ⟨g7, 40, none⟩ (.bool true) = w4 at *
  have haw := HA4.out
  have HA25 := HA4
  replace HA := Lib.hid (HA.out.on haw)
  replace HG := Lib.hid (HG.out.on haw)
  replace HP := Lib.hid (HP.out.on haw)
  replace HB3 := Lib.hid (HB3.out.on haw)
  replace HQ := Lib.hid (HQ.out.on haw)
  clear haw HA4
  have HST := Lib.hid (stiff4 HU.out HQW.out HQV.out)
  obtain ⟨q4, hq4⟩ : ∃ x : Pk, x = { q with df := true } := ⟨_, rfl⟩
  have H4 := Lib.hid (show q4.o = q.o ∧ q4.d = q.d from by rw [hq4]; exact ⟨rfl, rfl⟩)
  rw [← hq4] at HB7 HST
  have HPQ : Hid (Pkt w4 q4 qo qd) := ⟨HST.out.wf, by rw [H4.out.1]; exact HQ.out.o, by rw [H4.out.2]; exact HQ.out.d⟩
  have H4A := Lib.hid HST.out.wf.ad
  clear hq4
  go_wp2_with (refine wpList_load28 rfl _ rfl g7 rfl q4 _ _ (by exact HB7.out) H4A.out ?_)
  refine (bytes_c q4 qo qd _ HPQ.out).mono ?_
  rintro E w5 ⟨rfl, haw⟩
  replace HA := Lib.hid (HA.out.on haw)
  replace HG := Lib.hid (HG.out.on haw)
  replace HP := Lib.hid (HP.out.on haw)
  replace HB3 := Lib.hid (HB3.out.on haw)
  replace HQ := Lib.hid (HQ.out.on haw)
  replace HB7 := Lib.hid (HB7.out.on haw)
  replace HPQ := Lib.hid (HPQ.out.on haw)
  replace HA25 := Lib.hid (HA25.out.on haw)
  have hs5 := HA25.out.size
  clear haw
  rw [H4.out.1, H4.out.2]
  obtain ⟨da, dc, hde, -, -, -⟩ := HQ.out.d
  have h15 := HU.out.all.1
  obtain ⟨z4, hz4⟩ : ∃ z, z = 20 + q.o.length + q.d.length := ⟨_, rfl⟩
  rw [← hz4] at HST ⊢
  clear hz4
  go_upto_if 23 with fail
  go_cut [8] (fun v wc => ∃ Q Qo Qd z, v = .int .i64 ((z : Nat) : Int) ∧ BoxP wc g7 Q Qo Qd ∧ Pkt wc Q Qo Qd ∧ Stiff Q z ∧ Away [g7] w5 wc)
  case first =>
    cases sx
    · go_wp2_with fail
      go_meet
      exact ⟨q4, qo, qd, z4, rfl, HB7.out, HPQ.out, HST.out, Away.refl _ _⟩
    · have hls : (p.sb.map (Value.int .u8)).length = 16 := by rw [List.length_map]; exact HAD.out.1
      have hld : (p.db.map (Value.int .u8)).length = 16 := by rw [List.length_map]; exact HAD.out.2
      have HLS := Lib.hid hls; have HLD := Lib.hid hld
      clear hls hld
      have c45 := (HB7.out.cells H4A.out).d
      rw [hde] at c45
      have hqld : q4.d.length = q.d.length := by rw [H4.out.2]
      go_wp2_with (refine wpList_load_mid rfl 22 _ rfl g3 4 rfl (p.sb.map (Value.int .u8)) _ HB3.out.sb22 Tryd.underlying22 rfl (by rw [HLS.out]; exact info22s) ?_; refine Hid.out ?_)
      refine Lib.hid ?_
      go_wp2_with (refine wpList_build24 rfl _ _ rfl 6 p.sb HAD.out.1 rfl rfl ?_; refine Hid.out ?_)
      refine Lib.hid ?_
      go_wp2_with (refine wpList_load_mid rfl 22 _ rfl g3 21 rfl (p.db.map (Value.int .u8)) _ (HB3.out.db22 HAD.out) Tryd.underlying22 rfl (by rw [HLD.out]; exact info22s) ?_; refine Hid.out ?_)
      refine Lib.hid ?_
      go_wp2_with (refine wpList_build24 rfl _ _ rfl 6 p.db HAD.out.2 rfl rfl ?_; refine Hid.out ?_)
      refine Lib.hid ?_
      go_wp2_with (refine wpList_build28s rfl _ _ _ _ _ _ rfl p.sb p.db q.d HAD.out.1 HAD.out.2 da q.d.length dc rfl rfl rfl rfl rfl rfl ?_; refine Hid.out ?_)
      refine Lib.hid ?_
      clear c45
      go_wp2_with (refine wpList_store28 rfl _ _ rfl g7 rfl (six p.sb p.db q.d) (.slice none 0 0) (.slice da q.d.length dc) rfl q4 qo qd (by exact HB7.out) ⟨HAD.out.1, HAD.out.2⟩ H4A.out rfl rfl ?_; refine Hid.out ?_)
      refine Lib.hid ?_
      intro w6 hb6 haw6
      have HB6 := Lib.hid hb6; have HA6 := Lib.hid haw6
      have HS6 := Lib.hid (stiff6 HW.out HQW.out.d (show q.d.length ≤ 65535 from h15))
      have HP6 : Hid (Pkt w6 (six p.sb p.db q.d) (.slice none 0 0) (.slice da q.d.length dc)) := ⟨HS6.out.wf, Sl.nil _, by
        rw [← hde]
        exact HQ2.out.d.away (HA25.out.next haw6 (fun x hx => .inr (by simp at hx; omega))) (by simp)⟩
      have c45 := (hb6.cells ⟨HAD.out.1, HAD.out.2⟩).d
      clear hb6 haw6
      go_wp2_with fail
      go_meet
      exact ⟨_, _, _, 40 + q.d.length, by go_num, HB6.out, HP6.out, HS6.out, HA6.out⟩
  case rest =>
  obtain ⟨Q, Qo, Qd, z, rfl, hb, hpk, hst, haw7⟩ := hcut
  have haw := HA25.out.next haw7 (fun x hx => .inr (by simp at hx; omega) : ∀ x ∈ [g7], x ∈ ([] : List Nat) ∨ w2.heap.size ≤ x)
  have HA7 : Hid (Away [] w wc) := HA2.out.on haw
  have HG7 : Hid (Glob wc) := HG2.out.on haw
  have HB7c := Lib.hid hb; have HPQc := Lib.hid hpk; have HSTc := Lib.hid hst
  have HQQ := Lib.hid hst.wf.ad
  clear hb hpk hst haw7 haw HA HG HP HB3 HQ HQ2 HB7 HPQ HST H4A HA25 HA2 HG2 HU HQW HQA HQV HO1 HD1 H4 hde hl3 hg7 hs5 h15
  have HA := HA7; have HG := HG7; have HB7 := HB7c; have HPQ := HPQc; have HST := HSTc
  clear HA7 HG7 HB7c HPQc HSTc
  go_wp2_with (refine wpList_load28 rfl _ rfl g7 rfl Q _ _ (by exact HB7.out) HQQ.out ?_)
  refine (recut_c Q Qo Qd mtu _ HPQ.out HG.out).mono ?_
  unfold RecOut
  rw [HST.out.recut mtu]
  rintro E x1 ⟨v, xs, rfl, hcu, hxm, haw⟩
  have HCU := Lib.hid hcu
  obtain ⟨er, her⟩ : ∃ er, er = (if mtuP mtu 4 = true then (if (z : Int) ≤ mtu then ([Q], (0 : Int)) else ([], 100)) else ([], 1)).2 := ⟨_, rfl⟩
  obtain ⟨ll, hll⟩ : ∃ l, l = (if mtuP mtu 4 = true then (if (z : Int) ≤ mtu then ([Q], (0 : Int)) else ([], 100)) else ([], 1)).1 := ⟨_, rfl⟩
  rw [← her]
  have hxm2 : xs.map X.p = ll := by rw [hll]; exact hxm
  have HER := Lib.hid her; have HLL := Lib.hid hll; have HXM := Lib.hid hxm2
  have hx1 : xs.length ≤ 1 := by
    rw [← List.length_map (f := X.p), hxm2, hll]; split <;> (try split) <;> simp
  obtain ⟨la, lc, hlv, hlc, hln, hlp, hlo⟩ := hcu.pks (by omega)
  subst hlv
  have HLP := Lib.hid hlp
  obtain ⟨ln, hlne⟩ : ∃ n, n = xs.length := ⟨_, rfl⟩
  rw [← hlne]
  have HLN := Lib.hid hlne
  replace HA := Lib.hid (HA.out.on haw)
  replace HG := Lib.hid (HG.out.on haw)
  replace HB7 := Lib.hid (HB7.out.on haw)
  replace HPQ := Lib.hid (HPQ.out.on haw)
  clear haw hcu hxm hxm2 her hll hlp hlo hlne hlc hln hx1 HCU
  go_wp2_with (refine wpList_load28 rfl _ rfl g7 rfl Q _ _ (by exact HB7.out) HQQ.out ?_)
  refine (recut_c Q Qo Qd 67 _ HPQ.out HG.out).mono ?_
  unfold RecOut
  rw [HST.out.recut 67, if_neg (by decide)]
  rintro E x2 ⟨v, ys, rfl, hcu, hxm, haw⟩
  obtain ⟨na2, nc2, rfl⟩ := none_of hcu hxm
  replace HLP := Lib.hid (HLP.out.on haw)
  replace HA := Lib.hid (HA.out.on haw)
  replace HG := Lib.hid (HG.out.on haw)
  replace HB7 := Lib.hid (HB7.out.on haw)
  replace HPQ := Lib.hid (HPQ.out.on haw)
  clear haw hcu hxm
  go_wp2_with (refine wpList_load28 rfl _ rfl g7 rfl Q _ _ (by exact HB7.out) HQQ.out ?_)
  refine (recut_c Q Qo Qd 65536 _ HPQ.out HG.out).mono ?_
  unfold RecOut
  rw [HST.out.recut 65536, if_neg (by decide)]
  rintro E x3 ⟨v, ys, rfl, hcu, hxm, haw⟩
  obtain ⟨na3, nc3, rfl⟩ := none_of hcu hxm
  replace HLP := Lib.hid (HLP.out.on haw)
  replace HA := Lib.hid (HA.out.on haw)
  replace HG := Lib.hid (HG.out.on haw)
  replace HB7 := Lib.hid (HB7.out.on haw)
  replace HPQ := Lib.hid (HPQ.out.on haw)
  clear haw hcu hxm
  go_wp2_with (refine wpList_load28 rfl _ rfl g7 rfl Q _ _ (by exact HB7.out) HQQ.out ?_)
  refine (lown_c Q Qo Qd _ HPQ.out).mono ?_
  rintro E x4 ⟨bo, bd, rfl, hmine, haw⟩
  replace HLP := Lib.hid (HLP.out.on haw)
  replace HA := Lib.hid (HA.out.on haw)
  replace HG := Lib.hid (HG.out.on haw)
  replace HB7 := Lib.hid (HB7.out.on haw)
  replace HPQ := Lib.hid (HPQ.out.on haw)
  have HBO := Lib.hid (hmine.pkt HST.out.wf)
  have HO1 := Lib.hid hmine.o.one; have HD1 := Lib.hid hmine.d.one
  clear haw hmine
  go_wp2_with (refine wpList_new28 rfl rfl rfl _ _ rfl Q bo bd (fun g => rfl) (fun g => rfl) HQQ.out HO1.out HD1.out ?_; refine Hid.out ?_)
  refine Lib.hid ?_
  intro g15 x5 hg15 hb haw
  have s38 := (hb.cells HQQ.out).ttl
  have f38 := hb.free 38
  have hA6 := haw.next (away_put (w := x5) (g := g15) 38 (.int .i64 256)) (fun x hx => .inr (by simp at hx; omega) : ∀ x ∈ [g15], x ∈ ([] : List Nat) ∨ x4.heap.size ≤ x)
  have HBB := Lib.hid (hb.put 38 (.int .i64 256) ((csP_set HQQ.out _ _).2.2.2.2.2.2.1 256))
  have HA6 := Lib.hid hA6
  clear hb haw hA6
  go_upto_region 12 with fail
  clear s38 f38
  generalize x5.setCell ⟨g15, 38, none⟩ (.int .i64 256) = x6 at *
  have haw := HA6.out
  replace HLP := Lib.hid (HLP.out.on haw)
  replace HA := Lib.hid (HA.out.on haw)
  replace HG := Lib.hid (HG.out.on haw)
  replace HB7 := Lib.hid (HB7.out.on haw)
  replace HPQ := Lib.hid (HPQ.out.on haw)
  replace HBO := Lib.hid (HBO.out.on haw)
  clear haw HA6 hg15
  have hw := HST.out.wf
  have HBP : Hid (Pkt x6 { Q with ttl := 256 } bo bd) := ⟨⟨hw.v, hw.tos, hw.flow, hw.sv, hw.sl, hw.sb, hw.dv, hw.dl, hw.db, hw.proto, by simp [i64ok], hw.id0, hw.id1, hw.off, hw.o, hw.ol, hw.d, hw.dn⟩, HBO.out.o, HBO.out.d⟩
  have HBR := Lib.hid (bad_recut Q 1500)
  obtain ⟨Q9, hQ9⟩ : ∃ x : Pk, x = { Q with ttl := 256 } := ⟨_, rfl⟩
  rw [← hQ9] at HBP HBB HBR
  have HQ9 := Lib.hid HBP.out.wf.ad
  clear hQ9 hw HBO
  go_wp2_with (refine wpList_load28 rfl _ rfl g15 rfl Q9 _ _ (by exact HBB.out) HQ9.out ?_)
  refine (recut_c Q9 bo bd 1500 _ HBP.out HG.out).mono ?_
  unfold RecOut
  rw [HBR.out]
  rintro E x7 ⟨v, ys, rfl, hcu, hxm, haw⟩
  obtain ⟨na7, nc7, rfl⟩ := none_of hcu hxm
  replace HLP := Lib.hid (HLP.out.on haw)
  replace HA := Lib.hid (HA.out.on haw)
  replace HG := Lib.hid (HG.out.on haw)
  replace HB7 := Lib.hid (HB7.out.on haw)
  replace HPQ := Lib.hid (HPQ.out.on haw)
  clear haw hcu hxm HBP HBB HBR HQ9
  go_wp2_with fail
  refine (known_c _ HG.out).mono ?_
  rintro E x8 ⟨rfl, haw⟩
  replace HLP := Lib.hid (HLP.out.on haw)
  replace HA := Lib.hid (HA.out.on haw)
  replace HG := Lib.hid (HG.out.on haw)
  replace HB7 := Lib.hid (HB7.out.on haw)
  replace HPQ := Lib.hid (HPQ.out.on haw)
  clear haw
  by_cases hm : mtuP mtu 4 = true
  · have hmb := (mtu_iff _ _).1 hm
    simp only [show ((4 : Int) = 6) = False from by simp, if_false] at hmb
    obtain ⟨hm1, hm2⟩ := hmb
    have d1 : decide (mtu < 68) = false := by simp; omega
    have d2 : decide (65535 < mtu) = false := by simp; omega
    have HMT := Lib.hid hm
    clear hm
    by_cases hz : (z : Int) ≤ mtu
    · have HIS : Hid ((mtuP mtu 4 && decide ((z : Int) ≤ mtu)) = true) := by show _ = _; rw [HMT.out, decide_eq_true hz]; rfl
      have d3 : decide (mtu < (z : Int)) = false := by simp; omega
      obtain rfl : er = 0 := by rw [HER.out, if_pos HMT.out, if_pos hz]
      have hone : xs.map X.p = [Q] := by rw [HXM.out, HLL.out, if_pos HMT.out, if_pos hz]
      obtain ⟨lo, ld, rfl⟩ := one_of hone
      obtain rfl : ln = 1 := HLN.out
      obtain ⟨lb, lo0, hla, hlr, hlk⟩ := HLP.out.at (i := 0) rfl
      subst hla
      have HLK : Hid (Pkt x8 Q lo ld) := hlk
      have HLR : Hid (x8.rangeAt lb lo0 (listP Q lo ld)) := by
        have : x8.rangeAt lb (lo0 + 0 * 46) (listP Q lo ld) := hlr
        show x8.rangeAt lb lo0 _
        simpa using this
      clear hlr hlk hone HLP
      go_wp2_with fail
      refine wp_region_held_drew (S := (fun w' => BoxP w' g7 Q Qo Qd ∧ Away [] x8 w')) (by kernel_rfl) (⟨HB7.out, (Away.refl [] x8).drew⟩) (fun hHeld => ?_)
      refine wpAnyH_take (i := 0) (v := ?_) (by simp only [List.getElem?_toArray, List.getElem?_cons_zero]; rfl) (by kernel_rfl) (by kernel_rfl) (by kernel_rfl) (by exact fun _ _ _ h => h) (Or.inl ⟨by rfl, ?_⟩) (by assumption) ?_
      rotate_left
      · intro wq hSw
        (try dsimp only at hSw)
        go_simp
        all_goals (with_reducible rfl)
      try simp only [Act.put, List.setIfInBounds_toArray, List.set_cons_zero, List.set_cons_succ]
      refine wpAnyH_take (i := 1) (v := ?_) (by simp only [List.getElem?_toArray, List.getElem?_cons_succ, List.getElem?_cons_zero]; rfl) (by kernel_rfl) (by kernel_rfl) (by kernel_rfl) (by exact fun _ _ _ h => h) (Or.inl ⟨by rfl, ?_⟩) (by assumption) ?_
      rotate_left
      · intro wq hSw
        (try dsimp only at hSw)
        go_simp
        all_goals (with_reducible rfl)
      try simp only [Act.put, List.setIfInBounds_toArray, List.set_cons_zero, List.set_cons_succ]
      refine wpAnyH_take (i := 2) (v := ?_) (by simp only [List.getElem?_toArray, List.getElem?_cons_succ, List.getElem?_cons_zero]; rfl) (by kernel_rfl) (by kernel_rfl) (by kernel_rfl) (by exact fun _ _ _ h => h) (Or.inl ⟨by rfl, ?_⟩) (by assumption) ?_
      rotate_left
      · intro wq hSw
        (try dsimp only at hSw)
        go_simp
        all_goals (with_reducible rfl)
      try simp only [Act.put, List.setIfInBounds_toArray, List.set_cons_zero, List.set_cons_succ]
      refine wpAnyH_take (i := 3) (v := ?_) (by simp only [List.getElem?_toArray, List.getElem?_cons_succ, List.getElem?_cons_zero]; rfl) (by kernel_rfl) (by kernel_rfl) (by kernel_rfl) (by exact fun _ _ _ h => h) (Or.inl ⟨by rfl, ?_⟩) (by assumption) ?_
      rotate_left
      · intro wq hSw
        (try dsimp only at hSw)
        go_simp
        all_goals (with_reducible rfl)
      try simp only [Act.put, List.setIfInBounds_toArray, List.set_cons_zero, List.set_cons_succ]
      refine wpAnyH_take (i := 4) (v := ?_) (by simp only [List.getElem?_toArray, List.getElem?_cons_succ, List.getElem?_cons_zero]; rfl) (by kernel_rfl) (by kernel_rfl) (by kernel_rfl) (by exact fun _ _ _ h => h) (Or.inl ⟨by rfl, ?_⟩) (by assumption) ?_
      rotate_left
      · intro wq hSw
        (try dsimp only at hSw)
        go_simp
        all_goals (with_reducible rfl)
      try simp only [Act.put, List.setIfInBounds_toArray, List.set_cons_zero, List.set_cons_succ]
      refine wpAnyH_take (i := 5) (v := ?_) (by simp only [List.getElem?_toArray, List.getElem?_cons_succ, List.getElem?_cons_zero]; rfl) (by kernel_rfl) (by kernel_rfl) (by kernel_rfl) (by exact fun _ _ _ h => h) (Or.inl ⟨by rfl, ?_⟩) (by assumption) ?_
      rotate_left
      · intro wq hSw
        (try dsimp only at hSw)
        go_simp
        all_goals (with_reducible rfl)
      try simp only [Act.put, List.setIfInBounds_toArray, List.set_cons_zero, List.set_cons_succ]
      refine wpAnyH_take (i := 6) (v := ?_) (by simp only [List.getElem?_toArray, List.getElem?_cons_succ, List.getElem?_cons_zero]; rfl) (by kernel_rfl) (by kernel_rfl) (by kernel_rfl) (by exact fun _ _ _ h => h) (Or.inl ⟨by rfl, ?_⟩) (by assumption) ?_
      rotate_left
      · intro wq hSw
        (try dsimp only at hSw)
        go_simp
        all_goals (with_reducible rfl)
      try simp only [Act.put, List.setIfInBounds_toArray, List.set_cons_zero, List.set_cons_succ]
      refine wpAnyH_take (i := 7) (v := ?_) (by simp only [List.getElem?_toArray, List.getElem?_cons_succ, List.getElem?_cons_zero]; rfl) (by kernel_rfl) (by kernel_rfl) (by kernel_rfl) (by exact fun _ _ _ h => h) (Or.inl ⟨by rfl, ?_⟩) (by assumption) ?_
      rotate_left
      · intro wq hSw
        (try dsimp only at hSw)
        go_simp
        all_goals (with_reducible rfl)
      try simp only [Act.put, List.setIfInBounds_toArray, List.set_cons_zero, List.set_cons_succ]
      refine wpAnyH_take (i := 8) (v := ?_) (by simp only [List.getElem?_toArray, List.getElem?_cons_succ, List.getElem?_cons_zero]; rfl) (by kernel_rfl) (by kernel_rfl) (by kernel_rfl) (by exact fun _ _ _ h => h) (Or.inl ⟨by rfl, ?_⟩) (by assumption) ?_
      rotate_left
      · intro wq hSw
        (try dsimp only at hSw)
        go_simp
        all_goals (with_reducible rfl)
      try simp only [Act.put, List.setIfInBounds_toArray, List.set_cons_zero, List.set_cons_succ]
      refine wpAnyH_take (i := 9) (v := ?_) (by simp only [List.getElem?_toArray, List.getElem?_cons_succ, List.getElem?_cons_zero]; rfl) (by kernel_rfl) (by kernel_rfl) (by kernel_rfl) (by exact fun _ _ _ h => h) (Or.inl ⟨by rfl, ?_⟩) (by assumption) ?_
      rotate_left
      · intro wq hSw
        (try dsimp only at hSw)
        go_simp
        all_goals (with_reducible rfl)
      try simp only [Act.put, List.setIfInBounds_toArray, List.set_cons_zero, List.set_cons_succ]
      refine wpAnyH_take (i := 10) (by simp only [List.getElem?_toArray, List.getElem?_cons_succ, List.getElem?_cons_zero]; rfl) (by kernel_rfl) (by kernel_rfl) (by kernel_rfl) (by exact fun _ _ _ h => h) (yields_ld (ad := ⟨lb, lo0, none⟩) (by rfl) _ rfl rfl (fun w' h => load28m_run (by exact range_away h.2 (by simp) HLR.out) HQQ.out)) (by assumption) ?_
      try simp only [Act.put, List.setIfInBounds_toArray, List.set_cons_zero, List.set_cons_succ]
      refine wpAnyH_take (i := 11) (by simp only [List.getElem?_toArray, List.getElem?_cons_succ, List.getElem?_cons_zero]; rfl) (by kernel_rfl) (by kernel_rfl) (by kernel_rfl) (by exact fun _ _ _ h => h) (yields_ld (ad := ⟨g7, 0, none⟩) (by rfl) _ rfl rfl (fun w' h => S6.load28_run h.1 HQQ.out)) (by assumption) ?_
      try simp only [Act.put, List.setIfInBounds_toArray, List.set_cons_zero, List.set_cons_succ]
      refine wpAnyH_ready (rs := [12]) (by kernel_rfl) (by simp) ?_
      refine AllReadyH.cons (by simp only [List.getElem?_toArray, List.getElem?_cons_succ, List.getElem?_cons_zero]; rfl) (fun K hK => ?_) AllReadyH.nil
      go_simp
      refine (Same_yes Q lo ld Qo Qd _ (by exact HLK.out.on hHeld.2) (by exact HPQ.out.on hHeld.2)).mono ?_
      rintro E y1 ⟨rfl, haw⟩
      have hS : BoxP y1 g7 Q Qo Qd ∧ Away [] x8 y1 := ⟨hHeld.1.on haw, hHeld.2.on haw⟩
      clear haw
      go_wp2_with fail
      refine hK.out _ _ hS (fun hHeld => ?_)
      clear hK K
      try simp only [Act.put, List.setIfInBounds_toArray, List.set_cons_zero, List.set_cons_succ]
      refine wpAnyH_take (i := 13) (v := ?_) (by simp only [List.getElem?_toArray, List.getElem?_cons_succ, List.getElem?_cons_zero]; rfl) (by kernel_rfl) (by kernel_rfl) (by kernel_rfl) (by exact fun _ _ _ h => h) (Or.inl ⟨by rfl, ?_⟩) (by assumption) ?_
      rotate_left
      · intro wq hSw
        (try dsimp only at hSw)
        go_simp
        all_goals (with_reducible rfl)
      try simp only [Act.put, List.setIfInBounds_toArray, List.set_cons_zero, List.set_cons_succ]
      refine wpAnyH_take (i := 14) (v := ?_) (by simp only [List.getElem?_toArray, List.getElem?_cons_succ, List.getElem?_cons_zero]; rfl) (by kernel_rfl) (by kernel_rfl) (by kernel_rfl) (by exact fun _ _ _ h => h) (Or.inl ⟨by rfl, ?_⟩) (by assumption) ?_
      rotate_left
      · intro wq hSw
        (try dsimp only at hSw)
        go_simp
        all_goals (with_reducible rfl)
      try simp only [Act.put, List.setIfInBounds_toArray, List.set_cons_zero, List.set_cons_succ]
      refine wpAnyH_take (i := 15) (by simp only [List.getElem?_toArray, List.getElem?_cons_succ, List.getElem?_cons_zero]; rfl) (by kernel_rfl) (by kernel_rfl) (by kernel_rfl) (by exact fun _ _ _ h => h) (yields_ld (ad := ⟨g7, 0, none⟩) (by rfl) _ rfl rfl (fun w' h => S6.load28_run h.1 HQQ.out)) (by assumption) ?_
      try simp only [Act.put, List.setIfInBounds_toArray, List.set_cons_zero, List.set_cons_succ]
      refine wpAnyH_take (i := 16) (v := ?_) (by simp only [List.getElem?_toArray, List.getElem?_cons_succ, List.getElem?_cons_zero]; rfl) (by kernel_rfl) (by kernel_rfl) (by kernel_rfl) (by exact fun _ _ _ h => h) (Or.inl ⟨by rfl, ?_⟩) (by assumption) ?_
      rotate_left
      · intro wq hSw
        (try dsimp only at hSw)
        go_simp
        all_goals (with_reducible rfl)
      try simp only [Act.put, List.setIfInBounds_toArray, List.set_cons_zero, List.set_cons_succ]
      refine wpAnyH_take (i := 17) (by simp only [List.getElem?_toArray, List.getElem?_cons_succ, List.getElem?_cons_zero]; rfl) (by kernel_rfl) (by kernel_rfl) (by kernel_rfl) (by exact fun _ _ _ h => h) (yields_ld (ad := ⟨g7, 0, none⟩) (by rfl) _ rfl rfl (fun w' h => S6.load28_run h.1 HQQ.out)) (by assumption) ?_
      try simp only [Act.put, List.setIfInBounds_toArray, List.set_cons_zero, List.set_cons_succ]
      refine wpAnyH_ready (rs := [18]) (by kernel_rfl) (by simp) ?_
      refine AllReadyH.cons (by simp only [List.getElem?_toArray, List.getElem?_cons_succ, List.getElem?_cons_zero]; rfl) (fun K hK => ?_) AllReadyH.nil
      rw [if_pos (by rfl)]
      refine wp_build28 _ rfl Q Qo Qd rfl HQQ.out ?_
      intro gq y2 hgq hbq haw hwe hge
      have hS : BoxP y2 g7 Q Qo Qd ∧ Away [] x8 y2 := ⟨hHeld.1.on haw, hHeld.2.on haw⟩
      have hlq := pks_one hbq (HPQ.out.on hS.2)
      clear haw hwe hge hbq hgq
      refine hK.out _ _ hS (fun hHeld => ?_)
      clear hK K
      try simp only [Act.put, List.setIfInBounds_toArray, List.set_cons_zero, List.set_cons_succ]
      refine wpAnyH_ready (rs := [19]) (by kernel_rfl) (by simp) ?_
      refine AllReadyH.cons (by simp only [List.getElem?_toArray, List.getElem?_cons_succ, List.getElem?_cons_zero]; rfl) (fun K hK => ?_) AllReadyH.nil
      go_simp
      refine (R.is_c Q Qo Qd mtu (some ⟨gq, 0, none⟩) [⟨Q, Qo, Qd⟩] 1 1 _ rfl (by exact HPQ.out.on hHeld.2) hlq (by exact HG.out.on hHeld.2)).mono ?_
      rw [show isR Q mtu (List.map X.p [⟨Q, Qo, Qd⟩]) = true from by rw [show List.map X.p [⟨Q, Qo, Qd⟩] = [Q] from rfl, HST.out.is, HIS.out]]
      rintro E y3 ⟨rfl, haw⟩
      have hS : BoxP y3 g7 Q Qo Qd ∧ Away [] x8 y3 := ⟨hHeld.1.on haw, hHeld.2.on haw⟩
      clear haw
      go_wp2_with fail
      refine hK.out _ _ hS (fun hHeld => ?_)
      clear hK K
      try simp only [Act.put, List.setIfInBounds_toArray, List.set_cons_zero, List.set_cons_succ]
      refine wpAnyH_take (i := 20) (v := ?_) (by simp only [List.getElem?_toArray, List.getElem?_cons_succ, List.getElem?_cons_zero]; rfl) (by kernel_rfl) (by kernel_rfl) (by kernel_rfl) (by exact fun _ _ _ h => h) (Or.inl ⟨by rfl, ?_⟩) (by assumption) ?_
      rotate_left
      · intro wq hSw
        (try dsimp only at hSw)
        go_simp
        all_goals (with_reducible rfl)
      try simp only [Act.put, List.setIfInBounds_toArray, List.set_cons_zero, List.set_cons_succ]
      refine wpAnyH_take (i := 21) (v := ?_) (by simp only [List.getElem?_toArray, List.getElem?_cons_succ, List.getElem?_cons_zero]; rfl) (by kernel_rfl) (by kernel_rfl) (by kernel_rfl) (by exact fun _ _ _ h => h) (Or.inl ⟨by rfl, ?_⟩) (by assumption) ?_
      rotate_left
      · intro wq hSw
        (try dsimp only at hSw)
        go_simp
        all_goals (with_reducible rfl)
      try simp only [Act.put]
      refine wpAnyH_done (by kernel_rfl) ?_ _
      have HE := Lib.hid (HA.out.on hHeld.2)
      clear hHeld
      go_wp2_with fail
      go_ret
      exact ⟨rfl, HE.out.to_below⟩
    · have HIS : Hid ((mtuP mtu 4 && decide ((z : Int) ≤ mtu)) = false) := by show _ = _; rw [HMT.out, decide_eq_false hz]; rfl
      have d3 : decide (mtu < (z : Int)) = true := by simp; omega
      obtain rfl : er = 100 := by rw [HER.out]; rw [if_pos HMT.out, if_neg hz]
      obtain rfl : ln = 0 := by
        have h := HXM.out
        rw [HLL.out] at h
        rw [HLN.out]
        rw [if_pos HMT.out, if_neg hz] at h
        have : xs = [] := by simpa using h
        rw [this]; rfl
      go_wp2_with (first
        | (refine wpList_load28 rfl _ rfl g7 rfl Q _ _ (by exact HB7.out) HQQ.out ?_)
        | (refine wpList_build28w rfl _ rfl Q Qo Qd rfl HQQ.out ?_; refine Hid.out ?_))
      refine Lib.hid ?_
      intro gq y1 hgq hbq haw
      replace HA := Lib.hid (HA.out.on haw)
      replace HG := Lib.hid (HG.out.on haw)
      replace HPQ := Lib.hid (HPQ.out.on haw)
      have HLQ := Lib.hid (pks_one hbq HPQ.out)
      clear hbq haw hgq
      go_wp2_with fail
      refine (R.is_c Q Qo Qd mtu (some ⟨gq, 0, none⟩) [⟨Q, Qo, Qd⟩] 1 1 _ rfl HPQ.out HLQ.out HG.out).mono ?_
      rw [show isR Q mtu (List.map X.p [⟨Q, Qo, Qd⟩]) = false from by rw [show List.map X.p [⟨Q, Qo, Qd⟩] = [Q] from rfl, HST.out.is, HIS.out]]
      rintro E y2 ⟨rfl, haw⟩
      replace HA := Lib.hid (HA.out.on haw)
      clear haw
      go_wp2_with fail
      go_ret
      exact ⟨rfl, HA.out.to_below⟩
  · have HNM := Lib.hid hm
    have HIS : Hid ((mtuP mtu 4 && decide ((z : Int) ≤ mtu)) = false) := by show _ = _; rw [Bool.eq_false_iff.2 hm]; rfl
    have hmb : mtu < 68 ∨ 65535 < mtu := by
      by_cases h1 : mtu < 68
      · exact .inl h1
      · right
        by_cases h2 : 65535 < mtu
        · exact h2
        · exfalso; apply hm; rw [mtu_iff]; simp; omega
    clear hm
    by_cases h1 : mtu < 68
    · have d1 : decide (mtu < 68) = true := by simp [h1]
      obtain rfl : er = 1 := by rw [HER.out]; rw [if_neg HNM.out]
      obtain rfl : ln = 0 := by
        have h := HXM.out
        rw [HLL.out] at h
        rw [HLN.out]
        rw [if_neg HNM.out] at h
        have : xs = [] := by simpa using h
        rw [this]; rfl
      go_wp2_with (first
        | (refine wpList_load28 rfl _ rfl g7 rfl Q _ _ (by exact HB7.out) HQQ.out ?_)
        | (refine wpList_build28w rfl _ rfl Q Qo Qd rfl HQQ.out ?_; refine Hid.out ?_))
      refine Lib.hid ?_
      intro gq y1 hgq hbq haw
      replace HA := Lib.hid (HA.out.on haw)
      replace HG := Lib.hid (HG.out.on haw)
      replace HPQ := Lib.hid (HPQ.out.on haw)
      have HLQ := Lib.hid (pks_one hbq HPQ.out)
      clear hbq haw hgq
      go_wp2_with fail
      refine (R.is_c Q Qo Qd mtu (some ⟨gq, 0, none⟩) [⟨Q, Qo, Qd⟩] 1 1 _ rfl HPQ.out HLQ.out HG.out).mono ?_
      rw [show isR Q mtu (List.map X.p [⟨Q, Qo, Qd⟩]) = false from by rw [show List.map X.p [⟨Q, Qo, Qd⟩] = [Q] from rfl, HST.out.is, HIS.out]]
      rintro E y2 ⟨rfl, haw⟩
      replace HA := Lib.hid (HA.out.on haw)
      clear haw
      go_wp2_with fail
      go_ret
      exact ⟨rfl, HA.out.to_below⟩
    · have d1 : decide (mtu < 68) = false := by simp; omega
      have d2 : decide (65535 < mtu) = true := by simp; omega
      obtain rfl : er = 1 := by rw [HER.out]; rw [if_neg HNM.out]
      obtain rfl : ln = 0 := by
        have h := HXM.out
        rw [HLL.out] at h
        rw [HLN.out]
        rw [if_neg HNM.out] at h
        have : xs = [] := by simpa using h
        rw [this]; rfl
      go_wp2_with (first
        | (refine wpList_load28 rfl _ rfl g7 rfl Q _ _ (by exact HB7.out) HQQ.out ?_)
        | (refine wpList_build28w rfl _ rfl Q Qo Qd rfl HQQ.out ?_; refine Hid.out ?_))
      refine Lib.hid ?_
      intro gq y1 hgq hbq haw
      replace HA := Lib.hid (HA.out.on haw)
      replace HG := Lib.hid (HG.out.on haw)
      replace HPQ := Lib.hid (HPQ.out.on haw)
      have HLQ := Lib.hid (pks_one hbq HPQ.out)
      clear hbq haw hgq
      go_wp2_with fail
      refine (R.is_c Q Qo Qd mtu (some ⟨gq, 0, none⟩) [⟨Q, Qo, Qd⟩] 1 1 _ rfl HPQ.out HLQ.out HG.out).mono ?_
      rw [show isR Q mtu (List.map X.p [⟨Q, Qo, Qd⟩]) = false from by rw [show List.map X.p [⟨Q, Qo, Qd⟩] = [Q] from rfl, HST.out.is, HIS.out]]
      rintro E y2 ⟨rfl, haw⟩
      replace HA := Lib.hid (HA.out.on haw)
      clear haw
      go_wp2_with fail
      go_ret
      exact ⟨rfl, HA.out.to_below⟩
end recutRefuses
namespace recutRefuses
theorem contract (H : Type) (enc : TypeId × Value → H) (W : World) (base : Nat) (args : Array Value) (ds gs : List (DataW H)) (before : List MemPlace)
    (hval0 : ∀ (j : Nat) t v, Tryd.f5.params[j]? = some t → args[j]? = some v → Value.okWide Tryd.prog W .any base t v)
    (hW : DataW.Whole enc Tryd.prog Tryd.f5.params.toList Rows.recutRefusesSpec.vars false W args.toList ds gs before)
    (hsz0 : (DataW.weightsEach Tryd.prog (Tryd.f5.params.toList ++ Rows.recutRefusesSpec.plain.varTypes Tryd.prog) (ds ++ gs)).all (· ≤ reachBytes) = true)
    (hL : laidMetH Tryd.prog Rows.recutRefusesRow.laid W) :
    Calls Tryd.prog 5 args W fun e W' => ∃ v, e = .returned v ∧ Rows.recutRefusesSpec.post enc Tryd.prog Tryd.f5 false true false false W args v W' := by
  have hval := hval0
  have hsz := hsz0
  have hW' := hW
  obtain ⟨p, q, hA0, hV, rfl, hfz, hnd⟩ := hW
  have hA : DataW.TrodAll enc Tryd.prog W 0 (fun _ => true) true Tryd.f5.params.toList args.toList ds p := hA0
  rw [Tryd.params5] at hA hval hsz
  obtain ⟨v0, vs0, d0, ds0, p0, q0, hargs, rfl, rfl, h0, r0⟩ := trodAll_cons hA
  obtain ⟨v1, vs1, d1, ds1, p1, q1, rfl, rfl, rfl, h1, r1⟩ := trodAll_cons r0
  obtain ⟨v2, vs2, d2, ds2, p2, q2, rfl, rfl, rfl, h2, r2⟩ := trodAll_cons r1
  obtain ⟨rfl, rfl, rfl⟩ := trodAll_nil r2
  obtain rfl : args = #[v0, v1, v2] := by cases args; simp_all
  obtain ⟨rfl, rfl⟩ := trodVars_none hV
  have k0 := h0
  have lt0 : ∀ x ∈ p0, x.block < W.heap.size := by obtain ⟨m, hm⟩ := k0; exact DataW.trod_lt m _ _ _ hm
  have z0 : ∀ m ∈ d0.weights Tryd.prog 28, m ≤ reachBytes := fun m hm => by
    have := List.all_eq_true.1 hsz m (DataW.weights_mem_each (j := 0) (t := 28) rfl rfl m hm)
    simpa using this
  obtain ⟨x0, ov0, dv0, rfl, w0, ol0, dl0⟩ := open_pkt (hval 0 28 v0 rfl rfl) h0 z0
  obtain ⟨a1, rfl, rfl, rfl, w1⟩ := open_int Tryd.underlying3 (hval 1 3 v1 rfl rfl) h1
  obtain ⟨a2, rfl, rfl, rfl⟩ := open_bool Tryd.underlying4 (hval 2 4 v2 rfl rfl) h2
  clear hA0 hval0
  refine (walk x0 ov0 dv0 a1 a2 W (glob_of hL) w0 ol0 dl0 w1).mono fun e W' ⟨he, bel⟩ => ?_
  subst he
  exact ⟨_, rfl, _, _, _, [], _, [], hW', trodAll_mk1 (shut_bool Tryd.underlying4 _), (trodAll_cons_mk (Below.trod laidOut (by kernel_rfl) (of_decide_eq_true (by kernel_rfl)) k0 bel lt0) (trodAll_cons_mk (shut_int Tryd.underlying3 w1) (trodAll_cons_mk (shut_bool Tryd.underlying4 _) trodAll_mk0))), rfl, bel.frame _, fun h => by cases h⟩
theorem laid_met (os : Os) : laidMet Tryd.prog Rows.recutRefusesRow.laid ((laidWorld Tryd.prog os).forCall (fun _ _ => 0) ⟨#[], #[.agg (csP zeroPk (.slice none 0 0) (.slice none 0 0)), .int .i64 0, .bool false], []⟩).memory :=
  laidMet_of_run' 8 (by kernel_rfl) (by kernel_rfl)
theorem reads (os : Os) {H : Type} (enc : TypeId × Value → H) : ∃ places, DataW.whole enc Tryd.prog ((laidWorld Tryd.prog os).forCall (fun _ _ => 0) ⟨#[], #[.agg (csP zeroPk (.slice none 0 0) (.slice none 0 0)), .int .i64 0, .bool false], []⟩).memory Tryd.f5.params.toList Rows.recutRefusesSpec.vars false #[.agg (csP zeroPk (.slice none 0 0) (.slice none 0 0)), .int .i64 0, .bool false].toList 8 = some ([.agg [.lit (.int .i64 0), .lit (.int .i64 0), .lit (.int .i64 0), .agg [.lit (.int .i64 0), .agg [.lit (.int .u8 0), .lit (.int .u8 0), .lit (.int .u8 0), .lit (.int .u8 0), .lit (.int .u8 0), .lit (.int .u8 0), .lit (.int .u8 0), .lit (.int .u8 0), .lit (.int .u8 0), .lit (.int .u8 0), .lit (.int .u8 0), .lit (.int .u8 0), .lit (.int .u8 0), .lit (.int .u8 0), .lit (.int .u8 0), .lit (.int .u8 0)]], .agg [.lit (.int .i64 0), .agg [.lit (.int .u8 0), .lit (.int .u8 0), .lit (.int .u8 0), .lit (.int .u8 0), .lit (.int .u8 0), .lit (.int .u8 0), .lit (.int .u8 0), .lit (.int .u8 0), .lit (.int .u8 0), .lit (.int .u8 0), .lit (.int .u8 0), .lit (.int .u8 0), .lit (.int .u8 0), .lit (.int .u8 0), .lit (.int .u8 0), .lit (.int .u8 0)]], .lit (.int .i64 0), .lit (.int .i64 0), .lit (.int .u32 0), .lit (.bool false), .lit (.bool false), .lit (.bool false), .lit (.int .i64 0), .nil, .nil], .lit (.int .i64 0), .lit (.bool false)], [], places) :=
  ⟨[], by kernel_rfl⟩
theorem lifted (os : Os) (started : os.Started) (H : Type) (enc : TypeId × Value → H) (F : Stop.Interp) :
    ReturnsInHanded {} Tryd.checked os 5 .any ((OpenSpec.ofChange Rows.recutRefusesSpec).preRow enc Tryd.prog Tryd.f5 Rows.recutRefusesRow.domain false Rows.recutRefusesRow.laid) (((OpenSpec.ofChange Rows.recutRefusesSpec).at F).post enc Tryd.prog Tryd.f5 false true false false) := by
  obtain ⟨places, hx⟩ := reads os enc
  refine returnsInHanded_of_row (C := Tryd.checked) (s := OpenSpec.ofChange Rows.recutRefusesSpec) ownKn started (by kernel_rfl) Tryd.func5
    (witness_row_at (enc := enc) (C := Tryd.checked) false (laidWorld Tryd.prog os) #[.agg (csP zeroPk (.slice none 0 0) (.slice none 0 0)), .int .i64 0, .bool false] rfl (by kernel_rfl) (by kernel_rfl) (by kernel_rfl)
      (OpenSpec.preRow_of_cond 8 hx (by kernel_rfl) (fun k hk => by cases hk) (by kernel_rfl) (laid_met os))) ?_
  intro W base args ds gs before hval hW _ hcond hsz hL hS _
  exact contract H enc W base args ds gs before hval hW hsz hL
theorem said : Rows.RecutRefusesSaid :=
  OpenClaim.holds_of_cond 5 Tryd.f5 rfl rfl rfl rfl rfl rfl rfl ⟨rfl, rfl, rfl, rfl, rfl⟩ rfl rfl rfl rfl rfl (by kernel_rfl) Tryd.func5 (by kernel_rfl)
    (of_decide_eq_true (by kernel_rfl)) (by unfold Func.isWrapper; first | (rw [if_pos (by decide +kernel)]; kernel_rfl) | (rw [if_neg (by decide +kernel)]; exact ⟨rfl, rfl⟩))
    (fun os started H enc _ F => by rw [OpenClaim.pre_eq_preRow]; exact lifted os started H enc F)
theorem plain (f : FuncId) (fn : Func) (hf : Tryd.pinned.checked.prog.funcNamed "mosaic/mosaiclaw11.RecutRefuses" = some f) (hfn : Tryd.pinned.checked.prog.funcs[f]? = some fn) :
    false = Tryd.pinned.checked.prog.looks [] ∧ ∀ (j : Nat) t, fn.params[j]? = some t → Tryd.pinned.checked.prog.wantsStandIn t = false := by
  obtain rfl : f = 5 := Option.some.inj ((show Tryd.prog.funcNamed "mosaic/mosaiclaw11.RecutRefuses" = some 5 by kernel_rfl).symm.trans hf) |>.symm
  obtain rfl : fn = Tryd.f5 := (Option.some.inj (Tryd.func5.symm.trans hfn)).symm
  refine ⟨by kernel_rfl, fun j t ht => ?_⟩
  rw [Tryd.params5] at ht
  have hm := Array.mem_of_getElem? ht
  simp only [List.mem_toArray, List.mem_cons, List.not_mem_nil, or_false] at hm
  have h28 : Tryd.prog.wantsStandIn 28 = false := by kernel_rfl
  have h26 : Tryd.prog.wantsStandIn 26 = false := by kernel_rfl
  have h3 : Tryd.prog.wantsStandIn 3 = false := by kernel_rfl
  have h25 : Tryd.prog.wantsStandIn 25 = false := by kernel_rfl
  have h4 : Tryd.prog.wantsStandIn 4 = false := by kernel_rfl
  rcases hm with rfl | rfl | rfl
  all_goals first | exact h28 | exact h26 | exact h3 | exact h25 | exact h4
theorem card : Rows.RecutRefusesCardSaid :=
  Claim7.holds_tied_plain_at .later [] _ _ _ _ said (fun _ h => by cases h) (by kernel_rfl) (fun _ h => by cases h) recutRefuses_row_tie rfl ⟨rfl, rfl⟩ (by kernel_rfl) rfl plain (by kernel_rfl)
end recutRefuses
theorem recutRefuses_holds : Rows.RecutRefusesCardSaid := recutRefuses.card
#print axioms recutRefuses_holds
end Go.Proofs.YtaicckenpplceaaDoor
