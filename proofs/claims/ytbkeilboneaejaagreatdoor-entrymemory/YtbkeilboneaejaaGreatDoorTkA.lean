/-
  take, Put.
-/
import Derived.Test.YtbkeilboneaejaaGreatDoorLay
import Derived.Test.YtbkeilboneaejaaGreatDoorHSize
import Derived.Test.YtbkeilboneaejaaGreatDoorEfA
namespace Go.Proofs.YtbkeilboneaejaaGreatDoor
open Go.ChangeShapes Go.WideShapes Go.ChangeAt Go.RowKit
open S6 (wp_region_cls quiet_val quiet_call quiet_ld ld3 ld4 ld5 ld25 ld26 load28_run load24m_run)
set_option linter.unusedVariables false
set_option linter.unusedSimpArgs false
set_option maxRecDepth 20000

/-- What lay wants. -/
structure LayIn (w : World) (g : Nat) (s : Es) (dv : Value) (p : Pk) (po pd r : Value) (fr : List H.Sp) : Prop where
  pk : Pkt w p po pd
  pl : Plc p
  lst : H.Lst w r fr
  fin : FrIn p fr
  fl : fr.length ≤ 65535
  rb : ∀ k, r.ownBlock = some k → k ≠ g ∧ dv.ownBlock ≠ some k
  out : Outs p po pd (g :: dv.ownBlock.toList)
  by_ : Bytes s.d
  dl : s.d.length ≤ 65535
  h0 : 0 ≤ s.h
  h1 : s.h + H.lenP fr ≤ 65535
theorem LayIn.on {w w' : World} {g : Nat} {s : Es} {dv : Value} {p : Pk} {po pd r : Value} {fr : List H.Sp} (h : LayIn w g s dv p po pd r fr) (hw : Away [] w w') : LayIn w' g s dv p po pd r fr :=
  ⟨h.pk.on hw, h.pl, h.lst.on hw, h.fin, h.fl, h.rb, h.out, h.by_, h.dl, h.h0, h.h1⟩
theorem LayIn.lay {w : World} {g : Nat} {s : Es} {lb : Nat} {lv dv ov : Value} {mb mn : Nat} {p : Pk} {po pd r : Value} {fr : List H.Sp} (h : LayIn w g s dv p po pd r fr) (he : EntG w g s lb lv dv ov mb mn) :
    Calls Tryz.prog 100 #[.pointer (some ⟨g, 0, none⟩), .agg (csP p po pd), r] w (LayOut w g s p fr lb lv dv ov mb mn) := lay_c he p po pd h.pk h.pl r fr h.lst h.fin h.fl h.rb h.out h.by_ h.dl h.h0 h.h1
theorem end_nat {p : Pk} (h : Plc p) : ((endP p).toNat : Int) = p.off + p.d.length ∧ (endP p).toNat ≤ 65535 := by have h1 := h.o0; have h2 := h.tt; unfold endP; omega
theorem lays_len {s : Es} {p : Pk} {fr : List H.Sp} (hq : Plc p) (hf : FrIn p fr) : (layS s p fr).d.length = max s.d.length (endP p).toNat := by
  have := end_nat hq
  show (fr.foldl (laySp p.off p.d) (grow s.d (endP p).toNat)).length = _
  rw [layd_len hq fr _ hf (by rw [grow_len]; unfold endP at *; omega), grow_len]
theorem lays_bytes {s : Es} {p : Pk} {fr : List H.Sp} (hp : Bytes p.d) (hb : Bytes s.d) : Bytes (layS s p fr).d := layd_bytes hp _ _ (grow_bytes hb _)
def Tk4Out (w : World) (g : Nat) (q : Int × Es) (lb : Nat) (lv dv ov : Value) (mb mn : Nat) (E : Ending) (w' : World) : Prop :=
  E = .returned (.int .i64 q.1) ∧ ∃ dv', EntG w' g q.2 lb lv dv' ov mb mn ∧ Moved w dv dv' ∧ Away (g :: dv.ownBlock.toList) w w'
section
variable {w : World} {g : Nat} {s : Es} {lb : Nat} {lv dv ov : Value} {mb mn : Nat}
set_option maxHeartbeats 8000000 in
theorem take4_c (h : EntG w g s lb lv dv ov mb mn) (p : Pk) (po pd r : Value) (fr : List H.Sp) (hi : LayIn w g s dv p po pd r fr) (e0 : Int) (b : Bool) (hb : b = false ↔ s.e = e0) (hhd : 0 ≤ s.hd ∧ s.hd ≤ 60) (he : -1 ≤ s.e ∧ s.e ≤ 65535) :
    Calls Tryz.prog 75 #[.pointer (some ⟨g, 0, none⟩), .agg (csP p po pd), r, .bool b] w (Tk4Out w g (take4 e0 s p fr) lb lv dv ov mb mn) := by
  have HE := Lib.hid h
  have HI := Lib.hid hi
  have HAD := Lib.hid hi.pk.wf.ad
  have HT : Hid (take4 e0 s p fr = if long4 s = true then (4, s) else if agrP (layS s p fr) p = false then (4, layS s p fr) else if fr = [] ∧ s.e = e0 then (3, layS s p fr) else (progN s, layS s p fr)) := rfl
  have HLA : Hid (agrP (layS s p fr) p = agrP (layS s p fr) p) := rfl
  have HPR : Hid (progN (layS s p fr) = progN s) := rfl
  have HDL : Hid (p.off + p.d.length ≤ (layS s p fr).d.length ∧ (layS s p fr).d.length ≤ 65535 ∧ Bytes (layS s p fr).d) := by
    have h1 := lays_len (s := s) hi.pl hi.fin
    have h2 := end_nat hi.pl
    have h3 := hi.dl
    exact ⟨by rw [h1]; omega, by rw [h1]; omega, lays_bytes hi.pk.wf.d hi.by_⟩
  have K1 : Hid (∀ W, Away [] w W → Calls Tryz.prog 104 #[.pointer (some ⟨g, 0, none⟩)] W fun E w' => E = .returned (.bool (long4 s)) ∧ Away [] W w') := fun W hW => tooLong_c (h.on hW) hhd he
  have K2 : Hid (∀ W, Away [] w W → Calls Tryz.prog 100 #[.pointer (some ⟨g, 0, none⟩), .agg (csP p po pd), r] W (LayOut W g s p fr lb lv dv ov mb mn)) := fun W hW => (hi.on hW).lay (h.on hW)
  have HB := Lib.hid hb
  obtain ⟨ra, rc, hre, -, -, -, -⟩ := hi.lst.row (by have := hi.fl; omega) (fun x hx => by have h1 := hi.fin x hx; have h2 := hi.pl.o0; have h3 := hi.pl.tt; unfold endP at h1; exact ⟨⟨by omega, by omega⟩, ⟨by omega, by omega⟩⟩)
  obtain ⟨nf, hnf⟩ : ∃ nf, nf = fr.length := ⟨_, rfl⟩
  rw [← hnf] at hre
  have HNF : Hid (fr = [] ↔ nf = 0) := by rw [hnf]; exact ⟨fun e => by rw [e]; rfl, List.eq_nil_of_length_eq_zero⟩
  have HPB := Lib.hid hi.pk.wf.d
  generalize hag : agrP (layS s p fr) p = ag at *
  generalize long4 s = lg at *
  subst hre
  clear h hi hb hhd he hnf
  cases lg with
  | true =>
    go_enter Tryz.func75, Tryz.ntmps75
    go_wp2_with (refine wpList_box28 rfl _ rfl p _ _ rfl ?_; refine Hid.out ?_)
    refine Lib.hid ?_
    intro g5 w5 hg5 hb5 haw5
    have HA5 := Lib.hid haw5
    clear hb5 haw5
    go_wp2_with fail
    refine (K1.out w5 HA5.out).mono ?_
    rintro E w6 ⟨rfl, haw6⟩
    have HA6 := Lib.hid (HA5.out.trans haw6)
    clear haw6
    go_wp2_with fail
    go_ret
    exact ⟨ret_int (by rw [HT.out]; rfl), dv, by rw [HT.out]; exact HE.out.on HA6.out, Moved.refl _ _, HA6.out.mono (by simp)⟩
  | false =>
    go_enter Tryz.func75, Tryz.ntmps75
    go_wp2_with (refine wpList_box28 rfl _ rfl p _ _ rfl ?_; refine Hid.out ?_)
    refine Lib.hid ?_
    intro g5 w5 hg5 hb5 haw5
    have HB5 := Lib.hid hb5
    have HA5 := Lib.hid haw5
    have HG5 : Hid (g5 ∉ g :: dv.ownBlock.toList) := fun hm => by
      simp at hm
      rcases hm with rfl | hm
      · have := lt_of_block HE.out.blk; omega
      · have := HE.out.da.lt _ hm; omega
    clear hb5 haw5
    go_wp2_with fail
    refine (K1.out w5 HA5.out).mono ?_
    rintro E w6 ⟨rfl, haw6⟩
    have HA6 := Lib.hid (HA5.out.trans haw6)
    have HB6 := Lib.hid (HB5.out.on haw6)
    have K2' := Lib.hid (K2.out w6 HA6.out)
    have HE6 := Lib.hid (HE.out.on HA6.out)
    have HI6 := Lib.hid (HI.out.on HA6.out)
    clear haw6
    go_wp2_with (refine wpList_load28 rfl _ rfl _ rfl p _ _ (by exact HB6.out) HAD.out ?_)
    refine K2'.out.mono ?_
    rintro E w7 ⟨rfl, dv', he7, hm7, haw7⟩
    have HE7 := Lib.hid he7
    have HM7 : Hid (Moved w dv dv') := fun k hk => by
      rcases hm7 k hk with h1 | h1
      · exact .inl h1
      · exact .inr (by have := HA6.out.size; omega)
    have HA7 : Hid (Away (g :: dv.ownBlock.toList) w w7) := (HA6.out.mono (by simp)).trans haw7
    have HB7 := Lib.hid (HB6.out.away haw7 HG5.out)
    have HP7 := Lib.hid (HI6.out.pk.away haw7 HI.out.out)
    have K3 : Hid (Calls Tryz.prog 103 #[.pointer (some ⟨g, 0, none⟩), .agg (csP p po pd)] w7 fun E w' => E = .returned (.bool ag) ∧ Away [] w7 w') := by
      rw [← hag]
      exact agrees_c he7 p po pd HP7.out HI.out.pl (by have := HDL.out.1; omega) HDL.out.2.2 HDL.out.2.1
    clear he7 hm7 haw7 hag
    cases ag with
    | false =>
      go_wp2_with (refine wpList_load28 rfl _ rfl _ rfl p _ _ (by exact HB7.out) HAD.out ?_)
      refine K3.out.mono ?_
      rintro E w8 ⟨rfl, haw8⟩
      have HA8 := Lib.hid haw8
      clear haw8
      go_wp2_with fail
      go_ret
      exact ⟨ret_int (by rw [HT.out]; rfl), dv', by rw [HT.out]; exact HE7.out.on HA8.out, HM7.out, HA7.out.next HA8.out (by simp)⟩
    | true =>
      go_wp2_with (refine wpList_load28 rfl _ rfl _ rfl p _ _ (by exact HB7.out) HAD.out ?_)
      refine K3.out.mono ?_
      rintro E w8 ⟨rfl, haw8⟩
      have HE8 := Lib.hid (HE7.out.on haw8)
      have HA8 : Hid (Away (g :: dv.ownBlock.toList) w w8) := HA7.out.next haw8 (by simp)
      have K4 := Lib.hid (progress_c HE8.out)
      rw [HPR.out] at K4
      clear haw8
      by_cases h0 : nf = 0
      · have h0' : ((nf : Int) == 0) = true := by simp [h0]
        cases b with
        | false =>
          have HT2 : Hid (take4 e0 s p fr = (3, layS s p fr)) := by show _ = _; rw [HT.out, if_neg (by simp), if_neg (by simp), if_pos ⟨HNF.out.2 h0, HB.out.1 rfl⟩]
          go_wp2_with fail
          go_ret
          exact ⟨ret_int (by rw [HT2.out]), dv', by rw [HT2.out]; exact HE8.out, HM7.out, HA8.out⟩
        | true =>
          have HT2 : Hid (take4 e0 s p fr = (progN s, layS s p fr)) := by show _ = _; rw [HT.out, if_neg (by simp), if_neg (by simp), if_neg (fun hc => by have := HB.out.2 hc.2; simp at this)]
          go_wp2_with fail
          refine K4.out.mono ?_
          rintro E w8 ⟨rfl, rfl⟩
          go_wp2_with fail
          go_ret
          exact ⟨ret_int (by rw [HT2.out]), dv', by rw [HT2.out]; exact HE8.out, HM7.out, HA8.out⟩
      · have h0' : ((nf : Int) == 0) = false := by simp [h0]
        have HT2 : Hid (take4 e0 s p fr = (progN s, layS s p fr)) := by show _ = _; rw [HT.out, if_neg (by simp), if_neg (by simp), if_neg (fun hc => h0 (HNF.out.1 hc.1))]
        go_wp2_with fail
        refine K4.out.mono ?_
        rintro E w8 ⟨rfl, rfl⟩
        go_wp2_with fail
        go_ret
        exact ⟨ret_int (by rw [HT2.out]), dv', by rw [HT2.out]; exact HE8.out, HM7.out, HA8.out⟩
end
end Go.Proofs.YtbkeilboneaejaaGreatDoor

namespace Go.Proofs.YtbkeilboneaejaaGreatDoor
open Go.ChangeShapes Go.WideShapes Go.ChangeAt Go.RowKit
open S6 (wp_region_cls quiet_val quiet_call quiet_ld ld3 ld4 ld5 ld25 ld26 load28_run load24m_run)
set_option linter.unusedVariables false
set_option linter.unusedSimpArgs false
set_option maxRecDepth 20000

theorem quiet_look {o : Oper} {a : Act} {C : World → Prop} {K : Act → Prop} {v : Value} (m x : Operand) (ho : o.op = .lookup 74 m x false) (b : Nat) (k : Int) (hm : a.eval m = .map (some b)) (hx : a.eval x = .int .i64 k) (hC : ∀ w, C w → (Instr.lookup 74 (.map (some b)) (.int .i64 k) false).run Tryz.prog w = .ok v w) (hk : K (a.put o.dst v)) : o.quiet Tryz.prog a C K := by
  refine ⟨v, fun w hw => ?_, hk⟩
  unfold Oper.quietAt execOp
  simp only [ho, hm, hx, Sem.run_bind, hC w hw, Result.andThen_ok]
  exact ⟨rfl, rfl⟩
theorem ld58 {w : World} {ad : Addr} {z : Option Nat} (h : w.cell? ad = some (.map z)) : (Instr.loadAt 74 (.pointer (some ad))).run Tryz.prog w = .ok (.map z) w := by
  simp [go_sem, Instr.loadAt, Instr.sureAddr, h]
theorem run_build85 (a : Int) (m : Bool) (w : World) : (Instr.build 109 #[(0, .int .i64 a), (1, .bool m)]).run Tryz.prog w = .ok (.agg #[.int .i64 a, .bool m]) w := by kernel_rfl
theorem quiet_build {o : Oper} {a : Act} {C : World → Prop} {K : Act → Prop} {ty : TypeId} {parts : Array (Nat × Operand)} {v : Value} (ho : o.op = .build ty parts) (vs : Array (Nat × Value)) (hvs : (parts.map fun x => (x.1, a.eval x.2)) = vs)
    (hr : ∀ w, (Instr.build ty vs).run Tryz.prog w = .ok v w) (hk : K (a.put o.dst v)) : o.quiet Tryz.prog a C K :=
  quiet_val v (fun w => by
    unfold execOp
    simp only [ho, hvs, Sem.run_bind, hr w, Result.andThen_ok, Sem.run_pure]) hk
theorem guard85 : Tryz.prog.eqGuardType Tryz.prog.depth 109 = false := by kernel_rfl
theorem eq85 (a b : Int) (m n : Bool) (w : World) : (Op.equalIn 10000 109 (.agg #[.int .i64 a, .bool m]) (.agg #[.int .i64 b, .bool n])).run Tryz.prog w = .ok (decide (a = b ∧ m = n)) w := by
  by_cases h1 : a = b
  · cases m <;> cases n <;> simp [go_sem, h1]
  · simp [go_sem, h1]
theorem quiet_eq85 {o : Oper} {a : Act} {C : World → Prop} {K : Act → Prop} (x y : Operand) (ho : o.op = .binOp .eql 109 x y 109) (c1 c2 : Array Value) (hx : a.eval x = .agg c1) (hy : a.eval y = .agg c2) (b : Bool) (hq : ∀ w, (Op.equalIn 10000 109 (.agg c1) (.agg c2)).run Tryz.prog w = .ok b w) (hk : K (a.put o.dst (.bool b))) : o.quiet Tryz.prog a C K :=
  quiet_val (.bool b) (fun w => by
    have hg := guard85
    unfold execOp
    simp only [ho, hx, hy]
    simp [go_sem, hq, hg]) hk
theorem step_mapUpd {ops : Array Oper} {o : Oper} {a : Act} {w w' : World} {K : Act → World → Prop} {Q : Exit → Act → World → Prop} {E : Prop} (hg : o.guard = none) (m x v : Operand) (ho : o.op = .mapUpdate 74 m x v) (vm vx vv : Value) (hm : a.eval m = vm) (hx : a.eval x = vx) (hv : a.eval v = vv)
    (hr : (Instr.mapUpdate 74 vm vx vv).run Tryz.prog w = .ok () w') (hK : K (a.put o.dst undef) w') : if Region.wanted o (yielded ops a.tmps) = true then Oper.wp Tryz.prog o a w K Q else E := by
  have hw : Region.wanted o (yielded ops a.tmps) = true := by simp [Region.wanted, hg]
  rw [if_pos hw]
  unfold Oper.wp execOp
  simp only [ho, hm, hx, hv, Sem.run_bind, hr, Result.andThen_ok, Sem.run_pure]
  exact hK
def Tk6Out (w : World) (g : Nat) (q : Int × Es) (lb : Nat) (lv dv ov : Value) (mb mn : Nat) (hh : Prop) (E : Ending) (w' : World) : Prop :=
  E = .returned (.int .i64 q.1) ∧ ∃ dv' mn', EntG w' g q.2 lb lv dv' ov mb mn' ∧ (mn' = mn ∨ (mn' = mn + 1 ∧ hh)) ∧ Moved w dv dv' ∧ Away (g :: mb :: dv.ownBlock.toList) w w'
section
variable {w : World} {g : Nat} {s : Es} {lb : Nat} {lv dv ov : Value} {mb mn : Nat}
theorem EntG.piece {w w' : World} {g : Nat} {s : Es} {lb : Nat} {lv dv ov : Value} {mb mn mn' : Nat} {f : Int → Int × Bool} (h : EntG w g s lb lv dv ov mb mn) (hw : Away [mb] w w') (hm : MapP w' mb mn' f) : EntG w' g { s with ps := f } lb lv dv ov mb mn' := by
  have ap := h.ap
  refine ⟨hw.keep (by simpa using ap.gm) h.blk, h.nb, h.kad, h.fad, h.hl.away hw (by simpa using ap.lm) (fun k hk => by simp; intro e; subst e; exact ap.mv hk), h.da.away hw (fun k hk => by simp; intro e; subst e; exact ap.md hk), h.oo.away hw (fun k hk => by simp; intro e; subst e; exact ap.mo hk), hm, ap⟩
set_option maxHeartbeats 8000000 in
theorem take6_yes (h : EntG w g s lb lv dv ov mb mn) (p : Pk) (po pd r : Value) (fr : List H.Sp) (hi : LayIn w g s dv p po pd r fr) (hsz : H.sizeP fr = p.d.length) (hmn : mn ≤ 65535) (hob : Outs p po pd [mb]) (hrm : ∀ k, r.ownBlock = some k → k ≠ mb) :
    Calls Tryz.prog 74 #[.pointer (some ⟨g, 0, none⟩), .agg (csP p po pd), r] w (Tk6Out w g (take6 s p fr) lb lv dv ov mb mn (H.sizeP fr = p.d.length)) := by
  have HE := Lib.hid h
  have HI := Lib.hid hi
  have HAD := Lib.hid hi.pk.wf.ad
  have HT : Hid (take6 s p fr = (progN s, pieceS (layS s p fr) p)) := by show _ = _; unfold take6; rw [if_pos hsz]
  have HPR : Hid (progN (pieceS (layS s p fr) p) = progN s) := rfl
  have HOFF : Hid (i64ok p.off) := hi.pk.wf.off
  have HSZ0 := Lib.hid hsz
  have HMN := Lib.hid hmn
  have HOB := Lib.hid hob
  obtain ⟨ra, rc, hre, -, -, hrow, -⟩ := hi.lst.row (by have := hi.fl; omega) (fun x hx => by have h1 := hi.fin x hx; have h2 := hi.pl.o0; have h3 := hi.pl.tt; unfold endP at h1; exact ⟨⟨by omega, by omega⟩, ⟨by omega, by omega⟩⟩)
  obtain ⟨pa, pc, hpd, -, -, -⟩ := hi.pk.d
  obtain ⟨pn, hpn⟩ : ∃ pn, pn = p.d.length := ⟨_, rfl⟩
  rw [← hpn] at hpd
  have HSZ : Hid (H.sizeP fr = (pn : Int)) := by show _ = _; rw [hsz, hpn]
  have KS : Hid (∀ W, Away [] w W → Calls Tryz.prog 99 #[.slice ra fr.length rc] W fun E w' => E = .returned (.int .i64 (pn : Int)) ∧ Away [] W w') := fun W hW => by
    have := H.size_c ra fr fr.length rc W rfl (hrow.on hW)
    rw [HSZ.out] at this
    exact this
  have K2 : Hid (∀ W, Away [] w W → Calls Tryz.prog 100 #[.pointer (some ⟨g, 0, none⟩), .agg (csP p po pd), r] W (LayOut W g s p fr lb lv dv ov mb mn)) := fun W hW => (hi.on hW).lay (h.on hW)
  obtain ⟨nf, hnf⟩ : ∃ nf, nf = fr.length := ⟨_, rfl⟩
  rw [← hnf] at hre KS
  subst hre
  subst hpd
  clear h hi hsz hmn hob hrow hpn hnf
  go_enter Tryz.func74, Tryz.ntmps74
  go_wp2_with (refine wpList_box28 rfl _ rfl p _ _ rfl ?_; refine Hid.out ?_)
  refine Lib.hid ?_
  intro g4 w4 hg4 hb4 haw4
  have HB4 := Lib.hid hb4
  have HA4 := Lib.hid haw4
  have HG4 : Hid (g4 ∉ g :: mb :: dv.ownBlock.toList) := fun hm => by
    simp at hm
    rcases hm with rfl | rfl | hm
    · have := lt_of_block HE.out.blk; omega
    · have := HE.out.mp.lt; omega
    · have := HE.out.da.lt _ hm; omega
  clear hb4 haw4
  have HC : Hid (Away [] w4 w4.drew) := (Away.refl _ _).drew
  have KS4 : Hid (∀ W, Away [] w4 W → Calls Tryz.prog 99 #[.slice ra nf rc] W fun E w' => E = .returned (.int .i64 (pn : Int)) ∧ Away [] w4 w') := fun W hW => (KS.out W (HA4.out.trans hW)).mono (fun E w' h => ⟨h.1, hW.trans h.2⟩)
  go_wp2_with fail
  refine wp_region_cls (C := fun w' => Away [] w4 w') (by kernel_rfl) (by kernel_rfl) HC.out ?_
  go_big_quiet_want; (refine quiet_val ?_ ?_ ?_; rotate_left; (intro w; go_simp; rfl); go_simp; go_big_quiet_on)
  go_big_quiet_want; refine quiet_call 99 #[.slice ra nf rc] (.int .i64 (pn : Int)) ?_ KS4.out ?_
  · intro w; go_simp; all_goals (with_reducible rfl)
  go_simp; go_big_quiet_on
  go_big_quiet_want; (refine quiet_val ?_ ?_ ?_; rotate_left; (intro w; go_simp; rfl); go_simp; go_big_quiet_on)
  go_big_quiet_want; refine quiet_ld _ rfl (ad := ⟨g4, 45, none⟩) rfl (fun w' h => ld26 ((HB4.out.on h).cells HAD.out).d) ?_; go_simp; go_big_quiet_on
  go_big_quiet_want; (refine quiet_val ?_ ?_ ?_; rotate_left; (intro w; go_simp; rfl); go_simp; go_big_quiet_on)
  go_big_quiet_want; (refine quiet_val ?_ ?_ ?_; rotate_left; (intro w; go_simp; rfl); go_simp; go_big_quiet_on)
  refine wpQuiet_nil ?_
  intro V hV
  replace HB4 := Lib.hid (HB4.out.on hV)
  replace HA4 := Lib.hid (HA4.out.trans hV)
  have K2' := Lib.hid (K2.out V HA4.out)
  have HP6 := Lib.hid (HI.out.pk.on HA4.out)
  clear hV HC KS4 KS K2
  go_wp2_with (refine wpList_load28 rfl _ rfl _ rfl p _ _ (by exact HB4.out) HAD.out ?_)
  refine K2'.out.mono ?_
  rintro E w7 ⟨rfl, dv', he7, hm7, haw7⟩
  have HE7 := Lib.hid he7
  have HM7 : Hid (Moved w dv dv') := fun k hk => by
    rcases hm7 k hk with h1 | h1
    · exact .inl h1
    · exact .inr (by have := HA4.out.size; omega)
  have HA7 : Hid (Away (g :: dv.ownBlock.toList) w w7) := (HA4.out.mono (by simp)).trans haw7
  have HB7 := Lib.hid (HB4.out.away haw7 (fun hm => HG4.out (by simp at hm; simp; rcases hm with h | h; exact .inl h; exact .inr (.inr h))))
  have HP7 := Lib.hid (HP6.out.away haw7 HI.out.out)
  have KE : Hid (∀ W, Away [] w7 W → Calls Tryz.prog 101 #[.agg (csP p po (.slice pa pn pc))] W fun E w' => E = .returned (.int .i64 (endP p)) ∧ Away [] W w') := fun W hW => endOf_c p po _ W (HP7.out.on hW) HI.out.pl
  have HPS : Hid (pieceS (layS s p fr) p = { layS s p fr with ps := fun o => if o = p.off then (endP p, p.more) else (layS s p fr).ps o }) := rfl
  have hbd := run_build85 (endP p) p.more
  generalize endP p = ep at *
  clear he7 hm7 haw7 K2'
  have S0 : Hid (BoxP w7.drew g4 p po (.slice pa pn pc) ∧ w7.drew.cell? ⟨g, 90, none⟩ = some (.map (some mb))) := ⟨HB7.out, HE7.out.cells.2.2.2.2.2.2.2⟩
  go_wp2_with fail
  refine wp_region_held_drew (S := fun w' => BoxP w' g4 p po (.slice pa pn pc) ∧ w'.cell? ⟨g, 90, none⟩ = some (.map (some mb))) (by kernel_rfl) (by exact S0.out) (fun hHeld => ?_)
  refine wpAnyH_take (i := 0) (v := ?_) (by simp only [List.getElem?_toArray, List.getElem?_cons_zero]; rfl) (by kernel_rfl) (by kernel_rfl) (by kernel_rfl) (by exact fun _ _ _ h => h) (Or.inl ⟨by rfl, ?_⟩) (by assumption) ?_
  rotate_left
  · intro wq hSw
    (try dsimp only at hSw)
    go_simp
    all_goals (with_reducible rfl)
  try simp only [Act.put, List.setIfInBounds_toArray, List.set_cons_zero, List.set_cons_succ]
  refine wpAnyH_take (i := 1) (v := ?_) (by simp only [List.getElem?_toArray, List.getElem?_cons_succ, List.getElem?_cons_zero]; rfl) (by kernel_rfl) (by kernel_rfl) (by kernel_rfl) (by exact fun _ _ _ h => h) (Or.inl ⟨by rfl, ?_⟩) (by assumption) ?_
  rotate_left
  · intro wq hSw
    (try dsimp only at hSw)
    go_simp
    all_goals (with_reducible rfl)
  try simp only [Act.put, List.setIfInBounds_toArray, List.set_cons_zero, List.set_cons_succ]
  refine wpAnyH_take (i := 2) (v := ?_) (by simp only [List.getElem?_toArray, List.getElem?_cons_succ, List.getElem?_cons_zero]; rfl) (by kernel_rfl) (by kernel_rfl) (by kernel_rfl) (by exact fun _ _ _ h => h) (Or.inl ⟨by rfl, ?_⟩) (by assumption) ?_
  rotate_left
  · intro wq hSw
    (try dsimp only at hSw)
    go_simp
    all_goals (with_reducible rfl)
  try simp only [Act.put, List.setIfInBounds_toArray, List.set_cons_zero, List.set_cons_succ]
  refine wpAnyH_take (i := 3) (by simp only [List.getElem?_toArray, List.getElem?_cons_succ, List.getElem?_cons_zero]; rfl) (by kernel_rfl) (by kernel_rfl) (by kernel_rfl) (by exact fun _ _ _ h => h) (yields_ld (ad := ⟨g, 90, none⟩) (by rfl) _ rfl rfl (fun w' h => ld58 h.2)) (by assumption) ?_
  try simp only [Act.put, List.setIfInBounds_toArray, List.set_cons_zero, List.set_cons_succ]
  refine wpAnyH_take (i := 4) (v := ?_) (by simp only [List.getElem?_toArray, List.getElem?_cons_succ, List.getElem?_cons_zero]; rfl) (by kernel_rfl) (by kernel_rfl) (by kernel_rfl) (by exact fun _ _ _ h => h) (Or.inl ⟨by rfl, ?_⟩) (by assumption) ?_
  rotate_left
  · intro wq hSw
    (try dsimp only at hSw)
    go_simp
    all_goals (with_reducible rfl)
  try simp only [Act.put, List.setIfInBounds_toArray, List.set_cons_zero, List.set_cons_succ]
  refine wpAnyH_take (i := 5) (by simp only [List.getElem?_toArray, List.getElem?_cons_succ, List.getElem?_cons_zero]; rfl) (by kernel_rfl) (by kernel_rfl) (by kernel_rfl) (by exact fun _ _ _ h => h) (yields_ld (ad := ⟨g4, 43, none⟩) (by rfl) _ rfl rfl (fun w' h => ld3 (BoxP.cells h.1 HAD.out).off)) (by assumption) ?_
  try simp only [Act.put, List.setIfInBounds_toArray, List.set_cons_zero, List.set_cons_succ]
  refine wpAnyH_take (i := 6) (by simp only [List.getElem?_toArray, List.getElem?_cons_succ, List.getElem?_cons_zero]; rfl) (by kernel_rfl) (by kernel_rfl) (by kernel_rfl) (by exact fun _ _ _ h => h) (yields_ld (ad := ⟨g4, 0, none⟩) (by rfl) _ rfl rfl (fun w' h => load28_run h.1 HAD.out)) (by assumption) ?_
  try simp only [Act.put, List.setIfInBounds_toArray, List.set_cons_zero, List.set_cons_succ]
  refine wpAnyH_take (i := 8) (v := ?_) (by simp only [List.getElem?_toArray, List.getElem?_cons_succ, List.getElem?_cons_zero]; rfl) (by kernel_rfl) (by kernel_rfl) (by kernel_rfl) (by exact fun _ _ _ h => h) (Or.inl ⟨by rfl, ?_⟩) (by assumption) ?_
  rotate_left
  · intro wq hSw
    (try dsimp only at hSw)
    go_simp
    all_goals (with_reducible rfl)
  try simp only [Act.put, List.setIfInBounds_toArray, List.set_cons_zero, List.set_cons_succ]
  refine wpAnyH_take (i := 9) (by simp only [List.getElem?_toArray, List.getElem?_cons_succ, List.getElem?_cons_zero]; rfl) (by kernel_rfl) (by kernel_rfl) (by kernel_rfl) (by exact fun _ _ _ h => h) (yields_ld (ad := ⟨g4, 41, none⟩) (by rfl) _ rfl rfl (fun w' h => ld4 (BoxP.cells h.1 HAD.out).more)) (by assumption) ?_
  try simp only [Act.put, List.setIfInBounds_toArray, List.set_cons_zero, List.set_cons_succ]
  refine wpAnyH_ready (rs := [7]) (by kernel_rfl) (by simp) ?_
  refine AllReadyH.cons (by simp only [List.getElem?_toArray, List.getElem?_cons_succ, List.getElem?_cons_zero]; rfl) (fun K hK => ?_) AllReadyH.nil
  go_simp
  refine (KE.out _ ((Away.refl [] w7).drew)).mono ?_
  rintro E y1 ⟨rfl, ha1⟩
  have ha1' : Away [] w7 y1 := ⟨ha1.os, ha1.tape, ha1.output, ha1.size, ha1.block⟩
  replace HE7 := Lib.hid (HE7.out.on ha1')
  replace HA7 := Lib.hid (HA7.out.next ha1' (by simp))
  have HBy := Lib.hid (HB7.out.on ha1')
  have S1 : Hid (BoxP y1 g4 p po (.slice pa pn pc) ∧ y1.cell? ⟨g, 90, none⟩ = some (.map (some mb))) := ⟨HBy.out, HE7.out.cells.2.2.2.2.2.2.2⟩
  clear ha1 ha1'
  go_wp2_with fail
  refine hK.out _ _ (by exact S1.out) (fun hHeld => ?_)
  clear hK K
  try simp only [Act.put, List.setIfInBounds_toArray, List.set_cons_zero, List.set_cons_succ]
  refine wpAnyH_take (i := 10) (by simp only [List.getElem?_toArray, List.getElem?_cons_succ, List.getElem?_cons_zero]; rfl) (by kernel_rfl) (by kernel_rfl) (by kernel_rfl) (by exact fun _ _ _ h => h) (yields_build (by rfl) rfl #[(0, .int .i64 ep), (1, .bool p.more)] (by simp only [List.map_toArray, List.map_cons, List.map_nil]; rfl) hbd) (by assumption) ?_
  try simp only [Act.put, List.setIfInBounds_toArray, List.set_cons_zero, List.set_cons_succ]
  refine wpAnyH_ready (rs := [11]) (by kernel_rfl) (by simp) ?_
  refine AllReadyH.cons (by simp only [List.getElem?_toArray, List.getElem?_cons_succ, List.getElem?_cons_zero]; rfl) (fun K hK => ?_) AllReadyH.nil
  obtain ⟨y2, hrun, hmp, hay⟩ := HE7.out.mp.put (by have := HMN.out; unfold maxLen; omega) HOFF.out ep p.more
  refine step_mapUpd rfl _ _ _ rfl _ _ _ rfl rfl rfl hrun ?_
  have HMP := Lib.hid hmp
  have HAY := Lib.hid hay
  have S2 : Hid (BoxP y2 g4 p po (.slice pa pn pc) ∧ y2.cell? ⟨g, 90, none⟩ = some (.map (some mb))) := ⟨BoxP.away S1.out.1 hay (fun hm => HG4.out (by simp at hm; simp [hm])), Away.cell hay (by simpa using HE7.out.ap.gm) S1.out.2⟩
  refine hK.out _ _ (by exact S2.out) (fun hHeld => ?_)
  clear hK K
  try simp only [Act.put]
  refine wpAnyH_done (by kernel_rfl) ?_ _
  have HE8 : Hid (EntG y2 g (pieceS (layS s p fr) p) lb lv dv' ov mb (mn + 1)) := by
    show EntG _ _ _ _ _ _ _ _ _
    rw [HPS.out]; exact HE7.out.piece HAY.out HMP.out
  have HA8 : Hid (Away (g :: mb :: dv.ownBlock.toList) w y2) := (HA7.out.mono (fun z hz => by simp at hz; simp; rcases hz with h | h; exact .inl h; exact .inr (.inr h))).trans (HAY.out.mono (fun z hz => by simp at hz; simp [hz]))
  have K4 := Lib.hid (progress_c HE8.out)
  rw [HPR.out] at K4
  clear hHeld hmp hay hrun
  go_wp2_with fail
  refine K4.out.mono ?_
  rintro E y2 ⟨rfl, rfl⟩
  go_wp2_with fail
  go_ret
  exact ⟨ret_int (by rw [HT.out]), dv', mn + 1, by rw [HT.out]; exact HE8.out, .inr ⟨rfl, HSZ0.out⟩, HM7.out, HA8.out⟩
set_option maxHeartbeats 8000000 in
theorem take6_no (h : EntG w g s lb lv dv ov mb mn) (p : Pk) (po pd r : Value) (fr : List H.Sp) (hi : LayIn w g s dv p po pd r fr) (hsz : H.sizeP fr ≠ p.d.length) (hps : ∀ o, (s.ps o).1 ≤ s.d.length) :
    Calls Tryz.prog 74 #[.pointer (some ⟨g, 0, none⟩), .agg (csP p po pd), r] w (Tk6Out w g (take6 s p fr) lb lv dv ov mb mn (H.sizeP fr = p.d.length)) := by
  have HE := Lib.hid h
  have HI := Lib.hid hi
  have HAD := Lib.hid hi.pk.wf.ad
  have HT : Hid (take6 s p fr = if s.ps p.off = (endP p, p.more) ∧ agrP s p = true then (3, s) else (4, s)) := by show _ = _; unfold take6; rw [if_neg hsz]
  have HOFF : Hid (i64ok p.off) := hi.pk.wf.off
  obtain ⟨ra, rc, hre, -, -, hrow, -⟩ := hi.lst.row (by have := hi.fl; omega) (fun x hx => by have h1 := hi.fin x hx; have h2 := hi.pl.o0; have h3 := hi.pl.tt; unfold endP at h1; exact ⟨⟨by omega, by omega⟩, ⟨by omega, by omega⟩⟩)
  obtain ⟨pa, pc, hpd, -, -, -⟩ := hi.pk.d
  obtain ⟨pn, hpn⟩ : ∃ pn, pn = p.d.length := ⟨_, rfl⟩
  rw [← hpn] at hpd
  have hszn : ¬ (H.sizeP fr = (pn : Int)) := by rw [hpn]; exact hsz
  have KS : Hid (∀ W, Away [] w W → Calls Tryz.prog 99 #[.slice ra fr.length rc] W fun E w' => E = .returned (.int .i64 (H.sizeP fr)) ∧ Away [] W w') := fun W hW => H.size_c ra fr fr.length rc W rfl (hrow.on hW)
  have KA : Hid ((s.ps p.off).1 = endP p → ∀ W, Away [] w W → Calls Tryz.prog 103 #[.pointer (some ⟨g, 0, none⟩), .agg (csP p po pd)] W fun E w' => E = .returned (.bool (agrP s p)) ∧ Away [] W w') := fun he W hW => agrees_c (h.on hW) p po pd (hi.pk.on hW) hi.pl (by have h1 := hps p.off; rw [he] at h1; unfold endP at h1; omega) hi.by_ hi.dl
  have KE : Hid (∀ W, Away [] w W → Calls Tryz.prog 101 #[.agg (csP p po pd)] W fun E w' => E = .returned (.int .i64 (endP p)) ∧ Away [] W w') := fun W hW => endOf_c p po _ W (hi.pk.on hW) hi.pl
  have KL : Hid (∀ W, Away [] w W → (Instr.lookup 74 (.map (some mb)) (.int .i64 p.off) false).run Tryz.prog W = .ok (.agg #[.int .i64 (s.ps p.off).1, .bool (s.ps p.off).2]) W) := fun W hW => (h.mp.on hW).look HOFF.out
  have HPSE : Hid (s.ps p.off = ((s.ps p.off).1, (s.ps p.off).2)) := rfl
  generalize (s.ps p.off).1 = la at *
  generalize (s.ps p.off).2 = lm at *
  generalize H.sizeP fr = sz at *
  generalize agrP s p = ag at *
  have hbd := run_build85 (endP p) p.more
  have hq85 := eq85 la (endP p) lm p.more
  obtain ⟨ep, hep⟩ : ∃ ep, ep = endP p := ⟨_, rfl⟩
  rw [← hep] at HT KA KE hbd hq85
  obtain ⟨nf, hnf⟩ : ∃ nf, nf = fr.length := ⟨_, rfl⟩
  rw [← hnf] at hre KS
  subst hre
  subst hpd
  clear h hi hsz hrow hpn hnf hep hps
  obtain ⟨qb, hqb⟩ : ∃ qb, qb = decide (la = ep ∧ lm = p.more) := ⟨_, rfl⟩
  rw [← hqb] at hq85
  have HQB := Lib.hid hqb
  have HQ85 := Lib.hid hq85
  have HBD := Lib.hid hbd
  clear hqb hq85 hbd
  go_enter Tryz.func74, Tryz.ntmps74
  go_wp2_with (refine wpList_box28 rfl _ rfl p _ _ rfl ?_; refine Hid.out ?_)
  refine Lib.hid ?_
  intro g4 w4 hg4 hb4 haw4
  have HB4 := Lib.hid hb4
  have HA4 := Lib.hid haw4
  clear hb4 haw4
  have HC : Hid (Away [] w4 w4.drew) := (Away.refl _ _).drew
  have KS4 : Hid (∀ W, Away [] w4 W → Calls Tryz.prog 99 #[.slice ra nf rc] W fun E w' => E = .returned (.int .i64 sz) ∧ Away [] w4 w') := fun W hW => (KS.out W (HA4.out.trans hW)).mono (fun E w' h => ⟨h.1, hW.trans h.2⟩)
  have hszb : (sz == (pn : Int)) = false := by simpa using hszn
  go_wp2_with fail
  refine wp_region_cls (C := fun w' => Away [] w4 w') (by kernel_rfl) (by kernel_rfl) HC.out ?_
  go_big_quiet_want; (refine quiet_val ?_ ?_ ?_; rotate_left; (intro w; go_simp; rfl); go_simp; go_big_quiet_on)
  go_big_quiet_want; refine quiet_call 99 #[.slice ra nf rc] (.int .i64 sz) ?_ KS4.out ?_
  · intro w; go_simp; all_goals (with_reducible rfl)
  go_simp; go_big_quiet_on
  go_big_quiet_want; (refine quiet_val ?_ ?_ ?_; rotate_left; (intro w; go_simp; rfl); go_simp; go_big_quiet_on)
  go_big_quiet_want; refine quiet_ld _ rfl (ad := ⟨g4, 45, none⟩) rfl (fun w' h => ld26 ((HB4.out.on h).cells HAD.out).d) ?_; go_simp; go_big_quiet_on
  go_big_quiet_want; (refine quiet_val ?_ ?_ ?_; rotate_left; (intro w; go_simp; rfl); go_simp; go_big_quiet_on)
  go_big_quiet_want; (refine quiet_val ?_ ?_ ?_; rotate_left; (intro w; go_simp; rfl); go_simp; go_big_quiet_on)
  refine wpQuiet_nil ?_
  intro V hV
  replace HB4 := Lib.hid (HB4.out.on hV)
  replace HA4 := Lib.hid (HA4.out.trans hV)
  replace HE := Lib.hid (HE.out.on HA4.out)
  clear hV HC KS4 KS
  have HC : Hid (Away [] V V.drew) := (Away.refl _ _).drew
  have KE4 : Hid (∀ W, Away [] V W → Calls Tryz.prog 101 #[.agg (csP p po (.slice pa pn pc))] W fun E w' => E = .returned (.int .i64 ep) ∧ Away [] V w') := fun W hW => (KE.out W (HA4.out.trans hW)).mono (fun E w' h => ⟨h.1, hW.trans h.2⟩)
  have KL4 : Hid (∀ W, Away [] V W → (Instr.lookup 74 (.map (some mb)) (.int .i64 p.off) false).run Tryz.prog W = .ok (.agg #[.int .i64 la, .bool lm]) W) := fun W hW => KL.out W (HA4.out.trans hW)
  cases qb with
  | false =>
    have HT2 : Hid (take6 s p fr = (4, s)) := by
      show _ = _; rw [HT.out, if_neg]; rintro ⟨h1, -⟩
      rw [HPSE.out] at h1
      have := HQB.out
      simp only [Prod.mk.injEq] at h1
      simp [h1.1, h1.2] at this
    go_wp2_with fail
    refine wp_region_cls (C := fun w' => Away [] V w') (by kernel_rfl) (by kernel_rfl) HC.out ?_
    go_big_quiet_want; (refine quiet_val ?_ ?_ ?_; rotate_left; (intro w; go_simp; rfl); go_simp; go_big_quiet_on)
    go_big_quiet_want; (refine quiet_val ?_ ?_ ?_; rotate_left; (intro w; go_simp; rfl); go_simp; go_big_quiet_on)
    go_big_quiet_want; (refine quiet_val ?_ ?_ ?_; rotate_left; (intro w; go_simp; rfl); go_simp; go_big_quiet_on)
    go_big_quiet_want; refine quiet_ld _ rfl (ad := ⟨g, 90, none⟩) rfl (fun w' h => ld58 (HE.out.on h).cells.2.2.2.2.2.2.2) ?_; go_simp; go_big_quiet_on
    go_big_quiet_want; (refine quiet_val ?_ ?_ ?_; rotate_left; (intro w; go_simp; rfl); go_simp; go_big_quiet_on)
    go_big_quiet_want; refine quiet_ld _ rfl (ad := ⟨g4, 43, none⟩) rfl (fun w' h => ld3 ((HB4.out.on h).cells HAD.out).off) ?_; go_simp; go_big_quiet_on
    go_big_quiet_want; refine quiet_look _ _ rfl mb p.off rfl rfl KL4.out ?_; go_simp; go_big_quiet_on
    go_big_quiet_want; refine quiet_ld _ rfl (ad := ⟨g4, 0, none⟩) rfl (fun w' h => load28_run (HB4.out.on h) HAD.out) ?_; go_simp; go_big_quiet_on
    go_big_quiet_want; refine quiet_call 101 #[.agg (csP p po (.slice pa pn pc))] (.int .i64 ep) ?_ KE4.out ?_
    · intro w; go_simp; all_goals (with_reducible rfl)
    go_simp; go_big_quiet_on
    go_big_quiet_want; (refine quiet_val ?_ ?_ ?_; rotate_left; (intro w; go_simp; rfl); go_simp; go_big_quiet_on)
    go_big_quiet_want; refine quiet_ld _ rfl (ad := ⟨g4, 41, none⟩) rfl (fun w' h => ld4 ((HB4.out.on h).cells HAD.out).more) ?_; go_simp; go_big_quiet_on
    go_big_quiet_want; refine quiet_build rfl #[(0, .int .i64 ep), (1, .bool p.more)] (by simp only [List.map_toArray, List.map_cons, List.map_nil]; rfl) HBD.out ?_; go_simp; go_big_quiet_on
    go_big_quiet_want; refine quiet_eq85 _ _ rfl _ _ rfl rfl false HQ85.out ?_; go_simp; go_big_quiet_on
    go_big_quiet_want; (refine quiet_val ?_ ?_ ?_; rotate_left; (intro w; go_simp; rfl); go_simp; go_big_quiet_on)
    go_big_quiet_skip
    go_big_quiet_skip
    go_big_quiet_skip
    go_big_quiet_want; (refine quiet_val ?_ ?_ ?_; rotate_left; (intro w; go_simp; rfl); go_simp; go_big_quiet_on)
    refine wpQuiet_nil ?_
    intro V hV
    have HV := Lib.hid hV
    clear hV
    go_wp2_with fail
    go_ret
    exact ⟨ret_int (by rw [HT2.out]), dv, mn, by rw [HT2.out]; exact HE.out.on HV.out, .inl rfl, Moved.refl _ _, (HA4.out.trans HV.out).mono (by simp)⟩
  | true =>
    have hla : la = ep ∧ lm = p.more := of_decide_eq_true HQB.out.symm
    have KA4 : Hid (∀ W, Away [] V W → Calls Tryz.prog 103 #[.pointer (some ⟨g, 0, none⟩), .agg (csP p po (.slice pa pn pc))] W fun E w' => E = .returned (.bool ag) ∧ Away [] V w') := fun W hW => (KA.out hla.1 W (HA4.out.trans hW)).mono (fun E w' h => ⟨h.1, hW.trans h.2⟩)
    have HLA := Lib.hid hla
    clear hla
    cases ag with
    | false =>
      have HT2 : Hid (take6 s p fr = (4, s)) := by show _ = _; rw [HT.out, if_neg (fun h => by simp at h)]
      go_wp2_with fail
      refine wp_region_cls (C := fun w' => Away [] V w') (by kernel_rfl) (by kernel_rfl) HC.out ?_
      go_big_quiet_want; (refine quiet_val ?_ ?_ ?_; rotate_left; (intro w; go_simp; rfl); go_simp; go_big_quiet_on)
      go_big_quiet_want; (refine quiet_val ?_ ?_ ?_; rotate_left; (intro w; go_simp; rfl); go_simp; go_big_quiet_on)
      go_big_quiet_want; (refine quiet_val ?_ ?_ ?_; rotate_left; (intro w; go_simp; rfl); go_simp; go_big_quiet_on)
      go_big_quiet_want; refine quiet_ld _ rfl (ad := ⟨g, 90, none⟩) rfl (fun w' h => ld58 (HE.out.on h).cells.2.2.2.2.2.2.2) ?_; go_simp; go_big_quiet_on
      go_big_quiet_want; (refine quiet_val ?_ ?_ ?_; rotate_left; (intro w; go_simp; rfl); go_simp; go_big_quiet_on)
      go_big_quiet_want; refine quiet_ld _ rfl (ad := ⟨g4, 43, none⟩) rfl (fun w' h => ld3 ((HB4.out.on h).cells HAD.out).off) ?_; go_simp; go_big_quiet_on
      go_big_quiet_want; refine quiet_look _ _ rfl mb p.off rfl rfl KL4.out ?_; go_simp; go_big_quiet_on
      go_big_quiet_want; refine quiet_ld _ rfl (ad := ⟨g4, 0, none⟩) rfl (fun w' h => load28_run (HB4.out.on h) HAD.out) ?_; go_simp; go_big_quiet_on
      go_big_quiet_want; refine quiet_call 101 #[.agg (csP p po (.slice pa pn pc))] (.int .i64 ep) ?_ KE4.out ?_
      · intro w; go_simp; all_goals (with_reducible rfl)
      go_simp; go_big_quiet_on
      go_big_quiet_want; (refine quiet_val ?_ ?_ ?_; rotate_left; (intro w; go_simp; rfl); go_simp; go_big_quiet_on)
      go_big_quiet_want; refine quiet_ld _ rfl (ad := ⟨g4, 41, none⟩) rfl (fun w' h => ld4 ((HB4.out.on h).cells HAD.out).more) ?_; go_simp; go_big_quiet_on
      go_big_quiet_want; refine quiet_build rfl #[(0, .int .i64 ep), (1, .bool p.more)] (by simp only [List.map_toArray, List.map_cons, List.map_nil]; rfl) HBD.out ?_; go_simp; go_big_quiet_on
      go_big_quiet_want; refine quiet_eq85 _ _ rfl _ _ rfl rfl true HQ85.out ?_; go_simp; go_big_quiet_on
      go_big_quiet_want; (refine quiet_val ?_ ?_ ?_; rotate_left; (intro w; go_simp; rfl); go_simp; go_big_quiet_on)
      go_big_quiet_want; (refine quiet_val ?_ ?_ ?_; rotate_left; (intro w; go_simp; rfl); go_simp; go_big_quiet_on)
      go_big_quiet_want; refine quiet_ld _ rfl (ad := ⟨g4, 0, none⟩) rfl (fun w' h => load28_run (HB4.out.on h) HAD.out) ?_; go_simp; go_big_quiet_on
      go_big_quiet_want; refine quiet_call 103 #[.pointer (some ⟨g, 0, none⟩), .agg (csP p po (.slice pa pn pc))] (.bool false) ?_ KA4.out ?_
      · intro w; go_simp; all_goals (with_reducible rfl)
      go_simp; go_big_quiet_on
      go_big_quiet_want; (refine quiet_val ?_ ?_ ?_; rotate_left; (intro w; go_simp; rfl); go_simp; go_big_quiet_on)
      refine wpQuiet_nil ?_
      intro V hV
      have HV := Lib.hid hV
      clear hV
      go_wp2_with fail
      go_ret
      exact ⟨ret_int (by rw [HT2.out]), dv, mn, by rw [HT2.out]; exact HE.out.on HV.out, .inl rfl, Moved.refl _ _, (HA4.out.trans HV.out).mono (by simp)⟩
    | true =>
      have HT2 : Hid (take6 s p fr = (3, s)) := by show _ = _; rw [HT.out, if_pos ⟨by rw [HPSE.out, HLA.out.1, HLA.out.2], rfl⟩]
      go_wp2_with fail
      refine wp_region_cls (C := fun w' => Away [] V w') (by kernel_rfl) (by kernel_rfl) HC.out ?_
      go_big_quiet_want; (refine quiet_val ?_ ?_ ?_; rotate_left; (intro w; go_simp; rfl); go_simp; go_big_quiet_on)
      go_big_quiet_want; (refine quiet_val ?_ ?_ ?_; rotate_left; (intro w; go_simp; rfl); go_simp; go_big_quiet_on)
      go_big_quiet_want; (refine quiet_val ?_ ?_ ?_; rotate_left; (intro w; go_simp; rfl); go_simp; go_big_quiet_on)
      go_big_quiet_want; refine quiet_ld _ rfl (ad := ⟨g, 90, none⟩) rfl (fun w' h => ld58 (HE.out.on h).cells.2.2.2.2.2.2.2) ?_; go_simp; go_big_quiet_on
      go_big_quiet_want; (refine quiet_val ?_ ?_ ?_; rotate_left; (intro w; go_simp; rfl); go_simp; go_big_quiet_on)
      go_big_quiet_want; refine quiet_ld _ rfl (ad := ⟨g4, 43, none⟩) rfl (fun w' h => ld3 ((HB4.out.on h).cells HAD.out).off) ?_; go_simp; go_big_quiet_on
      go_big_quiet_want; refine quiet_look _ _ rfl mb p.off rfl rfl KL4.out ?_; go_simp; go_big_quiet_on
      go_big_quiet_want; refine quiet_ld _ rfl (ad := ⟨g4, 0, none⟩) rfl (fun w' h => load28_run (HB4.out.on h) HAD.out) ?_; go_simp; go_big_quiet_on
      go_big_quiet_want; refine quiet_call 101 #[.agg (csP p po (.slice pa pn pc))] (.int .i64 ep) ?_ KE4.out ?_
      · intro w; go_simp; all_goals (with_reducible rfl)
      go_simp; go_big_quiet_on
      go_big_quiet_want; (refine quiet_val ?_ ?_ ?_; rotate_left; (intro w; go_simp; rfl); go_simp; go_big_quiet_on)
      go_big_quiet_want; refine quiet_ld _ rfl (ad := ⟨g4, 41, none⟩) rfl (fun w' h => ld4 ((HB4.out.on h).cells HAD.out).more) ?_; go_simp; go_big_quiet_on
      go_big_quiet_want; refine quiet_build rfl #[(0, .int .i64 ep), (1, .bool p.more)] (by simp only [List.map_toArray, List.map_cons, List.map_nil]; rfl) HBD.out ?_; go_simp; go_big_quiet_on
      go_big_quiet_want; refine quiet_eq85 _ _ rfl _ _ rfl rfl true HQ85.out ?_; go_simp; go_big_quiet_on
      go_big_quiet_want; (refine quiet_val ?_ ?_ ?_; rotate_left; (intro w; go_simp; rfl); go_simp; go_big_quiet_on)
      go_big_quiet_want; (refine quiet_val ?_ ?_ ?_; rotate_left; (intro w; go_simp; rfl); go_simp; go_big_quiet_on)
      go_big_quiet_want; refine quiet_ld _ rfl (ad := ⟨g4, 0, none⟩) rfl (fun w' h => load28_run (HB4.out.on h) HAD.out) ?_; go_simp; go_big_quiet_on
      go_big_quiet_want; refine quiet_call 103 #[.pointer (some ⟨g, 0, none⟩), .agg (csP p po (.slice pa pn pc))] (.bool true) ?_ KA4.out ?_
      · intro w; go_simp; all_goals (with_reducible rfl)
      go_simp; go_big_quiet_on
      go_big_quiet_want; (refine quiet_val ?_ ?_ ?_; rotate_left; (intro w; go_simp; rfl); go_simp; go_big_quiet_on)
      refine wpQuiet_nil ?_
      intro V hV
      have HV := Lib.hid hV
      clear hV
      go_wp2_with fail
      go_ret
      exact ⟨ret_int (by rw [HT2.out]), dv, mn, by rw [HT2.out]; exact HE.out.on HV.out, .inl rfl, Moved.refl _ _, (HA4.out.trans HV.out).mono (by simp)⟩
end
end Go.Proofs.YtbkeilboneaejaaGreatDoor

namespace Go.Proofs.YtbkeilboneaejaaGreatDoor
set_option linter.unusedVariables false
set_option linter.unusedSimpArgs false
set_option maxRecDepth 20000

theorem cnt_le (f : Int → Bool) : ∀ N : Nat, 0 ≤ H.cnt f N ∧ H.cnt f N ≤ N
  | 0 => by simp [H.cnt]
  | N + 1 => by
    have := cnt_le f N
    unfold H.cnt
    split <;> push_cast <;> omega
/-- A fragment's place. -/
theorem plc_of {p : Pk} (h : rgt2 p = true) (hc : (decide (0 < p.off) || p.more) = true) : Plc p := by
  unfold rgt2 at h
  rw [Bool.or_eq_true] at h hc
  rw [decide_eq_true_eq] at hc
  rcases h with h | h
  · obtain ⟨hf, -⟩ := (right_iff p).1 h
    refine ⟨hf.o0, hf.o1, ?_, hf.reach⟩
    rcases hc with hc | hc
    · have := hf.f0 hc; omega
    · have := hf.m0 hc; omega
  · have hf := (S6.right_iff p).1 h
    refine ⟨hf.o0, hf.o1, ?_, hf.reach⟩
    have := hf.mn (hc.elim .inr .inl)
    omega
theorem opt_of {p : Pk} (h : rgt2 p = true) : p.o.length ≤ 40 := by
  unfold rgt2 at h
  rw [Bool.or_eq_true] at h
  rcases h with h | h
  · exact (valid_len ((right_iff p).1 h).2).1
  · rw [((S6.right_iff p).1 h).o]; simp
/-- .. and its version. -/
theorem ver_of {p : Pk} (h : rgt2 p = true) : p.v = 4 ∨ p.v = 6 := by
  unfold rgt2 at h
  rw [Bool.or_eq_true] at h
  rcases h with h | h
  · exact .inl ((right_iff p).1 h).1.v
  · exact .inr ((S6.right_iff p).1 h).v
theorem hd_bd (p : Pk) (h : p.o.length ≤ 40) : 0 ≤ hdP p ∧ hdP p ≤ 60 := by unfold hdP; split <;> omega

/-- What an entry's numbers keep to, with what was taken by version 6. -/
structure Iv (s : Es) (T : Int → Bool) : Prop extends Inv s T where
  pt : ∀ o k, 0 ≤ o → o ≤ k → k < (s.ps o).1 → T k = true
theorem iv_new (k : Pk) (t : Int) : Iv (newS k t) (fun _ => false) := by
  refine ⟨⟨H.ho_new, by rw [H.cnt_none]; rfl, by simp [newS], by simp [newS]; exact Bytes.nil, by simp [newS], by simp [newS], by simp [newS], by simp [newS], zero_wf, rfl, by simp [newS, zeroPk], by simp⟩, fun o k h1 h2 h3 => ?_⟩
  simp [newS] at h3
  omega
theorem end_nat' {p : Pk} (h : Plc p) : ((endP p).toNat : Int) = p.off + p.d.length ∧ (endP p).toNat ≤ 65535 := by have h1 := h.o0; have h2 := h.tt; unfold endP; omega
theorem lays_len' {s : Es} {p : Pk} {fr : List H.Sp} (hq : Plc p) (hf : FrIn p fr) : (layS s p fr).d.length = max s.d.length (endP p).toNat := by
  have := end_nat' hq
  show (fr.foldl (laySp p.off p.d) (grow s.d (endP p).toNat)).length = _
  rw [layd_len hq fr _ hf (by rw [grow_len]; unfold endP at *; omega), grow_len]
section
variable {s : Es} {T : Int → Bool} {p : Pk}
def TT (T : Int → Bool) (p : Pk) : Int → Bool := fun k => T k || H.inS (p.off, p.off + p.d.length) k
theorem fresh_fin (h : H.Ho T s.m s.e) (hok : H.putOk s.m s.e p.off p.d.length p.more = true) (hq : Plc p) : FrIn p (freshE s p) ∧ (freshE s p).length ≤ 65535 ∧ H.rightP (freshE s p) = true ∧ (∀ k, H.inB (freshE s p) k = (H.inS (p.off, p.off + p.d.length) k && !T k)) := by
  unfold H.putOk at hok
  rw [Bool.and_eq_true] at hok
  have hf := H.fresh_ho h hok.1 hok.2
  have hr := hf.right
  refine ⟨fun x hx => ?_, by have := H.right_short hr; unfold freshE; omega, hr, hf.has⟩
  have hi := H.right_is hr x hx
  unfold H.Is at hi
  have h1 := hf.has x.1
  have h2 := hf.has (x.2 - 1)
  rw [show H.inB (H.freshP s.m (p.off, p.off + p.d.length)) x.1 = true from H.inB_iff.2 ⟨x, hx, by omega, by omega⟩] at h1
  rw [show H.inB (H.freshP s.m (p.off, p.off + p.d.length)) (x.2 - 1) = true from H.inB_iff.2 ⟨x, hx, by omega, by omega⟩] at h2
  have h1 := h1.symm
  have h2 := h2.symm
  rw [Bool.and_eq_true, H.inS_iff] at h1 h2
  simp only at h1 h2
  unfold endP
  exact ⟨by omega, by omega, by omega⟩
theorem fresh_len (h : H.Ho T s.m s.e) (hok : H.putOk s.m s.e p.off p.d.length p.more = true) (hq : Plc p) : H.cnt T 65535 + H.lenP (freshE s p) = H.cnt (TT T p) 65535 ∧ H.sizeP (freshE s p) = H.lenP (freshE s p) := by
  obtain ⟨-, -, hr, hh⟩ := fresh_fin h hok hq
  refine ⟨?_, by unfold H.sizeP; rw [if_pos hr]⟩
  rw [H.len_cnt _ _ hr, ← H.cnt_or T (H.inB (freshE s p)) 65535 (fun n hn => by rw [hh, hn]; simp)]
  refine H.cnt_congr (fun n _ => ?_)
  unfold TT
  rw [hh]
  cases T n <;> simp
theorem beg_eq (s : Es) (p : Pk) : (begS s p).m = s.m ∧ (begS s p).e = s.e ∧ (begS s p).d = s.d ∧ (begS s p).h = s.h ∧ (begS s p).ps = s.ps ∧ (begS s p).bad = s.bad ∧ (begS s p).k = s.k ∧ (begS s p).tb = s.tb := by
  unfold begS; split <;> exact ⟨rfl, rfl, rfl, rfl, rfl, rfl, rfl, rfl⟩
theorem beg_fl (hi : Inv s T) (hq : Plc p) : (begS s p).fl ≤ max s.d.length (endP p).toNat := by
  have := hi.fl
  have h1 := hq.o0
  unfold begS
  split
  · omega
  · rename_i hc
    show p.d.length ≤ _
    have : p.off = 0 := by omega
    unfold endP
    omega
theorem beg_f (hi : Inv s T) (hw : Wf p) (ho : p.o.length ≤ 40) : Wf (begS s p).f ∧ (begS s p).f.d = [] ∧ (begS s p).f.o.length ≤ 40 ∧ (0 ≤ (begS s p).hd ∧ (begS s p).hd ≤ 60) := by
  unfold begS
  split
  · exact ⟨hi.fw, hi.fd, hi.fo, hi.hd⟩
  · exact ⟨⟨hw.v, hw.tos, hw.flow, hw.sv, hw.sl, hw.sb, hw.dv, hw.dl, hw.db, hw.proto, hw.ttl, hw.id0, hw.id1, hw.off, hw.o, hw.ol, Bytes.nil, by simp⟩, rfl, ho, hd_bd p ho⟩
theorem put_en (h : H.Ho T s.m s.e) (hok : H.putOk s.m s.e p.off p.d.length p.more = true) : -1 ≤ H.putE s.e p.off p.d.length p.more ∧ H.putE s.e p.off p.d.length p.more ≤ 65535 := by
  have := (H.put_ho h hok).en
  omega
/-- A fragment that was taken, or comes again, leaves it so. -/
theorem take_iv (hi : Iv s T) (hq : Plc p) (hw : Wf p) (ho : p.o.length ≤ 40) (h4 : (takeS s p).1 ≠ 4) : Iv (takeS s p).2 (TT T p) := by
  have hok : H.putOk s.m s.e p.off p.d.length p.more = true := by
    cases hk : H.putOk s.m s.e p.off p.d.length p.more with
    | true => rfl
    | false => exfalso; apply h4; unfold takeS; rw [if_pos hk]
  have hho := H.put_ho hi.ho hok
  obtain ⟨hfin, hfl, hfr, hfh⟩ := fresh_fin hi.ho hok hq
  obtain ⟨hcn, hsz⟩ := fresh_len hi.ho hok hq
  obtain ⟨b1, b2, b3, b4, b5, b6, b7, b8⟩ := beg_eq (listS s p) p
  have hfl' : (begS (listS s p) p).fl ≤ max s.d.length (endP p).toNat := by
    have h1 := hi.fl
    have h2 := hq.o0
    unfold begS
    split
    · show s.fl ≤ _; omega
    · rename_i hc
      show p.d.length ≤ _
      have : p.off = 0 := by omega
      unfold endP; omega
  have hff : Wf (begS (listS s p) p).f ∧ (begS (listS s p) p).f.d = [] ∧ (begS (listS s p) p).f.o.length ≤ 40 ∧ (0 ≤ (begS (listS s p) p).hd ∧ (begS (listS s p) p).hd ≤ 60) := by
    unfold begS
    split
    · exact ⟨hi.fw, hi.fd, hi.fo, hi.hd⟩
    · exact ⟨⟨hw.v, hw.tos, hw.flow, hw.sv, hw.sl, hw.sb, hw.dv, hw.dl, hw.db, hw.proto, hw.ttl, hw.id0, hw.id1, hw.off, hw.o, hw.ol, Bytes.nil, by simp⟩, rfl, ho, hd_bd p ho⟩
  have hen := end_nat' hq
  generalize hs2 : begS (listS s p) p = s2 at *
  have hm2 : s2.m = H.putM s.m p.off p.d.length p.more := b1
  have he2 : s2.e = H.putE s.e p.off p.d.length p.more := b2
  have hd2 : s2.d = s.d := b3
  have hh2 : s2.h = s.h := b4
  have hp2 : s2.ps = s.ps := b5
  have hho2 : H.Ho (TT T p) s2.m s2.e := by rw [hm2, he2]; exact hho
  have hel : s2.e ≤ max s.d.length (endP p).toNat := by
    rw [he2]; have := hi.en; unfold H.putE; split
    · omega
    · unfold endP; omega
  -- laid
  have hlay : ∀ ps : Int → Int × Bool, (∀ o, (ps o).1 ≤ max s.d.length (endP p).toNat) → (∀ o k, 0 ≤ o → o ≤ k → k < (ps o).1 → TT T p k = true) → Iv { layS s2 p (freshE s p) with ps := ps } (TT T p) := fun ps hps hpt => by
    have hl := lays_len' (s := s2) hq hfin
    rw [hd2] at hl
    refine ⟨⟨hho2, ?_, ?_, ?_, ?_, ?_, ?_, hff.2.2.2, hff.1, hff.2.1, hff.2.2.1, ?_⟩, hpt⟩
    · show s2.h + H.lenP (freshE s p) = _
      rw [hh2, hi.cnt, hcn]
    · show (layS s2 p (freshE s p)).d.length ≤ 65535
      rw [hl]; have := hi.dl; omega
    · show Bytes (layS s2 p (freshE s p)).d
      exact layd_bytes hw.d _ _ (grow_bytes (by rw [hd2]; exact hi.db) _)
    · show s2.fl ≤ (layS s2 p (freshE s p)).d.length
      rw [hl]; exact hfl'
    · show s2.e ≤ ((layS s2 p (freshE s p)).d.length : Int)
      rw [hl]; omega
    · intro o
      show (ps o).1 ≤ ((layS s2 p (freshE s p)).d.length : Int)
      rw [hl]; have := hps o; omega
    · intro n hn
      show n < ((layS s2 p (freshE s p)).d.length : Int)
      rw [hl]
      unfold TT at hn
      rw [Bool.or_eq_true, H.inS_iff] at hn
      rcases hn with hn | hn
      · have := hi.there n hn; omega
      · simp only at hn; unfold endP; omega
  have hmono : ∀ k, T k = true → TT T p k = true := fun k hk => by unfold TT; rw [hk]; rfl
  have hlay0 := hlay s2.ps (fun o => by rw [hp2]; have := hi.ps o; omega) (fun o k h1 h2 h3 => by rw [hp2] at h3; exact hmono k (hi.pt o k h1 h2 h3))
  have hself : { layS s2 p (freshE s p) with ps := s2.ps } = layS s2 p (freshE s p) := rfl
  rw [hself] at hlay0
  unfold takeS at h4 ⊢
  rw [if_neg (by rw [hok]; simp), hs2] at h4 ⊢
  by_cases hv : p.v = 6
  · rw [if_pos hv] at h4 ⊢
    unfold take6 at h4 ⊢
    by_cases h6 : H.sizeP (freshE s p) = p.d.length
    · rw [if_pos h6]
      refine hlay _ (fun o => ?_) (fun o k h1 h2 h3 => ?_)
      · show (if o = p.off then (endP p, p.more) else s2.ps o).1 ≤ _
        split
        · show endP p ≤ _; unfold endP; omega
        · rw [hp2]; have := hi.ps o; omega
      · have h3 : k < (if o = p.off then (endP p, p.more) else s2.ps o).1 := h3
        split at h3
        · rename_i he
          have h3 : k < endP p := h3
          unfold TT
          rw [Bool.or_eq_true]; right
          rw [H.inS_iff]; unfold endP at h3; simp only; omega
        · rw [hp2] at h3; exact hmono k (hi.pt o k h1 h2 h3)
    · rw [if_neg h6] at h4 ⊢
      by_cases h7 : s2.ps p.off = (endP p, p.more) ∧ agrP s2 p = true
      · rw [if_pos h7]
        have h8 : (s.ps p.off).1 = endP p := by rw [← hp2, h7.1]
        have hsub : ∀ k, H.inS (p.off, p.off + p.d.length) k = true → T k = true := fun k hk => by
          rw [H.inS_iff] at hk
          simp only at hk
          exact hi.pt p.off k hq.o0 hk.1 (by rw [h8]; unfold endP; omega)
        have heq : TT T p = T := by
          funext k
          unfold TT
          cases hT : T k with
          | true => rfl
          | false =>
            cases hk : H.inS (p.off, p.off + p.d.length) k with
            | false => rfl
            | true => rw [hsub k hk] at hT; simp at hT
        have hdl : (endP p).toNat ≤ s.d.length := by have := hi.ps p.off; rw [h8] at this; omega
        rw [heq] at hho2 ⊢
        exact ⟨⟨hho2, by rw [hh2]; exact hi.cnt, by rw [hd2]; exact hi.dl, by rw [hd2]; exact hi.db, by show s2.fl ≤ s2.d.length; rw [hd2]; omega, by show s2.e ≤ (s2.d.length : Int); rw [hd2]; omega, by rw [hd2, hp2]; exact hi.ps, hff.2.2.2, hff.1, hff.2.1, hff.2.2.1, by rw [hd2]; exact hi.there⟩, by rw [hp2]; exact hi.pt⟩
      · rw [if_neg h7] at h4; simp at h4
  · rw [if_neg hv] at h4 ⊢
    unfold take4 at h4 ⊢
    by_cases h5 : long4 s2 = true
    · rw [if_pos h5] at h4; simp at h4
    · rw [if_neg h5] at h4 ⊢
      by_cases h6 : agrP (layS s2 p (freshE s p)) p = false
      · rw [if_pos h6] at h4; simp at h4
      · rw [if_neg h6]
        split <;> exact hlay0
end
end Go.Proofs.YtbkeilboneaejaaGreatDoor

namespace Go.Proofs.YtbkeilboneaejaaGreatDoor
open Go.ChangeShapes Go.WideShapes Go.ChangeAt Go.RowKit
open S6 (wp_region_cls quiet_val quiet_call quiet_ld ld3 ld4 ld5 ld25 ld26 load28_run load24m_run)
set_option linter.unusedVariables false
set_option linter.unusedSimpArgs false
set_option maxRecDepth 20000

theorem EntG.list {w w' : World} {g : Nat} {s : Es} {lb : Nat} {lv lv' r dv ov : Value} {mb mn : Nat} {f c : List H.Sp} {e : Int} (h : EntG w g s lb lv dv ov mb mn) (t : H.Took w w' lb lv r lv' f c e) : EntG w' g { s with m := c, e := e } lb lv' dv ov mb mn := by
  have ap := h.ap
  have lt := h.lt
  have nS : ∀ x, x ≠ lb → lv.ownBlock ≠ some x → x ∉ lb :: lv.ownBlock.toList := fun x h1 h2 hx => by
    simp at hx
    rcases hx with hx | hx
    · exact h1 hx
    · exact h2 hx
  have mv : ∀ x, x ∈ fpE g lb lv dv ov mb → lv.ownBlock ≠ some x → lv'.ownBlock ≠ some x := fun x hx h1 e => by
    rcases t.moved x e with h2 | h2
    · exact h1 h2
    · have := lt x hx; omega
  refine ⟨t.aw.keep (nS g ap.gl ap.gv) h.blk, h.nb, h.kad, h.fad, t.hl, h.da.away t.aw (fun k hk => nS k (fun e => by subst e; exact ap.ld hk) (fun e => ap.vd k e hk)), h.oo.away t.aw (fun k hk => nS k (fun e => by subst e; exact ap.lo hk) (fun e => ap.vo k e hk)),
    h.mp.away t.aw (nS mb (fun e => ap.lm e.symm) ap.mv), { ap with gv := mv g (mem_fp.2 (by simp)) ap.gv, lw := fun e => t.hl.own lb e rfl, mv := mv mb (mem_fp.2 (by simp)) ap.mv, vd := fun k hk => ?_, vo := fun k hk => ?_ }⟩
  · rcases t.moved k hk with h2 | h2
    · exact ap.vd k h2
    · intro e; have := lt k (mem_fp.2 (by simp [e])); omega
  · rcases t.moved k hk with h2 | h2
    · exact ap.vo k h2
    · intro e; have := lt k (mem_fp.2 (by simp [e])); omega
section
variable {w : World} {g : Nat} {s : Es} {lb : Nat} {lv dv ov : Value} {mb mn : Nat}
theorem begin_c (h : EntG w g s lb lv dv ov mb mn) (p : Pk) (po pd : Value) (hp : Pkt w p po pd) (hq : Plc p) (hg : Glob w) (ho : Outs p po pd [g]) (hg0 : g ≠ 0) :
    Calls Tryz.prog 73 #[.pointer (some ⟨g, 0, none⟩), .agg (csP p po pd)] w (BegOut w g s p lb lv dv ov mb mn) := by
  by_cases hc : 0 < p.off ∨ 0 < s.fl
  · exact begin_no h p po pd hp hc
  · have := hq.o0
    exact begin_yes h p po pd hp hq hg ho hg0 (by omega) (by omega)
/-- What take tells and leaves. -/
def TkOut (w : World) (g : Nat) (q : Int × Es) (fp : List Nat) (E : Ending) (w' : World) : Prop :=
  E = .returned (.int .i64 q.1) ∧ ∃ lb lv dv ov mb mn, EntG w' g q.2 lb lv dv ov mb mn ∧ mn ≤ q.2.h.toNat ∧ (∀ x ∈ fpE g lb lv dv ov mb, x ∈ fp ∨ w.heap.size ≤ x) ∧ Away fp w w'
theorem mn_ok {s2 : Es} {p : Pk} {fr : List H.Sp} {mn mn' : Nat} {h : Int} (h1 : mn ≤ h.toNat) (h2 : s2.h = h) (h3 : 0 ≤ h) (h4 : 0 ≤ H.lenP fr) (h5 : H.sizeP fr = H.lenP fr) (h6 : 1 ≤ p.d.length) (h7 : mn' = mn ∨ (mn' = mn + 1 ∧ H.sizeP fr = p.d.length)) : mn' ≤ (take6 s2 p fr).2.h.toNat := by
  unfold take6 at *
  split
  · rename_i hs
    show mn' ≤ (s2.h + H.lenP fr).toNat
    omega
  · rename_i hs
    have e : ∀ q : Int × Es, (q = (3, s2) ∨ q = (4, s2)) → q.2.h = s2.h := fun q hq => by rcases hq with rfl | rfl <;> rfl
    rw [e _ (by split <;> simp)]
    rcases h7 with h7 | ⟨h7, h8⟩
    · omega
    · exact absurd h8 hs
theorem mn_ok4 {s2 : Es} {p : Pk} {fr : List H.Sp} {mn : Nat} {h e0 : Int} (h1 : mn ≤ h.toNat) (h2 : s2.h = h) (h3 : 0 ≤ h) (h4 : 0 ≤ H.lenP fr) : mn ≤ (take4 e0 s2 p fr).2.h.toNat := by
  have e : (layS s2 p fr).h = s2.h + H.lenP fr := rfl
  unfold take4
  split
  · show mn ≤ s2.h.toNat; omega
  · split
    · show mn ≤ (layS s2 p fr).h.toNat; omega
    · split
      · show mn ≤ (layS s2 p fr).h.toNat; omega
      · show mn ≤ (layS s2 p fr).h.toNat; omega
set_option maxHeartbeats 16000000 in
theorem take_c (h : EntG w g s lb lv dv ov mb mn) (T : Int → Bool) (hi : Iv s T) (hmn : mn ≤ s.h.toNat) (p : Pk) (po pd : Value) (hp : Pkt w p po pd) (hq : Plc p) (hol : p.o.length ≤ 40) (hv : p.v = 4 ∨ p.v = 6) (hg : Glob w) (ho : Outs p po pd (fpE g lb lv dv ov mb)) (h0 : 0 ∉ fpE g lb lv dv ov mb) :
    Calls Tryz.prog 39 #[.pointer (some ⟨g, 0, none⟩), .agg (csP p po pd)] w (TkOut w g (takeS s p) (fpE g lb lv dv ov mb)) := by
  have HE := Lib.hid h
  have HP := Lib.hid hp
  have HQ := Lib.hid hq
  have HG := Lib.hid hg
  have HOU := Lib.hid ho
  have H0 := Lib.hid h0
  have HIV := Lib.hid hi
  have HMN := Lib.hid hmn
  have HAD := Lib.hid hp.wf.ad
  have HOL := Lib.hid hol
  have HAP := Lib.hid h.ap
  have HLT := Lib.hid h.lt
  have hcb := cnt_le T 65535
  rw [← hi.cnt] at hcb
  have HCB := Lib.hid hcb
  have HTE : Hid (takeS s p = if H.putOk s.m s.e p.off p.d.length p.more = false then (4, s) else if p.v = 6 then take6 (begS (listS s p) p) p (freshE s p) else take4 s.e (begS (listS s p) p) p (freshE s p)) := rfl
  have KEND : Hid (∀ W, Away [] w W → Calls Tryz.prog 43 #[.pointer (some ⟨lb, 0, none⟩)] W fun E w' => E = .returned (.int .i64 s.e) ∧ w' = W) := fun W hW => H.end_c (h.hl.on hW)
  have hI1 : H.I64 p.off := ⟨by have := hq.o0; omega, by have := hq.o1; omega⟩
  have hI2 : H.I64 (p.d.length : Int) := ⟨by omega, by have := hq.tt; have := hq.o0; omega⟩
  have KPUT : Hid (∀ W, Away [] w W → Calls Tryz.prog 72 #[.pointer (some ⟨lb, 0, none⟩), .int .i64 p.off, .int .i64 (p.d.length : Int), .bool p.more] W fun E w' => H.PutOut W lb lv s.m s.e p.off p.d.length p.more E w') := fun W hW => H.put_c' p.off p.d.length p.more (h.hl.on hW) hI1 hI2
  have c39 := h.cells.2.2.1
  obtain ⟨pa, pc, hpd, -, -, -⟩ := hp.d
  obtain ⟨pn, hpn⟩ : ∃ pn, pn = p.d.length := ⟨_, rfl⟩
  have HPN : Hid (p.d.length = pn) := hpn.symm
  rw [← hpn] at hpd KPUT
  subst hpd
  have HV := Lib.hid hv
  clear h hp hq hg ho h0 hi hmn hol hcb hI1 hI2 hpn hv
  go_enter Tryz.func39, Tryz.ntmps39
  go_wp2_with (refine wpList_box28 rfl _ rfl p _ _ rfl ?_; refine Hid.out ?_)
  refine Lib.hid ?_
  intro g3 w3 hg3 hb3 haw3
  have HB3 := Lib.hid hb3
  have HA3 := Lib.hid haw3
  have hl3 := hb3.lt
  have HG3 : Hid (∀ x ∈ fpE g lb lv dv ov mb, g3 ≠ x) := fun x hx e => by have := HLT.out x hx; omega
  replace c39 := haw3.cell (by simp) c39
  have K1 := Lib.hid (KEND.out w3 haw3)
  have K2 : Hid (∀ q, Calls Tryz.prog 72 #[.pointer (some ⟨lb, 0, none⟩), .int .i64 p.off, .int .i64 (pn : Int), .bool p.more] (w3.drewN q) fun E w' => H.PutOut (w3.drewN q) lb lv s.m s.e p.off pn p.more E w') := fun q => KPUT.out (w3.drewN q) (HA3.out.drewN q)
  replace HE := Lib.hid (HE.out.on haw3)
  replace HP := Lib.hid (HP.out.on haw3)
  replace HG := Lib.hid (HG.out.on haw3)
  have HW3 := Lib.hid haw3.size
  clear hb3 haw3 KPUT KEND
  go_wp2_with fail
  refine K1.out.mono ?_
  rintro E w3 ⟨rfl, rfl⟩
  go_wp2_with fail
  have S0 : Hid (BoxP w3.drew g3 p po (.slice pa pn pc) ∧ w3.drew.cell? ⟨g, 39, none⟩ = some (.pointer (some ⟨lb, 0, none⟩))) := ⟨HB3.out, c39⟩
  refine wp_region_held_drew (S := fun w' => BoxP w' g3 p po (.slice pa pn pc) ∧ w'.cell? ⟨g, 39, none⟩ = some (.pointer (some ⟨lb, 0, none⟩))) (by kernel_rfl) (by exact S0.out) (fun hHeld => ?_)
  refine wpAnyH_take (i := 0) (v := ?_) (by simp only [List.getElem?_toArray, List.getElem?_cons_zero]; rfl) (by kernel_rfl) (by kernel_rfl) (by kernel_rfl) (by exact fun _ _ _ h => h) (Or.inl ⟨by rfl, ?_⟩) (by assumption) ?_
  rotate_left
  · intro wq hSw
    (try dsimp only at hSw)
    go_simp
    all_goals (with_reducible rfl)
  try simp only [Act.put, List.setIfInBounds_toArray, List.set_cons_zero, List.set_cons_succ]
  refine wpAnyH_take (i := 1) (v := ?_) (by simp only [List.getElem?_toArray, List.getElem?_cons_succ, List.getElem?_cons_zero]; rfl) (by kernel_rfl) (by kernel_rfl) (by kernel_rfl) (by exact fun _ _ _ h => h) (Or.inl ⟨by rfl, ?_⟩) (by assumption) ?_
  rotate_left
  · intro wq hSw
    (try dsimp only at hSw)
    go_simp
    all_goals (with_reducible rfl)
  try simp only [Act.put, List.setIfInBounds_toArray, List.set_cons_zero, List.set_cons_succ]
  refine wpAnyH_take (i := 2) (v := ?_) (by simp only [List.getElem?_toArray, List.getElem?_cons_succ, List.getElem?_cons_zero]; rfl) (by kernel_rfl) (by kernel_rfl) (by kernel_rfl) (by exact fun _ _ _ h => h) (Or.inl ⟨by rfl, ?_⟩) (by assumption) ?_
  rotate_left
  · intro wq hSw
    (try dsimp only at hSw)
    go_simp
    all_goals (with_reducible rfl)
  try simp only [Act.put, List.setIfInBounds_toArray, List.set_cons_zero, List.set_cons_succ]
  refine wpAnyH_take (i := 3) (by simp only [List.getElem?_toArray, List.getElem?_cons_succ, List.getElem?_cons_zero]; rfl) (by kernel_rfl) (by kernel_rfl) (by kernel_rfl) (by exact fun _ _ _ h => h) (yields_ld (ad := ⟨g, 39, none⟩) (by rfl) _ rfl rfl (fun w' h => ld56 (z := .bool true) _ h.2)) (by assumption) ?_
  try simp only [Act.put, List.setIfInBounds_toArray, List.set_cons_zero, List.set_cons_succ]
  refine wpAnyH_take (i := 4) (v := ?_) (by simp only [List.getElem?_toArray, List.getElem?_cons_succ, List.getElem?_cons_zero]; rfl) (by kernel_rfl) (by kernel_rfl) (by kernel_rfl) (by exact fun _ _ _ h => h) (Or.inl ⟨by rfl, ?_⟩) (by assumption) ?_
  rotate_left
  · intro wq hSw
    (try dsimp only at hSw)
    go_simp
    all_goals (with_reducible rfl)
  try simp only [Act.put, List.setIfInBounds_toArray, List.set_cons_zero, List.set_cons_succ]
  refine wpAnyH_take (i := 5) (by simp only [List.getElem?_toArray, List.getElem?_cons_succ, List.getElem?_cons_zero]; rfl) (by kernel_rfl) (by kernel_rfl) (by kernel_rfl) (by exact fun _ _ _ h => h) (yields_ld (ad := ⟨g3, 43, none⟩) (by rfl) _ rfl rfl (fun w' h => ld3 (BoxP.cells h.1 HAD.out).off)) (by assumption) ?_
  try simp only [Act.put, List.setIfInBounds_toArray, List.set_cons_zero, List.set_cons_succ]
  refine wpAnyH_take (i := 6) (v := ?_) (by simp only [List.getElem?_toArray, List.getElem?_cons_succ, List.getElem?_cons_zero]; rfl) (by kernel_rfl) (by kernel_rfl) (by kernel_rfl) (by exact fun _ _ _ h => h) (Or.inl ⟨by rfl, ?_⟩) (by assumption) ?_
  rotate_left
  · intro wq hSw
    (try dsimp only at hSw)
    go_simp
    all_goals (with_reducible rfl)
  try simp only [Act.put, List.setIfInBounds_toArray, List.set_cons_zero, List.set_cons_succ]
  refine wpAnyH_take (i := 7) (by simp only [List.getElem?_toArray, List.getElem?_cons_succ, List.getElem?_cons_zero]; rfl) (by kernel_rfl) (by kernel_rfl) (by kernel_rfl) (by exact fun _ _ _ h => h) (yields_ld (ad := ⟨g3, 45, none⟩) (by rfl) _ rfl rfl (fun w' h => ld26 (BoxP.cells h.1 HAD.out).d)) (by assumption) ?_
  try simp only [Act.put, List.setIfInBounds_toArray, List.set_cons_zero, List.set_cons_succ]
  refine wpAnyH_take (i := 8) (v := ?_) (by simp only [List.getElem?_toArray, List.getElem?_cons_succ, List.getElem?_cons_zero]; rfl) (by kernel_rfl) (by kernel_rfl) (by kernel_rfl) (by exact fun _ _ _ h => h) (Or.inl ⟨by rfl, ?_⟩) (by assumption) ?_
  rotate_left
  · intro wq hSw
    (try dsimp only at hSw)
    go_simp
    all_goals (with_reducible rfl)
  try simp only [Act.put, List.setIfInBounds_toArray, List.set_cons_zero, List.set_cons_succ]
  refine wpAnyH_take (i := 9) (v := ?_) (by simp only [List.getElem?_toArray, List.getElem?_cons_succ, List.getElem?_cons_zero]; rfl) (by kernel_rfl) (by kernel_rfl) (by kernel_rfl) (by exact fun _ _ _ h => h) (Or.inl ⟨by rfl, ?_⟩) (by assumption) ?_
  rotate_left
  · intro wq hSw
    (try dsimp only at hSw)
    go_simp
    all_goals (with_reducible rfl)
  try simp only [Act.put, List.setIfInBounds_toArray, List.set_cons_zero, List.set_cons_succ]
  refine wpAnyH_take (i := 10) (by simp only [List.getElem?_toArray, List.getElem?_cons_succ, List.getElem?_cons_zero]; rfl) (by kernel_rfl) (by kernel_rfl) (by kernel_rfl) (by exact fun _ _ _ h => h) (yields_ld (ad := ⟨g3, 41, none⟩) (by rfl) _ rfl rfl (fun w' h => ld4 (BoxP.cells h.1 HAD.out).more)) (by assumption) ?_
  try simp only [Act.put, List.setIfInBounds_toArray, List.set_cons_zero, List.set_cons_succ]
  refine wpAnyH_ready (rs := [11]) (by kernel_rfl) (by simp) ?_
  refine AllReadyH.cons (by simp only [List.getElem?_toArray, List.getElem?_cons_succ, List.getElem?_cons_zero]; rfl) (fun K hK => ?_) AllReadyH.nil
  go_simp
  refine (K2.out 1).mono ?_
  rintro E w4 hout
  rcases hout with ⟨hok, r, lv', rfl, ht⟩ | ⟨hno, rfl, ha4⟩
  · have ht' : H.Took w3 w4 lb lv r lv' (H.freshP s.m (p.off, p.off + pn)) (H.putM s.m p.off pn p.more) (H.putE s.e p.off pn p.more) := ht.on ((Away.refl [] w3).drewN 1)
    have HTE2 : Hid (takeS s p = if p.v = 6 then take6 (begS (listS s p) p) p (freshE s p) else take4 s.e (begS (listS s p) p) p (freshE s p)) := by show _ = _; rw [HTE.out, HPN.out, if_neg (by rw [hok]; simp)]
    have HOK : Hid (H.putOk s.m s.e p.off p.d.length p.more = true) := by show _ = _; rw [HPN.out]; exact hok
    have HLS : Hid (listS s p = { s with m := H.putM s.m p.off pn p.more, e := H.putE s.e p.off pn p.more }) := by show _ = _; unfold listS; rw [HPN.out]
    have HFE : Hid (freshE s p = H.freshP s.m (p.off, p.off + pn)) := by show _ = _; unfold freshE; rw [HPN.out]
    have haw4 : Away (lb :: lv.ownBlock.toList) w3 w4 := ht'.aw
    have nS : ∀ x, x ≠ lb → lv.ownBlock ≠ some x → x ∉ lb :: lv.ownBlock.toList := fun x h1 h2 hx => by
      simp at hx
      rcases hx with hx | hx
      · exact h1 hx
      · exact h2 hx
    have HSUB : Hid (∀ x ∈ lb :: lv.ownBlock.toList, x ∈ fpE g lb lv dv ov mb) := fun x hx => by
      simp only [List.mem_cons, Option.mem_toList] at hx
      exact mem_fp.2 (by rcases hx with h | h <;> simp [h])
    have HB4 := Lib.hid (HB3.out.away haw4 (fun hm => HG3.out _ (HSUB.out _ hm) rfl))
    have S1 : Hid (BoxP w4 g3 p po (.slice pa pn pc) ∧ w4.cell? ⟨g, 39, none⟩ = some (.pointer (some ⟨lb, 0, none⟩))) := ⟨HB4.out, Away.cell haw4 (nS g HAP.out.gl HAP.out.gv) c39⟩
    have HE4 : Hid (EntG w4 g (listS s p) lb lv' dv ov mb mn) := by show EntG _ _ _ _ _ _ _ _ _; rw [HLS.out]; exact HE.out.list ht'
    have HP4 := Lib.hid (HP.out.away haw4 (HOU.out.mono HSUB.out))
    have HG4 := Lib.hid (HG.out.away haw4 (fun hm => H0.out (HSUB.out 0 hm)))
    have HA4 : Hid (Away (fpE g lb lv dv ov mb) w w4) := (HA3.out.mono (by simp)).trans (haw4.mono HSUB.out)
    have HFR : Hid (H.Lst w4 r (freshE s p)) := by show H.Lst _ _ _; rw [HFE.out]; exact ht'.fresh
    have HRN : Hid (∀ k, r.ownBlock = some k → w3.heap.size ≤ k ∧ k < w4.heap.size) := fun k hk => ⟨ht'.new k hk, ht'.fresh.lt k hk⟩
    have HMV : Hid (∀ x, lv'.ownBlock = some x → lv.ownBlock = some x ∨ w.heap.size ≤ x) := fun x hx => by
      rcases ht'.moved x hx with h | h
      · exact .inl h
      · exact .inr (by have := HW3.out; omega)
    have hs4 := haw4.size
    have KB : Hid (Calls Tryz.prog 73 #[.pointer (some ⟨g, 0, none⟩), .agg (csP p po (.slice pa pn pc))] w4 (BegOut w4 g (listS s p) p lb lv' dv ov mb mn)) := begin_c HE4.out p po _ HP4.out HQ.out HG4.out (HOU.out.mono (fun x hx => by simp at hx; exact mem_fp.2 (.inl hx))) (fun e => H0.out (mem_fp.2 (.inl e.symm)))
    clear ht ht' haw4 hok
    go_wp2_with fail
    refine hK.out _ _ (by exact S1.out) (fun hHeld => ?_)
    clear hK K
    try simp only [Act.put, List.setIfInBounds_toArray, List.set_cons_zero, List.set_cons_succ]
    refine wpAnyH_take (i := 12) (v := ?_) (by simp only [List.getElem?_toArray, List.getElem?_cons_succ, List.getElem?_cons_zero]; rfl) (by kernel_rfl) (by kernel_rfl) (by kernel_rfl) (by exact fun _ _ _ h => h) (Or.inl ⟨by rfl, ?_⟩) (by assumption) ?_
    rotate_left
    · intro wq hSw
      (try dsimp only at hSw)
      go_simp
      all_goals (with_reducible rfl)
    try simp only [Act.put, List.setIfInBounds_toArray, List.set_cons_zero, List.set_cons_succ]
    refine wpAnyH_take (i := 13) (v := ?_) (by simp only [List.getElem?_toArray, List.getElem?_cons_succ, List.getElem?_cons_zero]; rfl) (by kernel_rfl) (by kernel_rfl) (by kernel_rfl) (by exact fun _ _ _ h => h) (Or.inl ⟨by rfl, ?_⟩) (by assumption) ?_
    rotate_left
    · intro wq hSw
      (try dsimp only at hSw)
      go_simp
      all_goals (with_reducible rfl)
    try simp only [Act.put, List.setIfInBounds_toArray, List.set_cons_zero, List.set_cons_succ]
    refine wpAnyH_take (i := 14) (v := ?_) (by simp only [List.getElem?_toArray, List.getElem?_cons_succ, List.getElem?_cons_zero]; rfl) (by kernel_rfl) (by kernel_rfl) (by kernel_rfl) (by exact fun _ _ _ h => h) (Or.inl ⟨by rfl, ?_⟩) (by assumption) ?_
    rotate_left
    · intro wq hSw
      (try dsimp only at hSw)
      go_simp
      all_goals (with_reducible rfl)
    try simp only [Act.put, List.setIfInBounds_toArray, List.set_cons_zero, List.set_cons_succ]
    refine wpAnyH_take (i := 15) (v := ?_) (by simp only [List.getElem?_toArray, List.getElem?_cons_succ, List.getElem?_cons_zero]; rfl) (by kernel_rfl) (by kernel_rfl) (by kernel_rfl) (by exact fun _ _ _ h => h) (Or.inl ⟨by rfl, ?_⟩) (by assumption) ?_
    rotate_left
    · intro wq hSw
      (try dsimp only at hSw)
      go_simp
      all_goals (with_reducible rfl)
    try simp only [Act.put, List.setIfInBounds_toArray, List.set_cons_zero, List.set_cons_succ]
    refine wpAnyH_take (i := 16) (v := ?_) (by simp only [List.getElem?_toArray, List.getElem?_cons_succ, List.getElem?_cons_zero]; rfl) (by kernel_rfl) (by kernel_rfl) (by kernel_rfl) (by exact fun _ _ _ h => h) (Or.inl ⟨by rfl, ?_⟩) (by assumption) ?_
    rotate_left
    · intro wq hSw
      (try dsimp only at hSw)
      go_simp
      all_goals (with_reducible rfl)
    try simp only [Act.put, List.setIfInBounds_toArray, List.set_cons_zero, List.set_cons_succ]
    refine wpAnyH_done (by kernel_rfl) ?_ _
    clear hHeld S1 S0 c39
    go_wp2_with (refine wpList_load28 rfl _ rfl _ rfl p _ _ (by exact HB4.out) HAD.out ?_)
    refine KB.out.mono ?_
    rintro E w5 ⟨rfl, ov', he5, hm5, haw5⟩
    have HE5 := Lib.hid he5
    have HB5 := Lib.hid (HB4.out.away haw5 (by simpa using HG3.out g (mem_fp.2 (.inl rfl))))
    have HP5 := Lib.hid (HP4.out.away haw5 (HOU.out.mono (fun x hx => by simp at hx; exact mem_fp.2 (.inl hx))))
    have HA5 : Hid (Away (fpE g lb lv dv ov mb) w w5) := HA4.out.trans (haw5.mono (fun x hx => by simp at hx; exact mem_fp.2 (.inl hx)))
    have HMO : Hid (∀ x, ov'.ownBlock = some x → ov.ownBlock = some x ∨ w.heap.size ≤ x) := fun x hx => by
      rcases hm5 x hx with h | h
      · exact .inl h
      · exact .inr (by have := HW3.out; omega)
    have hfn := fresh_fin HIV.out.ho HOK.out HQ.out
    have hfl := fresh_len HIV.out.ho HOK.out HQ.out
    have hbe := beg_eq (listS s p) p
    have HLI : Hid (LayIn w5 g (begS (listS s p) p) dv p po (.slice pa pn pc) r (freshE s p)) := by
      have hgb : ∀ k, r.ownBlock = some k → k ≠ g ∧ dv.ownBlock ≠ some k := fun k hk => by
        have h1 := HRN.out k hk
        have h2 := HW3.out
        exact ⟨fun e => by have := HLT.out g (mem_fp.2 (.inl rfl)); omega, fun e => by have := HLT.out k (mem_fp.2 (by simp [e])); omega⟩
      refine ⟨HP5.out, HQ.out, HFR.out.away haw5 (fun k hk => by simpa using (hgb k hk).1), hfn.1, hfn.2.1, hgb, HOU.out.mono (fun x hx => by simp only [List.mem_cons, Option.mem_toList] at hx; exact mem_fp.2 (by rcases hx with h | h <;> simp [h])), ?_, ?_, ?_, ?_⟩
      · rw [hbe.2.2.1]; exact HIV.out.db
      · rw [hbe.2.2.1]; exact HIV.out.dl
      · rw [hbe.2.2.2.1]; exact HCB.out.1
      · rw [hbe.2.2.2.1]
        have h1 : s.h = H.cnt T 65535 := HIV.out.cnt
        have h2 := (cnt_le (TT T p) 65535).2
        have h3 := hfl.1
        show s.h + _ ≤ _
        omega
    have HHD : Hid (0 ≤ (begS (listS s p) p).hd ∧ (begS (listS s p) p).hd ≤ 60) := by
      show _ ∧ _
      unfold begS
      split
      · exact HIV.out.hd
      · exact hd_bd p HOL.out
    have HEN : Hid (-1 ≤ (begS (listS s p) p).e ∧ (begS (listS s p) p).e ≤ 65535) := by show _ ∧ _; rw [hbe.2.1]; exact put_en HIV.out.ho HOK.out
    have HPS : Hid (∀ o, ((begS (listS s p) p).ps o).1 ≤ (begS (listS s p) p).d.length) := by show ∀ o, _; rw [hbe.2.2.1, hbe.2.2.2.2.1]; exact HIV.out.ps
    have HH2 : Hid ((begS (listS s p) p).h = s.h) := hbe.2.2.2.1
    have HFP : Hid (∀ dv', Moved w5 dv dv' → ∀ x ∈ fpE g lb lv' dv' ov' mb, x ∈ fpE g lb lv dv ov mb ∨ w.heap.size ≤ x) := fun dv' hd x hx => by
      have hsz := HA5.out.size
      rcases mem_fp.1 hx with rfl | rfl | rfl | hx | hx | hx
      · exact .inl (mem_fp.2 (by simp))
      · exact .inl (mem_fp.2 (by simp))
      · exact .inl (mem_fp.2 (by simp))
      · rcases HMV.out x hx with h | h
        · exact .inl (mem_fp.2 (by simp [h]))
        · exact .inr h
      · rcases hd x hx with h | h
        · exact .inl (mem_fp.2 (by simp [h]))
        · exact .inr (by omega)
      · rcases HMO.out x hx with h | h
        · exact .inl (mem_fp.2 (by simp [h]))
        · exact .inr h
    have HLP : Hid (0 ≤ H.lenP (freshE s p) ∧ H.sizeP (freshE s p) = H.lenP (freshE s p)) := ⟨len_pos (fun x hx => (hfn.1 x hx).2.1), hfl.2⟩
    have HRM : Hid (∀ k, r.ownBlock = some k → k ≠ mb) := fun k hk e => by have h1 := HRN.out k hk; have h2 := HW3.out; have h3 := HLT.out mb (mem_fp.2 (by simp)); omega
    clear he5 hm5 haw5 hfn hfl hbe HE4 HB4 HP4
    by_cases hv6 : p.v = 6
    · have HTV : Hid (takeS s p = take6 (begS (listS s p) p) p (freshE s p)) := by show _ = _; rw [HTE2.out, if_pos hv6]
      have K6 : Hid (Calls Tryz.prog 74 #[.pointer (some ⟨g, 0, none⟩), .agg (csP p po (.slice pa pn pc)), r] w5 (Tk6Out w5 g (take6 (begS (listS s p) p) p (freshE s p)) lb lv' dv ov' mb mn (H.sizeP (freshE s p) = p.d.length))) := by
        by_cases hsz : H.sizeP (freshE s p) = p.d.length
        · exact take6_yes HE5.out p po _ r _ HLI.out hsz (by have := HMN.out; have := HCB.out; omega) (HOU.out.mono (fun x hx => by simp at hx; exact mem_fp.2 (by simp [hx]))) HRM.out
        · exact take6_no HE5.out p po _ r _ HLI.out hsz HPS.out
      have s0 : w5.cell? ⟨g3, 0, none⟩ = some (.int .i64 6) := by rw [← hv6]; exact (HB5.out.cells HAD.out).v
      have HV6 := Lib.hid hv6
      clear hv6
      go_wp2_with (refine wpList_load28 rfl _ rfl _ rfl p _ _ (by exact HB5.out) HAD.out ?_)
      refine K6.out.mono ?_
      rintro E w6 ⟨rfl, dv', mn', he6, hmn6, hmv6, haw6⟩
      have HF : Hid (TkOut w g (takeS s p) (fpE g lb lv dv ov mb) (.returned (.int .i64 (take6 (begS (listS s p) p) p (freshE s p)).1)) w6) := by
        refine ⟨by rw [HTV.out], lb, lv', dv', ov', mb, mn', by rw [HTV.out]; exact he6, ?_, HFP.out dv' hmv6, HA5.out.trans (haw6.mono (fun x hx => by simp only [List.mem_cons, Option.mem_toList] at hx; exact mem_fp.2 (by rcases hx with h | h | h <;> simp [h])))⟩
        rw [HTV.out]
        exact mn_ok HMN.out HH2.out HCB.out.1 HLP.out.1 HLP.out.2 HQ.out.n1 hmn6
      clear he6 hmn6 hmv6 haw6
      go_wp2_with fail
      go_ret
      exact HF.out
    · have HTV : Hid (takeS s p = take4 s.e (begS (listS s p) p) p (freshE s p)) := by show _ = _; rw [HTE2.out, if_neg hv6]
      obtain ⟨e2, he2⟩ : ∃ e2, e2 = (begS (listS s p) p).e := ⟨_, rfl⟩
      have K3 : Hid (∀ W, Away [] w5 W → Calls Tryz.prog 43 #[.pointer (some ⟨lb, 0, none⟩)] W fun E w' => E = .returned (.int .i64 e2) ∧ w' = W) := fun W hW => by rw [he2]; exact H.end_c (HE5.out.hl.on hW)
      have K4 : Hid (∀ eb : Bool, (eb = false ↔ e2 = s.e) → ∀ W, Away [] w5 W → Calls Tryz.prog 75 #[.pointer (some ⟨g, 0, none⟩), .agg (csP p po (.slice pa pn pc)), r, .bool eb] W (Tk4Out W g (take4 s.e (begS (listS s p) p) p (freshE s p)) lb lv' dv ov' mb mn)) := fun eb hb W hW =>
        take4_c (HE5.out.on hW) p po _ r _ (HLI.out.on hW) s.e eb (by rw [← he2]; exact hb) HHD.out HEN.out
      have hvb : (p.v == 6) = false := by simpa using hv6
      have s0 : w5.cell? ⟨g3, 0, none⟩ = some (.int .i64 p.v) := (HB5.out.cells HAD.out).v
      have h39 := HE5.out.cells.2.2.1
      clear he2 hv6
      go_wp2_with fail
      have T0 : Hid (BoxP w5.drew g3 p po (.slice pa pn pc) ∧ w5.drew.cell? ⟨g, 39, none⟩ = some (.pointer (some ⟨lb, 0, none⟩))) := ⟨HB5.out, h39⟩
      obtain ⟨e0, he0⟩ : ∃ e0, e0 = s.e := ⟨_, rfl⟩
      have HE0 := Lib.hid he0
      rw [← he0]
      by_cases hee : e2 = e0
      · have KK := Lib.hid (K4.out false (by rw [hee, he0]; simp))
        subst hee
        clear he0 K4
        refine wp_region_held_drew (S := fun w' => BoxP w' g3 p po (.slice pa pn pc) ∧ w'.cell? ⟨g, 39, none⟩ = some (.pointer (some ⟨lb, 0, none⟩))) (by kernel_rfl) (by exact T0.out) (fun hHeld => ?_)
        refine wpAnyH_take (i := 0) (v := ?_) (by simp only [List.getElem?_toArray, List.getElem?_cons_zero]; rfl) (by kernel_rfl) (by kernel_rfl) (by kernel_rfl) (by exact fun _ _ _ h => h) (Or.inl ⟨by rfl, ?_⟩) (by assumption) ?_
        rotate_left
        · intro wq hSw
          (try dsimp only at hSw)
          go_simp
          all_goals (with_reducible rfl)
        try simp only [Act.put, List.setIfInBounds_toArray, List.set_cons_zero, List.set_cons_succ]
        refine wpAnyH_take (i := 1) (by simp only [List.getElem?_toArray, List.getElem?_cons_succ, List.getElem?_cons_zero]; rfl) (by kernel_rfl) (by kernel_rfl) (by kernel_rfl) (by exact fun _ _ _ h => h) (yields_ld (ad := ⟨g3, 0, none⟩) (by rfl) _ rfl rfl (fun w' h => load28_run h.1 HAD.out)) (by assumption) ?_
        try simp only [Act.put, List.setIfInBounds_toArray, List.set_cons_zero, List.set_cons_succ]
        refine wpAnyH_take (i := 2) (v := ?_) (by simp only [List.getElem?_toArray, List.getElem?_cons_succ, List.getElem?_cons_zero]; rfl) (by kernel_rfl) (by kernel_rfl) (by kernel_rfl) (by exact fun _ _ _ h => h) (Or.inl ⟨by rfl, ?_⟩) (by assumption) ?_
        rotate_left
        · intro wq hSw
          (try dsimp only at hSw)
          go_simp
          all_goals (with_reducible rfl)
        try simp only [Act.put, List.setIfInBounds_toArray, List.set_cons_zero, List.set_cons_succ]
        refine wpAnyH_take (i := 3) (v := ?_) (by simp only [List.getElem?_toArray, List.getElem?_cons_succ, List.getElem?_cons_zero]; rfl) (by kernel_rfl) (by kernel_rfl) (by kernel_rfl) (by exact fun _ _ _ h => h) (Or.inl ⟨by rfl, ?_⟩) (by assumption) ?_
        rotate_left
        · intro wq hSw
          (try dsimp only at hSw)
          go_simp
          all_goals (with_reducible rfl)
        try simp only [Act.put, List.setIfInBounds_toArray, List.set_cons_zero, List.set_cons_succ]
        refine wpAnyH_take (i := 4) (v := ?_) (by simp only [List.getElem?_toArray, List.getElem?_cons_succ, List.getElem?_cons_zero]; rfl) (by kernel_rfl) (by kernel_rfl) (by kernel_rfl) (by exact fun _ _ _ h => h) (Or.inl ⟨by rfl, ?_⟩) (by assumption) ?_
        rotate_left
        · intro wq hSw
          (try dsimp only at hSw)
          go_simp
          all_goals (with_reducible rfl)
        try simp only [Act.put, List.setIfInBounds_toArray, List.set_cons_zero, List.set_cons_succ]
        refine wpAnyH_take (i := 5) (v := ?_) (by simp only [List.getElem?_toArray, List.getElem?_cons_succ, List.getElem?_cons_zero]; rfl) (by kernel_rfl) (by kernel_rfl) (by kernel_rfl) (by exact fun _ _ _ h => h) (Or.inl ⟨by rfl, ?_⟩) (by assumption) ?_
        rotate_left
        · intro wq hSw
          (try dsimp only at hSw)
          go_simp
          all_goals (with_reducible rfl)
        try simp only [Act.put, List.setIfInBounds_toArray, List.set_cons_zero, List.set_cons_succ]
        refine wpAnyH_take (i := 6) (by simp only [List.getElem?_toArray, List.getElem?_cons_succ, List.getElem?_cons_zero]; rfl) (by kernel_rfl) (by kernel_rfl) (by kernel_rfl) (by exact fun _ _ _ h => h) (yields_ld (ad := ⟨g, 39, none⟩) (by rfl) _ rfl rfl (fun w' h => ld56 (z := .bool true) _ h.2)) (by assumption) ?_
        try simp only [Act.put, List.setIfInBounds_toArray, List.set_cons_zero, List.set_cons_succ]
        refine wpAnyH_take (i := 8) (v := ?_) (by simp only [List.getElem?_toArray, List.getElem?_cons_succ, List.getElem?_cons_zero]; rfl) (by kernel_rfl) (by kernel_rfl) (by kernel_rfl) (by exact fun _ _ _ h => h) (Or.inl ⟨by rfl, ?_⟩) (by assumption) ?_
        rotate_left
        · intro wq hSw
          (try dsimp only at hSw)
          go_simp
          all_goals (with_reducible rfl)
        try simp only [Act.put, List.setIfInBounds_toArray, List.set_cons_zero, List.set_cons_succ]
        refine wpAnyH_ready (rs := [7]) (by kernel_rfl) (by simp) ?_
        refine AllReadyH.cons (by simp only [List.getElem?_toArray, List.getElem?_cons_succ, List.getElem?_cons_zero]; rfl) (fun K hK => ?_) AllReadyH.nil
        go_simp
        refine (K3.out _ ((Away.refl [] w5).drew)).mono ?_
        rintro E y1 ⟨rfl, rfl⟩
        go_wp2_with fail
        refine hK.out _ _ (by exact T0.out) (fun hHeld => ?_)
        clear hK K
        try simp only [Act.put, List.setIfInBounds_toArray, List.set_cons_zero, List.set_cons_succ]
        refine wpAnyH_take (i := 9) (v := ?_) (by simp only [List.getElem?_toArray, List.getElem?_cons_succ, List.getElem?_cons_zero]; rfl) (by kernel_rfl) (by kernel_rfl) (by kernel_rfl) (by exact fun _ _ _ h => h) (Or.inl ⟨by rfl, ?_⟩) (by assumption) ?_
        rotate_left
        · intro wq hSw
          (try dsimp only at hSw)
          go_simp
          all_goals (with_reducible rfl)
        try simp only [Act.put, List.setIfInBounds_toArray, List.set_cons_zero, List.set_cons_succ]
        refine wpAnyH_ready (rs := [10]) (by kernel_rfl) (by simp) ?_
        refine AllReadyH.cons (by simp only [List.getElem?_toArray, List.getElem?_cons_succ, List.getElem?_cons_zero]; rfl) (fun K hK => ?_) AllReadyH.nil
        go_simp
        refine (KK.out _ ((Away.refl [] w5).drew)).mono ?_
        rintro E y2 ⟨rfl, dv', he6, hmv6, haw6⟩
        have hmv6' : Moved w5 dv dv' := hmv6
        have haw6' : Away (g :: dv.ownBlock.toList) w5 y2 := ⟨haw6.os, haw6.tape, haw6.output, haw6.size, haw6.block⟩
        have hsb : ∀ x ∈ g :: dv.ownBlock.toList, x ∈ fpE g lb lv dv ov mb := fun x hx => by simp only [List.mem_cons, Option.mem_toList] at hx; exact mem_fp.2 (by rcases hx with h | h <;> simp [h])
        have HF : Hid (TkOut w g (takeS s p) (fpE g lb lv dv ov mb) (.returned (.int .i64 (take4 s.e (begS (listS s p) p) p (freshE s p)).1)) y2) := by
          refine ⟨by rw [HTV.out], lb, lv', dv', ov', mb, mn, by rw [HTV.out]; exact he6, ?_, HFP.out dv' hmv6', HA5.out.trans (haw6'.mono hsb)⟩
          rw [HTV.out]
          exact mn_ok4 HMN.out HH2.out HCB.out.1 HLP.out.1
        have T1 : Hid (BoxP y2 g3 p po (.slice pa pn pc) ∧ y2.cell? ⟨g, 39, none⟩ = some (.pointer (some ⟨lb, 0, none⟩))) := ⟨BoxP.away HB5.out haw6' (fun hm => HG3.out _ (hsb _ hm) rfl), he6.cells.2.2.1⟩
        clear he6 hmv6 haw6 hmv6' haw6' hsb
        go_wp2_with fail
        refine hK.out _ _ (by exact T1.out) (fun hHeld => ?_)
        clear hK K
        try simp only [Act.put, List.setIfInBounds_toArray, List.set_cons_zero, List.set_cons_succ]
        refine wpAnyH_take (i := 11) (v := ?_) (by simp only [List.getElem?_toArray, List.getElem?_cons_succ, List.getElem?_cons_zero]; rfl) (by kernel_rfl) (by kernel_rfl) (by kernel_rfl) (by exact fun _ _ _ h => h) (Or.inl ⟨by rfl, ?_⟩) (by assumption) ?_
        rotate_left
        · intro wq hSw
          (try dsimp only at hSw)
          go_simp
          all_goals (with_reducible rfl)
        try simp only [Act.put, List.setIfInBounds_toArray, List.set_cons_zero, List.set_cons_succ]
        refine wpAnyH_done (by kernel_rfl) ?_ _
        go_wp2_with fail
        go_ret
        exact HF.out
      · have KK := Lib.hid (K4.out true (by constructor; (intro h; simp at h); (intro h; exact absurd (h.trans he0.symm) hee)))
        have hn1 : (e2 == e0) = false := by simpa using hee
        have hn2 : (e2 != e0) = true := by simp [hee]
        have hn3 : decide (e2 = e0) = false := by simpa using hee
        clear he0 K4
        refine wp_region_held_drew (S := fun w' => BoxP w' g3 p po (.slice pa pn pc) ∧ w'.cell? ⟨g, 39, none⟩ = some (.pointer (some ⟨lb, 0, none⟩))) (by kernel_rfl) (by exact T0.out) (fun hHeld => ?_)
        refine wpAnyH_take (i := 0) (v := ?_) (by simp only [List.getElem?_toArray, List.getElem?_cons_zero]; rfl) (by kernel_rfl) (by kernel_rfl) (by kernel_rfl) (by exact fun _ _ _ h => h) (Or.inl ⟨by rfl, ?_⟩) (by assumption) ?_
        rotate_left
        · intro wq hSw
          (try dsimp only at hSw)
          go_simp
          all_goals (with_reducible rfl)
        try simp only [Act.put, List.setIfInBounds_toArray, List.set_cons_zero, List.set_cons_succ]
        refine wpAnyH_take (i := 1) (by simp only [List.getElem?_toArray, List.getElem?_cons_succ, List.getElem?_cons_zero]; rfl) (by kernel_rfl) (by kernel_rfl) (by kernel_rfl) (by exact fun _ _ _ h => h) (yields_ld (ad := ⟨g3, 0, none⟩) (by rfl) _ rfl rfl (fun w' h => load28_run h.1 HAD.out)) (by assumption) ?_
        try simp only [Act.put, List.setIfInBounds_toArray, List.set_cons_zero, List.set_cons_succ]
        refine wpAnyH_take (i := 2) (v := ?_) (by simp only [List.getElem?_toArray, List.getElem?_cons_succ, List.getElem?_cons_zero]; rfl) (by kernel_rfl) (by kernel_rfl) (by kernel_rfl) (by exact fun _ _ _ h => h) (Or.inl ⟨by rfl, ?_⟩) (by assumption) ?_
        rotate_left
        · intro wq hSw
          (try dsimp only at hSw)
          go_simp
          all_goals (with_reducible rfl)
        try simp only [Act.put, List.setIfInBounds_toArray, List.set_cons_zero, List.set_cons_succ]
        refine wpAnyH_take (i := 3) (v := ?_) (by simp only [List.getElem?_toArray, List.getElem?_cons_succ, List.getElem?_cons_zero]; rfl) (by kernel_rfl) (by kernel_rfl) (by kernel_rfl) (by exact fun _ _ _ h => h) (Or.inl ⟨by rfl, ?_⟩) (by assumption) ?_
        rotate_left
        · intro wq hSw
          (try dsimp only at hSw)
          go_simp
          all_goals (with_reducible rfl)
        try simp only [Act.put, List.setIfInBounds_toArray, List.set_cons_zero, List.set_cons_succ]
        refine wpAnyH_take (i := 4) (v := ?_) (by simp only [List.getElem?_toArray, List.getElem?_cons_succ, List.getElem?_cons_zero]; rfl) (by kernel_rfl) (by kernel_rfl) (by kernel_rfl) (by exact fun _ _ _ h => h) (Or.inl ⟨by rfl, ?_⟩) (by assumption) ?_
        rotate_left
        · intro wq hSw
          (try dsimp only at hSw)
          go_simp
          all_goals (with_reducible rfl)
        try simp only [Act.put, List.setIfInBounds_toArray, List.set_cons_zero, List.set_cons_succ]
        refine wpAnyH_take (i := 5) (v := ?_) (by simp only [List.getElem?_toArray, List.getElem?_cons_succ, List.getElem?_cons_zero]; rfl) (by kernel_rfl) (by kernel_rfl) (by kernel_rfl) (by exact fun _ _ _ h => h) (Or.inl ⟨by rfl, ?_⟩) (by assumption) ?_
        rotate_left
        · intro wq hSw
          (try dsimp only at hSw)
          go_simp
          all_goals (with_reducible rfl)
        try simp only [Act.put, List.setIfInBounds_toArray, List.set_cons_zero, List.set_cons_succ]
        refine wpAnyH_take (i := 6) (by simp only [List.getElem?_toArray, List.getElem?_cons_succ, List.getElem?_cons_zero]; rfl) (by kernel_rfl) (by kernel_rfl) (by kernel_rfl) (by exact fun _ _ _ h => h) (yields_ld (ad := ⟨g, 39, none⟩) (by rfl) _ rfl rfl (fun w' h => ld56 (z := .bool true) _ h.2)) (by assumption) ?_
        try simp only [Act.put, List.setIfInBounds_toArray, List.set_cons_zero, List.set_cons_succ]
        refine wpAnyH_take (i := 8) (v := ?_) (by simp only [List.getElem?_toArray, List.getElem?_cons_succ, List.getElem?_cons_zero]; rfl) (by kernel_rfl) (by kernel_rfl) (by kernel_rfl) (by exact fun _ _ _ h => h) (Or.inl ⟨by rfl, ?_⟩) (by assumption) ?_
        rotate_left
        · intro wq hSw
          (try dsimp only at hSw)
          go_simp
          all_goals (with_reducible rfl)
        try simp only [Act.put, List.setIfInBounds_toArray, List.set_cons_zero, List.set_cons_succ]
        refine wpAnyH_ready (rs := [7]) (by kernel_rfl) (by simp) ?_
        refine AllReadyH.cons (by simp only [List.getElem?_toArray, List.getElem?_cons_succ, List.getElem?_cons_zero]; rfl) (fun K hK => ?_) AllReadyH.nil
        go_simp
        refine (K3.out _ ((Away.refl [] w5).drew)).mono ?_
        rintro E y1 ⟨rfl, rfl⟩
        go_wp2_with fail
        refine hK.out _ _ (by exact T0.out) (fun hHeld => ?_)
        clear hK K
        try simp only [Act.put, List.setIfInBounds_toArray, List.set_cons_zero, List.set_cons_succ]
        refine wpAnyH_take (i := 9) (v := ?_) (by simp only [List.getElem?_toArray, List.getElem?_cons_succ, List.getElem?_cons_zero]; rfl) (by kernel_rfl) (by kernel_rfl) (by kernel_rfl) (by exact fun _ _ _ h => h) (Or.inl ⟨by rfl, ?_⟩) (by assumption) ?_
        rotate_left
        · intro wq hSw
          (try dsimp only at hSw)
          go_simp
          all_goals (with_reducible rfl)
        try simp only [Act.put, List.setIfInBounds_toArray, List.set_cons_zero, List.set_cons_succ]
        refine wpAnyH_ready (rs := [10]) (by kernel_rfl) (by simp) ?_
        refine AllReadyH.cons (by simp only [List.getElem?_toArray, List.getElem?_cons_succ, List.getElem?_cons_zero]; rfl) (fun K hK => ?_) AllReadyH.nil
        go_simp
        refine (KK.out _ ((Away.refl [] w5).drew)).mono ?_
        rintro E y2 ⟨rfl, dv', he6, hmv6, haw6⟩
        have hmv6' : Moved w5 dv dv' := hmv6
        have haw6' : Away (g :: dv.ownBlock.toList) w5 y2 := ⟨haw6.os, haw6.tape, haw6.output, haw6.size, haw6.block⟩
        have hsb : ∀ x ∈ g :: dv.ownBlock.toList, x ∈ fpE g lb lv dv ov mb := fun x hx => by simp only [List.mem_cons, Option.mem_toList] at hx; exact mem_fp.2 (by rcases hx with h | h <;> simp [h])
        have HF : Hid (TkOut w g (takeS s p) (fpE g lb lv dv ov mb) (.returned (.int .i64 (take4 s.e (begS (listS s p) p) p (freshE s p)).1)) y2) := by
          refine ⟨by rw [HTV.out], lb, lv', dv', ov', mb, mn, by rw [HTV.out]; exact he6, ?_, HFP.out dv' hmv6', HA5.out.trans (haw6'.mono hsb)⟩
          rw [HTV.out]
          exact mn_ok4 HMN.out HH2.out HCB.out.1 HLP.out.1
        have T1 : Hid (BoxP y2 g3 p po (.slice pa pn pc) ∧ y2.cell? ⟨g, 39, none⟩ = some (.pointer (some ⟨lb, 0, none⟩))) := ⟨BoxP.away HB5.out haw6' (fun hm => HG3.out _ (hsb _ hm) rfl), he6.cells.2.2.1⟩
        clear he6 hmv6 haw6 hmv6' haw6' hsb
        go_wp2_with fail
        refine hK.out _ _ (by exact T1.out) (fun hHeld => ?_)
        clear hK K
        try simp only [Act.put, List.setIfInBounds_toArray, List.set_cons_zero, List.set_cons_succ]
        refine wpAnyH_take (i := 11) (v := ?_) (by simp only [List.getElem?_toArray, List.getElem?_cons_succ, List.getElem?_cons_zero]; rfl) (by kernel_rfl) (by kernel_rfl) (by kernel_rfl) (by exact fun _ _ _ h => h) (Or.inl ⟨by rfl, ?_⟩) (by assumption) ?_
        rotate_left
        · intro wq hSw
          (try dsimp only at hSw)
          go_simp
          all_goals (with_reducible rfl)
        try simp only [Act.put, List.setIfInBounds_toArray, List.set_cons_zero, List.set_cons_succ]
        refine wpAnyH_done (by kernel_rfl) ?_ _
        go_wp2_with fail
        go_ret
        exact HF.out
  · have ha4' : Away [] w3 w4 := ⟨ha4.os, ha4.tape, ha4.output, ha4.size, ha4.block⟩
    have HA4 := Lib.hid ha4'
    have S1 : Hid (BoxP w4 g3 p po (.slice pa pn pc) ∧ w4.cell? ⟨g, 39, none⟩ = some (.pointer (some ⟨lb, 0, none⟩))) := ⟨BoxP.on HB3.out ha4', Away.cell ha4' (by simp) c39⟩
    have HT2 : Hid (takeS s p = (4, s)) := by show _ = _; rw [HTE.out, HPN.out, if_pos hno]
    clear ha4 ha4' hno
    go_wp2_with fail
    refine hK.out _ _ (by exact S1.out) (fun hHeld => ?_)
    clear hK K
    try simp only [Act.put, List.setIfInBounds_toArray, List.set_cons_zero, List.set_cons_succ]
    refine wpAnyH_take (i := 12) (v := ?_) (by simp only [List.getElem?_toArray, List.getElem?_cons_succ, List.getElem?_cons_zero]; rfl) (by kernel_rfl) (by kernel_rfl) (by kernel_rfl) (by exact fun _ _ _ h => h) (Or.inl ⟨by rfl, ?_⟩) (by assumption) ?_
    rotate_left
    · intro wq hSw
      (try dsimp only at hSw)
      go_simp
      all_goals (with_reducible rfl)
    try simp only [Act.put, List.setIfInBounds_toArray, List.set_cons_zero, List.set_cons_succ]
    refine wpAnyH_take (i := 13) (v := ?_) (by simp only [List.getElem?_toArray, List.getElem?_cons_succ, List.getElem?_cons_zero]; rfl) (by kernel_rfl) (by kernel_rfl) (by kernel_rfl) (by exact fun _ _ _ h => h) (Or.inl ⟨by rfl, ?_⟩) (by assumption) ?_
    rotate_left
    · intro wq hSw
      (try dsimp only at hSw)
      go_simp
      all_goals (with_reducible rfl)
    try simp only [Act.put, List.setIfInBounds_toArray, List.set_cons_zero, List.set_cons_succ]
    refine wpAnyH_take (i := 14) (v := ?_) (by simp only [List.getElem?_toArray, List.getElem?_cons_succ, List.getElem?_cons_zero]; rfl) (by kernel_rfl) (by kernel_rfl) (by kernel_rfl) (by exact fun _ _ _ h => h) (Or.inl ⟨by rfl, ?_⟩) (by assumption) ?_
    rotate_left
    · intro wq hSw
      (try dsimp only at hSw)
      go_simp
      all_goals (with_reducible rfl)
    try simp only [Act.put, List.setIfInBounds_toArray, List.set_cons_zero, List.set_cons_succ]
    refine wpAnyH_take (i := 15) (v := ?_) (by simp only [List.getElem?_toArray, List.getElem?_cons_succ, List.getElem?_cons_zero]; rfl) (by kernel_rfl) (by kernel_rfl) (by kernel_rfl) (by exact fun _ _ _ h => h) (Or.inl ⟨by rfl, ?_⟩) (by assumption) ?_
    rotate_left
    · intro wq hSw
      (try dsimp only at hSw)
      go_simp
      all_goals (with_reducible rfl)
    try simp only [Act.put, List.setIfInBounds_toArray, List.set_cons_zero, List.set_cons_succ]
    refine wpAnyH_take (i := 16) (v := ?_) (by simp only [List.getElem?_toArray, List.getElem?_cons_succ, List.getElem?_cons_zero]; rfl) (by kernel_rfl) (by kernel_rfl) (by kernel_rfl) (by exact fun _ _ _ h => h) (Or.inl ⟨by rfl, ?_⟩) (by assumption) ?_
    rotate_left
    · intro wq hSw
      (try dsimp only at hSw)
      go_simp
      all_goals (with_reducible rfl)
    try simp only [Act.put, List.setIfInBounds_toArray, List.set_cons_zero, List.set_cons_succ]
    refine wpAnyH_done (by kernel_rfl) ?_ _
    go_wp2_with fail
    go_ret
    exact ⟨ret_int (by rw [HT2.out]), lb, lv, dv, ov, mb, mn, by rw [HT2.out]; exact HE.out.on HA4.out, by rw [HT2.out]; exact HMN.out, fun x hx => .inl hx, (HA3.out.trans HA4.out).mono (by simp)⟩
end
end Go.Proofs.YtbkeilboneaejaaGreatDoor
