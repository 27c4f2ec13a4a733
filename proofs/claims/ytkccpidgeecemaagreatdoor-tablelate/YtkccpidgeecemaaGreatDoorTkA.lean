/-
  take6.
-/
import Derived.Test.YtkccpidgeecemaaGreatDoorLay
import Derived.Test.YtkccpidgeecemaaGreatDoorHSize
import Derived.Test.YtkccpidgeecemaaGreatDoorEfA
namespace Go.Proofs.YtkccpidgeecemaaGreatDoor
open Go.ChangeShapes Go.WideShapes Go.ChangeAt Go.RowKit
open S6 (wp_region_cls quiet_val quiet_call quiet_ld ld3 ld4 ld5 ld25 ld26 load28_run load24m_run)
set_option linter.unusedVariables false
set_option linter.unusedSimpArgs false
set_option maxRecDepth 20000
structure LayIn (w : World) (g : Nat) (s : Es) (dv : Value) (p : Pk) (po pd r : Value) (fr : List H.Sp) : Prop where
  pk : Pkt w p po pd
  pl : Plc p
  lst : H.Lst w r fr
  fin : FrIn p fr
  fl : fr.length ≤ 65535
  rb : ∀ k, r.ownBlock = some k → k ≠ g ∧ dv.ownBlock ≠ some k
  out : Outs p po pd (g :: dv.ownBlock.toList)
  by_ : Bytes s.d
  dl : s.d.length ≤ 65535
  h0 : 0 ≤ s.h
  h1 : s.h + H.lenP fr ≤ 65535
theorem LayIn.on {w w' : World} {g : Nat} {s : Es} {dv : Value} {p : Pk} {po pd r : Value} {fr : List H.Sp} (h : LayIn w g s dv p po pd r fr) (hw : Away [] w w') : LayIn w' g s dv p po pd r fr :=
  ⟨h.pk.on hw, h.pl, h.lst.on hw, h.fin, h.fl, h.rb, h.out, h.by_, h.dl, h.h0, h.h1⟩
theorem LayIn.lay {w : World} {g : Nat} {s : Es} {lb : Nat} {lv dv ov : Value} {mb mn : Nat} {p : Pk} {po pd r : Value} {fr : List H.Sp} (h : LayIn w g s dv p po pd r fr) (he : EntG w g s lb lv dv ov mb mn) :
    Calls Tryz.prog 90 #[.pointer (some ⟨g, 0, none⟩), .agg (csP p po pd), r] w (LayOut w g s p fr lb lv dv ov mb mn) := lay_c he p po pd h.pk h.pl r fr h.lst h.fin h.fl h.rb h.out h.by_ h.dl h.h0 h.h1
theorem end_nat {p : Pk} (h : Plc p) : ((endP p).toNat : Int) = p.off + p.d.length ∧ (endP p).toNat ≤ 65535 := by have h1 := h.o0; have h2 := h.tt; unfold endP; omega
theorem lays_len {s : Es} {p : Pk} {fr : List H.Sp} (hq : Plc p) (hf : FrIn p fr) : (layS s p fr).d.length = max s.d.length (endP p).toNat := by
  have := end_nat hq
  show (fr.foldl (laySp p.off p.d) (grow s.d (endP p).toNat)).length = _
  rw [layd_len hq fr _ hf (by rw [grow_len]; unfold endP at *; omega), grow_len]
theorem lays_bytes {s : Es} {p : Pk} {fr : List H.Sp} (hp : Bytes p.d) (hb : Bytes s.d) : Bytes (layS s p fr).d := layd_bytes hp _ _ (grow_bytes hb _)
def Tk4Out (w : World) (g : Nat) (q : Int × Es) (lb : Nat) (lv dv ov : Value) (mb mn : Nat) (E : Ending) (w' : World) : Prop :=
  E = .returned (.int .i64 q.1) ∧ ∃ dv', EntG w' g q.2 lb lv dv' ov mb mn ∧ Moved w dv dv' ∧ Away (g :: dv.ownBlock.toList) w w'
section
variable {w : World} {g : Nat} {s : Es} {lb : Nat} {lv dv ov : Value} {mb mn : Nat}
set_option maxHeartbeats 8000000 in
theorem take4_c (h : EntG w g s lb lv dv ov mb mn) (p : Pk) (po pd r : Value) (fr : List H.Sp) (hi : LayIn w g s dv p po pd r fr) (e0 : Int) (b : Bool) (hb : b = false ↔ s.e = e0) (hhd : 0 ≤ s.hd ∧ s.hd ≤ 60) (he : -1 ≤ s.e ∧ s.e ≤ 65535) :
    Calls Tryz.prog 83 #[.pointer (some ⟨g, 0, none⟩), .agg (csP p po pd), r, .bool b] w (Tk4Out w g (take4 e0 s p fr) lb lv dv ov mb mn) := by
  have HE := Lib.hid h
  have HI := Lib.hid hi
  have HAD := Lib.hid hi.pk.wf.ad
  have HT : Hid (take4 e0 s p fr = if long4 s = true then (4, s) else if agrP (layS s p fr) p = false then (4, layS s p fr) else if fr = [] ∧ s.e = e0 then (3, layS s p fr) else (progN s, layS s p fr)) := rfl
  have HLA : Hid (agrP (layS s p fr) p = agrP (layS s p fr) p) := rfl
  have HPR : Hid (progN (layS s p fr) = progN s) := rfl
  have HDL : Hid (p.off + p.d.length ≤ (layS s p fr).d.length ∧ (layS s p fr).d.length ≤ 65535 ∧ Bytes (layS s p fr).d) := by
    have h1 := lays_len (s := s) hi.pl hi.fin
    have h2 := end_nat hi.pl
    have h3 := hi.dl
    exact ⟨by rw [h1]; omega, by rw [h1]; omega, lays_bytes hi.pk.wf.d hi.by_⟩
  have K1 : Hid (∀ W, Away [] w W → Calls Tryz.prog 94 #[.pointer (some ⟨g, 0, none⟩)] W fun E w' => E = .returned (.bool (long4 s)) ∧ Away [] W w') := fun W hW => tooLong_c (h.on hW) hhd he
  have K2 : Hid (∀ W, Away [] w W → Calls Tryz.prog 90 #[.pointer (some ⟨g, 0, none⟩), .agg (csP p po pd), r] W (LayOut W g s p fr lb lv dv ov mb mn)) := fun W hW => (hi.on hW).lay (h.on hW)
  have HB := Lib.hid hb
  obtain ⟨ra, rc, hre, -, -, -, -⟩ := hi.lst.row (by have := hi.fl; omega) (fun x hx => by have h1 := hi.fin x hx; have h2 := hi.pl.o0; have h3 := hi.pl.tt; unfold endP at h1; exact ⟨⟨by omega, by omega⟩, ⟨by omega, by omega⟩⟩)
  obtain ⟨nf, hnf⟩ : ∃ nf, nf = fr.length := ⟨_, rfl⟩
  rw [← hnf] at hre
  have HNF : Hid (fr = [] ↔ nf = 0) := by rw [hnf]; exact ⟨fun e => by rw [e]; rfl, List.eq_nil_of_length_eq_zero⟩
  have HPB := Lib.hid hi.pk.wf.d
  generalize hag : agrP (layS s p fr) p = ag at *
  generalize long4 s = lg at *
  subst hre
  clear h hi hb hhd he hnf
  cases lg with
  | true =>
    go_enter Tryz.func83, Tryz.ntmps83
    go_wp2_with (refine wpList_box28 rfl _ rfl p _ _ rfl ?_; refine Hid.out ?_)
    refine Lib.hid ?_
    intro g5 w5 hg5 hb5 haw5
    have HA5 := Lib.hid haw5
    clear hb5 haw5
    go_wp2_with fail
    refine (K1.out w5 HA5.out).mono ?_
    rintro E w6 ⟨rfl, haw6⟩
    have HA6 := Lib.hid (HA5.out.trans haw6)
    clear haw6
    go_wp2_with fail
    go_ret
    exact ⟨ret_int (by rw [HT.out]; rfl), dv, by rw [HT.out]; exact HE.out.on HA6.out, Moved.refl _ _, HA6.out.mono (by simp)⟩
  | false =>
    go_enter Tryz.func83, Tryz.ntmps83
    go_wp2_with (refine wpList_box28 rfl _ rfl p _ _ rfl ?_; refine Hid.out ?_)
    refine Lib.hid ?_
    intro g5 w5 hg5 hb5 haw5
    have HB5 := Lib.hid hb5
    have HA5 := Lib.hid haw5
    have HG5 : Hid (g5 ∉ g :: dv.ownBlock.toList) := fun hm => by
      simp at hm
      rcases hm with rfl | hm
      · have := lt_of_block HE.out.blk; omega
      · have := HE.out.da.lt _ hm; omega
    clear hb5 haw5
    go_wp2_with fail
    refine (K1.out w5 HA5.out).mono ?_
    rintro E w6 ⟨rfl, haw6⟩
    have HA6 := Lib.hid (HA5.out.trans haw6)
    have HB6 := Lib.hid (HB5.out.on haw6)
    have K2' := Lib.hid (K2.out w6 HA6.out)
    have HE6 := Lib.hid (HE.out.on HA6.out)
    have HI6 := Lib.hid (HI.out.on HA6.out)
    clear haw6
    go_wp2_with (refine wpList_load28 rfl _ rfl _ rfl p _ _ (by exact HB6.out) HAD.out ?_)
    refine K2'.out.mono ?_
    rintro E w7 ⟨rfl, dv', he7, hm7, haw7⟩
    have HE7 := Lib.hid he7
    have HM7 : Hid (Moved w dv dv') := fun k hk => by
      rcases hm7 k hk with h1 | h1
      · exact .inl h1
      · exact .inr (by have := HA6.out.size; omega)
    have HA7 : Hid (Away (g :: dv.ownBlock.toList) w w7) := (HA6.out.mono (by simp)).trans haw7
    have HB7 := Lib.hid (HB6.out.away haw7 HG5.out)
    have HP7 := Lib.hid (HI6.out.pk.away haw7 HI.out.out)
    have K3 : Hid (Calls Tryz.prog 93 #[.pointer (some ⟨g, 0, none⟩), .agg (csP p po pd)] w7 fun E w' => E = .returned (.bool ag) ∧ Away [] w7 w') := by
      rw [← hag]
      exact agrees_c he7 p po pd HP7.out HI.out.pl (by have := HDL.out.1; omega) HDL.out.2.2 HDL.out.2.1
    clear he7 hm7 haw7 hag
    cases ag with
    | false =>
      go_wp2_with (refine wpList_load28 rfl _ rfl _ rfl p _ _ (by exact HB7.out) HAD.out ?_)
      refine K3.out.mono ?_
      rintro E w8 ⟨rfl, haw8⟩
      have HA8 := Lib.hid haw8
      clear haw8
      go_wp2_with fail
      go_ret
      exact ⟨ret_int (by rw [HT.out]; rfl), dv', by rw [HT.out]; exact HE7.out.on HA8.out, HM7.out, HA7.out.next HA8.out (by simp)⟩
    | true =>
      go_wp2_with (refine wpList_load28 rfl _ rfl _ rfl p _ _ (by exact HB7.out) HAD.out ?_)
      refine K3.out.mono ?_
      rintro E w8 ⟨rfl, haw8⟩
      have HE8 := Lib.hid (HE7.out.on haw8)
      have HA8 : Hid (Away (g :: dv.ownBlock.toList) w w8) := HA7.out.next haw8 (by simp)
      have K4 := Lib.hid (progress_c HE8.out)
      rw [HPR.out] at K4
      clear haw8
      by_cases h0 : nf = 0
      · have h0' : ((nf : Int) == 0) = true := by simp [h0]
        cases b with
        | false =>
          have HT2 : Hid (take4 e0 s p fr = (3, layS s p fr)) := by show _ = _; rw [HT.out, if_neg (by simp), if_neg (by simp), if_pos ⟨HNF.out.2 h0, HB.out.1 rfl⟩]
          go_wp2_with fail
          go_ret
          exact ⟨ret_int (by rw [HT2.out]), dv', by rw [HT2.out]; exact HE8.out, HM7.out, HA8.out⟩
        | true =>
          have HT2 : Hid (take4 e0 s p fr = (progN s, layS s p fr)) := by show _ = _; rw [HT.out, if_neg (by simp), if_neg (by simp), if_neg (fun hc => by have := HB.out.2 hc.2; simp at this)]
          go_wp2_with fail
          refine K4.out.mono ?_
          rintro E w8 ⟨rfl, rfl⟩
          go_wp2_with fail
          go_ret
          exact ⟨ret_int (by rw [HT2.out]), dv', by rw [HT2.out]; exact HE8.out, HM7.out, HA8.out⟩
      · have h0' : ((nf : Int) == 0) = false := by simp [h0]
        have HT2 : Hid (take4 e0 s p fr = (progN s, layS s p fr)) := by show _ = _; rw [HT.out, if_neg (by simp), if_neg (by simp), if_neg (fun hc => h0 (HNF.out.1 hc.1))]
        go_wp2_with fail
        refine K4.out.mono ?_
        rintro E w8 ⟨rfl, rfl⟩
        go_wp2_with fail
        go_ret
        exact ⟨ret_int (by rw [HT2.out]), dv', by rw [HT2.out]; exact HE8.out, HM7.out, HA8.out⟩
end
theorem quiet_look {o : Oper} {a : Act} {C : World → Prop} {K : Act → Prop} {v : Value} (m x : Operand) (ho : o.op = .lookup 99 m x false) (b : Nat) (k : Int) (hm : a.eval m = .map (some b)) (hx : a.eval x = .int .i64 k) (hC : ∀ w, C w → (Instr.lookup 99 (.map (some b)) (.int .i64 k) false).run Tryz.prog w = .ok v w) (hk : K (a.put o.dst v)) : o.quiet Tryz.prog a C K := by
  refine ⟨v, fun w hw => ?_, hk⟩
  unfold Oper.quietAt execOp
  simp only [ho, hm, hx, Sem.run_bind, hC w hw, Result.andThen_ok]
  exact ⟨rfl, rfl⟩
theorem ld58 {w : World} {ad : Addr} {z : Option Nat} (h : w.cell? ad = some (.map z)) : (Instr.loadAt 99 (.pointer (some ad))).run Tryz.prog w = .ok (.map z) w := by
  simp [go_sem, Instr.loadAt, Instr.sureAddr, h]
theorem run_build85 (a : Int) (m : Bool) (w : World) : (Instr.build 133 #[(0, .int .i64 a), (1, .bool m)]).run Tryz.prog w = .ok (.agg #[.int .i64 a, .bool m]) w := by kernel_rfl
theorem quiet_build {o : Oper} {a : Act} {C : World → Prop} {K : Act → Prop} {ty : TypeId} {parts : Array (Nat × Operand)} {v : Value} (ho : o.op = .build ty parts) (vs : Array (Nat × Value)) (hvs : (parts.map fun x => (x.1, a.eval x.2)) = vs)
    (hr : ∀ w, (Instr.build ty vs).run Tryz.prog w = .ok v w) (hk : K (a.put o.dst v)) : o.quiet Tryz.prog a C K :=
  quiet_val v (fun w => by
    unfold execOp
    simp only [ho, hvs, Sem.run_bind, hr w, Result.andThen_ok, Sem.run_pure]) hk
theorem guard85 : Tryz.prog.eqGuardType Tryz.prog.depth 133 = false := by kernel_rfl
theorem eq85 (a b : Int) (m n : Bool) (w : World) : (Op.equalIn 10000 133 (.agg #[.int .i64 a, .bool m]) (.agg #[.int .i64 b, .bool n])).run Tryz.prog w = .ok (decide (a = b ∧ m = n)) w := by
  by_cases h1 : a = b
  · cases m <;> cases n <;> simp [go_sem, h1]
  · simp [go_sem, h1]
theorem quiet_eq85 {o : Oper} {a : Act} {C : World → Prop} {K : Act → Prop} (x y : Operand) (ho : o.op = .binOp .eql 133 x y 133) (c1 c2 : Array Value) (hx : a.eval x = .agg c1) (hy : a.eval y = .agg c2) (b : Bool) (hq : ∀ w, (Op.equalIn 10000 133 (.agg c1) (.agg c2)).run Tryz.prog w = .ok b w) (hk : K (a.put o.dst (.bool b))) : o.quiet Tryz.prog a C K :=
  quiet_val (.bool b) (fun w => by
    have hg := guard85
    unfold execOp
    simp only [ho, hx, hy]
    simp [go_sem, hq, hg]) hk
theorem step_mapUpd {ops : Array Oper} {o : Oper} {a : Act} {w w' : World} {K : Act → World → Prop} {Q : Exit → Act → World → Prop} {E : Prop} (hg : o.guard = none) (m x v : Operand) (ho : o.op = .mapUpdate 99 m x v) (vm vx vv : Value) (hm : a.eval m = vm) (hx : a.eval x = vx) (hv : a.eval v = vv)
    (hr : (Instr.mapUpdate 99 vm vx vv).run Tryz.prog w = .ok () w') (hK : K (a.put o.dst undef) w') : if Region.wanted o (yielded ops a.tmps) = true then Oper.wp Tryz.prog o a w K Q else E := by
  have hw : Region.wanted o (yielded ops a.tmps) = true := by simp [Region.wanted, hg]
  rw [if_pos hw]
  unfold Oper.wp execOp
  simp only [ho, hm, hx, hv, Sem.run_bind, hr, Result.andThen_ok, Sem.run_pure]
  exact hK
def Tk6Out (w : World) (g : Nat) (q : Int × Es) (lb : Nat) (lv dv ov : Value) (mb mn : Nat) (hh : Prop) (E : Ending) (w' : World) : Prop :=
  E = .returned (.int .i64 q.1) ∧ ∃ dv' mn', EntG w' g q.2 lb lv dv' ov mb mn' ∧ (mn' = mn ∨ (mn' = mn + 1 ∧ hh)) ∧ Moved w dv dv' ∧ Away (g :: mb :: dv.ownBlock.toList) w w'
section
variable {w : World} {g : Nat} {s : Es} {lb : Nat} {lv dv ov : Value} {mb mn : Nat}
theorem EntG.piece {w w' : World} {g : Nat} {s : Es} {lb : Nat} {lv dv ov : Value} {mb mn mn' : Nat} {f : Int → Int × Bool} (h : EntG w g s lb lv dv ov mb mn) (hw : Away [mb] w w') (hm : MapP w' mb mn' f) : EntG w' g { s with ps := f } lb lv dv ov mb mn' := by
  have ap := h.ap
  refine ⟨hw.keep (by simpa using ap.gm) h.blk, h.nb, h.kad, h.fad, h.hl.away hw (by simpa using ap.lm) (fun k hk => by simp; intro e; subst e; exact ap.mv hk), h.da.away hw (fun k hk => by simp; intro e; subst e; exact ap.md hk), h.oo.away hw (fun k hk => by simp; intro e; subst e; exact ap.mo hk), hm, ap⟩
set_option maxHeartbeats 8000000 in
theorem take6_yes (h : EntG w g s lb lv dv ov mb mn) (p : Pk) (po pd r : Value) (fr : List H.Sp) (hi : LayIn w g s dv p po pd r fr) (hsz : H.sizeP fr = p.d.length) (hmn : mn ≤ 65535) (hob : Outs p po pd [mb]) (hrm : ∀ k, r.ownBlock = some k → k ≠ mb) :
    Calls Tryz.prog 82 #[.pointer (some ⟨g, 0, none⟩), .agg (csP p po pd), r] w (Tk6Out w g (take6 s p fr) lb lv dv ov mb mn (H.sizeP fr = p.d.length)) := by
  have HE := Lib.hid h
  have HI := Lib.hid hi
  have HAD := Lib.hid hi.pk.wf.ad
  have HT : Hid (take6 s p fr = (progN s, pieceS (layS s p fr) p)) := by show _ = _; unfold take6; rw [if_pos hsz]
  have HPR : Hid (progN (pieceS (layS s p fr) p) = progN s) := rfl
  have HOFF : Hid (i64ok p.off) := hi.pk.wf.off
  have HSZ0 := Lib.hid hsz
  have HMN := Lib.hid hmn
  have HOB := Lib.hid hob
  obtain ⟨ra, rc, hre, -, -, hrow, -⟩ := hi.lst.row (by have := hi.fl; omega) (fun x hx => by have h1 := hi.fin x hx; have h2 := hi.pl.o0; have h3 := hi.pl.tt; unfold endP at h1; exact ⟨⟨by omega, by omega⟩, ⟨by omega, by omega⟩⟩)
  obtain ⟨pa, pc, hpd, -, -, -⟩ := hi.pk.d
  obtain ⟨pn, hpn⟩ : ∃ pn, pn = p.d.length := ⟨_, rfl⟩
  rw [← hpn] at hpd
  have HSZ : Hid (H.sizeP fr = (pn : Int)) := by show _ = _; rw [hsz, hpn]
  have KS : Hid (∀ W, Away [] w W → Calls Tryz.prog 89 #[.slice ra fr.length rc] W fun E w' => E = .returned (.int .i64 (pn : Int)) ∧ Away [] W w') := fun W hW => by
    have := H.size_c ra fr fr.length rc W rfl (hrow.on hW)
    rw [HSZ.out] at this
    exact this
  have K2 : Hid (∀ W, Away [] w W → Calls Tryz.prog 90 #[.pointer (some ⟨g, 0, none⟩), .agg (csP p po pd), r] W (LayOut W g s p fr lb lv dv ov mb mn)) := fun W hW => (hi.on hW).lay (h.on hW)
  obtain ⟨nf, hnf⟩ : ∃ nf, nf = fr.length := ⟨_, rfl⟩
  rw [← hnf] at hre KS
  subst hre
  subst hpd
  clear h hi hsz hmn hob hrow hpn hnf
  go_enter Tryz.func82, Tryz.ntmps82
  go_wp2_with (refine wpList_box28 rfl _ rfl p _ _ rfl ?_; refine Hid.out ?_)
  refine Lib.hid ?_
  intro g4 w4 hg4 hb4 haw4
  have HB4 := Lib.hid hb4
  have HA4 := Lib.hid haw4
  have HG4 : Hid (g4 ∉ g :: mb :: dv.ownBlock.toList) := fun hm => by
    simp at hm
    rcases hm with rfl | rfl | hm
    · have := lt_of_block HE.out.blk; omega
    · have := HE.out.mp.lt; omega
    · have := HE.out.da.lt _ hm; omega
  clear hb4 haw4
  have HC : Hid (Away [] w4 w4.drew) := (Away.refl _ _).drew
  have KS4 : Hid (∀ W, Away [] w4 W → Calls Tryz.prog 89 #[.slice ra nf rc] W fun E w' => E = .returned (.int .i64 (pn : Int)) ∧ Away [] w4 w') := fun W hW => (KS.out W (HA4.out.trans hW)).mono (fun E w' h => ⟨h.1, hW.trans h.2⟩)
  go_wp2_with fail
  refine wp_region_cls (C := fun w' => Away [] w4 w') (by kernel_rfl) (by kernel_rfl) HC.out ?_
  go_big_quiet_want; (refine quiet_val ?_ ?_ ?_; rotate_left; (intro w; go_simp; rfl); go_simp; go_big_quiet_on)
  go_big_quiet_want; refine quiet_call 89 #[.slice ra nf rc] (.int .i64 (pn : Int)) ?_ KS4.out ?_
  · intro w; go_simp; all_goals (with_reducible rfl)
  go_simp; go_big_quiet_on
  go_big_quiet_want; (refine quiet_val ?_ ?_ ?_; rotate_left; (intro w; go_simp; rfl); go_simp; go_big_quiet_on)
  go_big_quiet_want; refine quiet_ld _ rfl (ad := ⟨g4, 45, none⟩) rfl (fun w' h => ld26 ((HB4.out.on h).cells HAD.out).d) ?_; go_simp; go_big_quiet_on
  go_big_quiet_want; (refine quiet_val ?_ ?_ ?_; rotate_left; (intro w; go_simp; rfl); go_simp; go_big_quiet_on)
  go_big_quiet_want; (refine quiet_val ?_ ?_ ?_; rotate_left; (intro w; go_simp; rfl); go_simp; go_big_quiet_on)
  refine wpQuiet_nil ?_
  intro V hV
  replace HB4 := Lib.hid (HB4.out.on hV)
  replace HA4 := Lib.hid (HA4.out.trans hV)
  have K2' := Lib.hid (K2.out V HA4.out)
  have HP6 := Lib.hid (HI.out.pk.on HA4.out)
  clear hV HC KS4 KS K2
  go_wp2_with (refine wpList_load28 rfl _ rfl _ rfl p _ _ (by exact HB4.out) HAD.out ?_)
  refine K2'.out.mono ?_
  rintro E w7 ⟨rfl, dv', he7, hm7, haw7⟩
  have HE7 := Lib.hid he7
  have HM7 : Hid (Moved w dv dv') := fun k hk => by
    rcases hm7 k hk with h1 | h1
    · exact .inl h1
    · exact .inr (by have := HA4.out.size; omega)
  have HA7 : Hid (Away (g :: dv.ownBlock.toList) w w7) := (HA4.out.mono (by simp)).trans haw7
  have HB7 := Lib.hid (HB4.out.away haw7 (fun hm => HG4.out (by simp at hm; simp; rcases hm with h | h; exact .inl h; exact .inr (.inr h))))
  have HP7 := Lib.hid (HP6.out.away haw7 HI.out.out)
  have KE : Hid (∀ W, Away [] w7 W → Calls Tryz.prog 91 #[.agg (csP p po (.slice pa pn pc))] W fun E w' => E = .returned (.int .i64 (endP p)) ∧ Away [] W w') := fun W hW => endOf_c p po _ W (HP7.out.on hW) HI.out.pl
  have HPS : Hid (pieceS (layS s p fr) p = { layS s p fr with ps := fun o => if o = p.off then (endP p, p.more) else (layS s p fr).ps o }) := rfl
  have hbd := run_build85 (endP p) p.more
  generalize endP p = ep at *
  clear he7 hm7 haw7 K2'
  have S0 : Hid (BoxP w7.drew g4 p po (.slice pa pn pc) ∧ w7.drew.cell? ⟨g, 90, none⟩ = some (.map (some mb))) := ⟨HB7.out, HE7.out.cells.2.2.2.2.2.2.2⟩
  go_wp2_with fail
  refine wp_region_held_drew (S := fun w' => BoxP w' g4 p po (.slice pa pn pc) ∧ w'.cell? ⟨g, 90, none⟩ = some (.map (some mb))) (by kernel_rfl) (by exact S0.out) (fun hHeld => ?_)
  refine tkA 0 (v := ?_) (by simp only [gA, g1, g0]; rfl) (by kernel_rfl) (by exact fun _ _ _ h => h) (Or.inl ⟨by rfl, ?_⟩) (by assumption) ?_; rotate_left; focus (intro wq hSw; (try dsimp only at hSw); go_simp; all_goals (with_reducible rfl))
  try simp only [Act.put, sA, s0, s1]
  refine tkA 1 (v := ?_) (by simp only [gA, g1, g0]; rfl) (by kernel_rfl) (by exact fun _ _ _ h => h) (Or.inl ⟨by rfl, ?_⟩) (by assumption) ?_; rotate_left; focus (intro wq hSw; (try dsimp only at hSw); go_simp; all_goals (with_reducible rfl))
  try simp only [Act.put, sA, s0, s1]
  refine tkA 2 (v := ?_) (by simp only [gA, g1, g0]; rfl) (by kernel_rfl) (by exact fun _ _ _ h => h) (Or.inl ⟨by rfl, ?_⟩) (by assumption) ?_; rotate_left; focus (intro wq hSw; (try dsimp only at hSw); go_simp; all_goals (with_reducible rfl))
  try simp only [Act.put, sA, s0, s1]
  refine tkA 3 (by simp only [gA, g1, g0]; rfl) (by kernel_rfl) (by exact fun _ _ _ h => h) (yields_ld (ad := ⟨g, 90, none⟩) (by rfl) _ rfl rfl (fun w' h => ld58 h.2)) (by assumption) ?_; try simp only [Act.put, sA, s0, s1]
  refine tkA 4 (v := ?_) (by simp only [gA, g1, g0]; rfl) (by kernel_rfl) (by exact fun _ _ _ h => h) (Or.inl ⟨by rfl, ?_⟩) (by assumption) ?_; rotate_left; focus (intro wq hSw; (try dsimp only at hSw); go_simp; all_goals (with_reducible rfl))
  try simp only [Act.put, sA, s0, s1]
  refine tkA 5 (by simp only [gA, g1, g0]; rfl) (by kernel_rfl) (by exact fun _ _ _ h => h) (yields_ld (ad := ⟨g4, 43, none⟩) (by rfl) _ rfl rfl (fun w' h => ld3 (BoxP.cells h.1 HAD.out).off)) (by assumption) ?_; try simp only [Act.put, sA, s0, s1]
  refine tkA 6 (by simp only [gA, g1, g0]; rfl) (by kernel_rfl) (by exact fun _ _ _ h => h) (yields_ld (ad := ⟨g4, 0, none⟩) (by rfl) _ rfl rfl (fun w' h => load28_run h.1 HAD.out)) (by assumption) ?_; try simp only [Act.put, sA, s0, s1]
  refine tkA 8 (v := ?_) (by simp only [gA, g1, g0]; rfl) (by kernel_rfl) (by exact fun _ _ _ h => h) (Or.inl ⟨by rfl, ?_⟩) (by assumption) ?_; rotate_left; focus (intro wq hSw; (try dsimp only at hSw); go_simp; all_goals (with_reducible rfl))
  try simp only [Act.put, sA, s0, s1]
  refine tkA 9 (by simp only [gA, g1, g0]; rfl) (by kernel_rfl) (by exact fun _ _ _ h => h) (yields_ld (ad := ⟨g4, 41, none⟩) (by rfl) _ rfl rfl (fun w' h => ld4 (BoxP.cells h.1 HAD.out).more)) (by assumption) ?_; try simp only [Act.put, sA, s0, s1]
  refine wpAnyH_ready (rs := [7]) (by kernel_rfl) (by simp) ?_
  refine AllReadyH.cons (by simp only [gA, g1, g0]; rfl) (fun K hK => ?_) AllReadyH.nil
  go_simp
  refine (KE.out _ ((Away.refl [] w7).drew)).mono ?_
  rintro E y1 ⟨rfl, ha1⟩
  have ha1' : Away [] w7 y1 := ⟨ha1.os, ha1.tape, ha1.output, ha1.size, ha1.block⟩
  replace HE7 := Lib.hid (HE7.out.on ha1')
  replace HA7 := Lib.hid (HA7.out.next ha1' (by simp))
  have HBy := Lib.hid (HB7.out.on ha1')
  have S1 : Hid (BoxP y1 g4 p po (.slice pa pn pc) ∧ y1.cell? ⟨g, 90, none⟩ = some (.map (some mb))) := ⟨HBy.out, HE7.out.cells.2.2.2.2.2.2.2⟩
  clear ha1 ha1'
  go_wp2_with fail
  refine hK.out _ _ (by exact S1.out) (fun hHeld => ?_)
  clear hK K
  try simp only [Act.put, sA, s0, s1]
  refine tkA 10 (by simp only [gA, g1, g0]; rfl) (by kernel_rfl) (by exact fun _ _ _ h => h) (yields_build (by rfl) rfl #[(0, .int .i64 ep), (1, .bool p.more)] (by simp only [List.map_toArray, List.map_cons, List.map_nil]; rfl) hbd) (by assumption) ?_; try simp only [Act.put, sA, s0, s1]
  refine wpAnyH_ready (rs := [11]) (by kernel_rfl) (by simp) ?_
  refine AllReadyH.cons (by simp only [gA, g1, g0]; rfl) (fun K hK => ?_) AllReadyH.nil
  obtain ⟨y2, hrun, hmp, hay⟩ := HE7.out.mp.put (by have := HMN.out; unfold maxLen; omega) HOFF.out ep p.more
  refine step_mapUpd rfl _ _ _ rfl _ _ _ rfl rfl rfl hrun ?_
  have HMP := Lib.hid hmp
  have HAY := Lib.hid hay
  have S2 : Hid (BoxP y2 g4 p po (.slice pa pn pc) ∧ y2.cell? ⟨g, 90, none⟩ = some (.map (some mb))) := ⟨BoxP.away S1.out.1 hay (fun hm => HG4.out (by simp at hm; simp [hm])), Away.cell hay (by simpa using HE7.out.ap.gm) S1.out.2⟩
  refine hK.out _ _ (by exact S2.out) (fun hHeld => ?_)
  clear hK K
  try simp only [Act.put]
  refine wpAnyH_done (by kernel_rfl) ?_ _
  have HE8 : Hid (EntG y2 g (pieceS (layS s p fr) p) lb lv dv' ov mb (mn + 1)) := by
    show EntG _ _ _ _ _ _ _ _ _
    rw [HPS.out]; exact HE7.out.piece HAY.out HMP.out
  have HA8 : Hid (Away (g :: mb :: dv.ownBlock.toList) w y2) := (HA7.out.mono (fun z hz => by simp at hz; simp; rcases hz with h | h; exact .inl h; exact .inr (.inr h))).trans (HAY.out.mono (fun z hz => by simp at hz; simp [hz]))
  have K4 := Lib.hid (progress_c HE8.out)
  rw [HPR.out] at K4
  clear hHeld hmp hay hrun
  go_wp2_with fail
  refine K4.out.mono ?_
  rintro E y2 ⟨rfl, rfl⟩
  go_wp2_with fail
  go_ret
  exact ⟨ret_int (by rw [HT.out]), dv', mn + 1, by rw [HT.out]; exact HE8.out, .inr ⟨rfl, HSZ0.out⟩, HM7.out, HA8.out⟩
set_option maxHeartbeats 8000000 in
theorem take6_no (h : EntG w g s lb lv dv ov mb mn) (p : Pk) (po pd r : Value) (fr : List H.Sp) (hi : LayIn w g s dv p po pd r fr) (hsz : H.sizeP fr ≠ p.d.length) (hps : ∀ o, (s.ps o).1 ≤ s.d.length) :
    Calls Tryz.prog 82 #[.pointer (some ⟨g, 0, none⟩), .agg (csP p po pd), r] w (Tk6Out w g (take6 s p fr) lb lv dv ov mb mn (H.sizeP fr = p.d.length)) := by
  have HE := Lib.hid h
  have HI := Lib.hid hi
  have HAD := Lib.hid hi.pk.wf.ad
  have HT : Hid (take6 s p fr = if s.ps p.off = (endP p, p.more) ∧ agrP s p = true then (3, s) else (4, s)) := by show _ = _; unfold take6; rw [if_neg hsz]
  have HOFF : Hid (i64ok p.off) := hi.pk.wf.off
  obtain ⟨ra, rc, hre, -, -, hrow, -⟩ := hi.lst.row (by have := hi.fl; omega) (fun x hx => by have h1 := hi.fin x hx; have h2 := hi.pl.o0; have h3 := hi.pl.tt; unfold endP at h1; exact ⟨⟨by omega, by omega⟩, ⟨by omega, by omega⟩⟩)
  obtain ⟨pa, pc, hpd, -, -, -⟩ := hi.pk.d
  obtain ⟨pn, hpn⟩ : ∃ pn, pn = p.d.length := ⟨_, rfl⟩
  rw [← hpn] at hpd
  have hszn : ¬ (H.sizeP fr = (pn : Int)) := by rw [hpn]; exact hsz
  have KS : Hid (∀ W, Away [] w W → Calls Tryz.prog 89 #[.slice ra fr.length rc] W fun E w' => E = .returned (.int .i64 (H.sizeP fr)) ∧ Away [] W w') := fun W hW => H.size_c ra fr fr.length rc W rfl (hrow.on hW)
  have KA : Hid ((s.ps p.off).1 = endP p → ∀ W, Away [] w W → Calls Tryz.prog 93 #[.pointer (some ⟨g, 0, none⟩), .agg (csP p po pd)] W fun E w' => E = .returned (.bool (agrP s p)) ∧ Away [] W w') := fun he W hW => agrees_c (h.on hW) p po pd (hi.pk.on hW) hi.pl (by have h1 := hps p.off; rw [he] at h1; unfold endP at h1; omega) hi.by_ hi.dl
  have KE : Hid (∀ W, Away [] w W → Calls Tryz.prog 91 #[.agg (csP p po pd)] W fun E w' => E = .returned (.int .i64 (endP p)) ∧ Away [] W w') := fun W hW => endOf_c p po _ W (hi.pk.on hW) hi.pl
  have KL : Hid (∀ W, Away [] w W → (Instr.lookup 99 (.map (some mb)) (.int .i64 p.off) false).run Tryz.prog W = .ok (.agg #[.int .i64 (s.ps p.off).1, .bool (s.ps p.off).2]) W) := fun W hW => (h.mp.on hW).look HOFF.out
  have HPSE : Hid (s.ps p.off = ((s.ps p.off).1, (s.ps p.off).2)) := rfl
  generalize (s.ps p.off).1 = la at *
  generalize (s.ps p.off).2 = lm at *
  generalize H.sizeP fr = sz at *
  generalize agrP s p = ag at *
  have hbd := run_build85 (endP p) p.more
  have hq85 := eq85 la (endP p) lm p.more
  obtain ⟨ep, hep⟩ : ∃ ep, ep = endP p := ⟨_, rfl⟩
  rw [← hep] at HT KA KE hbd hq85
  obtain ⟨nf, hnf⟩ : ∃ nf, nf = fr.length := ⟨_, rfl⟩
  rw [← hnf] at hre KS
  subst hre
  subst hpd
  clear h hi hsz hrow hpn hnf hep hps
  obtain ⟨qb, hqb⟩ : ∃ qb, qb = decide (la = ep ∧ lm = p.more) := ⟨_, rfl⟩
  rw [← hqb] at hq85
  have HQB := Lib.hid hqb
  have HQ85 := Lib.hid hq85
  have HBD := Lib.hid hbd
  clear hqb hq85 hbd
  go_enter Tryz.func82, Tryz.ntmps82
  go_wp2_with (refine wpList_box28 rfl _ rfl p _ _ rfl ?_; refine Hid.out ?_)
  refine Lib.hid ?_
  intro g4 w4 hg4 hb4 haw4
  have HB4 := Lib.hid hb4
  have HA4 := Lib.hid haw4
  clear hb4 haw4
  have HC : Hid (Away [] w4 w4.drew) := (Away.refl _ _).drew
  have KS4 : Hid (∀ W, Away [] w4 W → Calls Tryz.prog 89 #[.slice ra nf rc] W fun E w' => E = .returned (.int .i64 sz) ∧ Away [] w4 w') := fun W hW => (KS.out W (HA4.out.trans hW)).mono (fun E w' h => ⟨h.1, hW.trans h.2⟩)
  have hszb : (sz == (pn : Int)) = false := by simpa using hszn
  go_wp2_with fail
  refine wp_region_cls (C := fun w' => Away [] w4 w') (by kernel_rfl) (by kernel_rfl) HC.out ?_
  go_big_quiet_want; (refine quiet_val ?_ ?_ ?_; rotate_left; (intro w; go_simp; rfl); go_simp; go_big_quiet_on)
  go_big_quiet_want; refine quiet_call 89 #[.slice ra nf rc] (.int .i64 sz) ?_ KS4.out ?_
  · intro w; go_simp; all_goals (with_reducible rfl)
  go_simp; go_big_quiet_on
  go_big_quiet_want; (refine quiet_val ?_ ?_ ?_; rotate_left; (intro w; go_simp; rfl); go_simp; go_big_quiet_on)
  go_big_quiet_want; refine quiet_ld _ rfl (ad := ⟨g4, 45, none⟩) rfl (fun w' h => ld26 ((HB4.out.on h).cells HAD.out).d) ?_; go_simp; go_big_quiet_on
  go_big_quiet_want; (refine quiet_val ?_ ?_ ?_; rotate_left; (intro w; go_simp; rfl); go_simp; go_big_quiet_on)
  go_big_quiet_want; (refine quiet_val ?_ ?_ ?_; rotate_left; (intro w; go_simp; rfl); go_simp; go_big_quiet_on)
  refine wpQuiet_nil ?_
  intro V hV
  replace HB4 := Lib.hid (HB4.out.on hV)
  replace HA4 := Lib.hid (HA4.out.trans hV)
  replace HE := Lib.hid (HE.out.on HA4.out)
  clear hV HC KS4 KS
  have HC : Hid (Away [] V V.drew) := (Away.refl _ _).drew
  have KE4 : Hid (∀ W, Away [] V W → Calls Tryz.prog 91 #[.agg (csP p po (.slice pa pn pc))] W fun E w' => E = .returned (.int .i64 ep) ∧ Away [] V w') := fun W hW => (KE.out W (HA4.out.trans hW)).mono (fun E w' h => ⟨h.1, hW.trans h.2⟩)
  have KL4 : Hid (∀ W, Away [] V W → (Instr.lookup 99 (.map (some mb)) (.int .i64 p.off) false).run Tryz.prog W = .ok (.agg #[.int .i64 la, .bool lm]) W) := fun W hW => KL.out W (HA4.out.trans hW)
  cases qb with
  | false =>
    have HT2 : Hid (take6 s p fr = (4, s)) := by
      show _ = _; rw [HT.out, if_neg]; rintro ⟨h1, -⟩
      rw [HPSE.out] at h1
      have := HQB.out
      simp only [Prod.mk.injEq] at h1
      simp [h1.1, h1.2] at this
    go_wp2_with fail
    refine wp_region_cls (C := fun w' => Away [] V w') (by kernel_rfl) (by kernel_rfl) HC.out ?_
    iterate 3 (go_big_quiet_want; (refine quiet_val ?_ ?_ ?_; rotate_left; (intro w; go_simp; rfl); go_simp; go_big_quiet_on))
    go_big_quiet_want; refine quiet_ld _ rfl (ad := ⟨g, 90, none⟩) rfl (fun w' h => ld58 (HE.out.on h).cells.2.2.2.2.2.2.2) ?_; go_simp; go_big_quiet_on
    go_big_quiet_want; (refine quiet_val ?_ ?_ ?_; rotate_left; (intro w; go_simp; rfl); go_simp; go_big_quiet_on)
    go_big_quiet_want; refine quiet_ld _ rfl (ad := ⟨g4, 43, none⟩) rfl (fun w' h => ld3 ((HB4.out.on h).cells HAD.out).off) ?_; go_simp; go_big_quiet_on
    go_big_quiet_want; refine quiet_look _ _ rfl mb p.off rfl rfl KL4.out ?_; go_simp; go_big_quiet_on
    go_big_quiet_want; refine quiet_ld _ rfl (ad := ⟨g4, 0, none⟩) rfl (fun w' h => load28_run (HB4.out.on h) HAD.out) ?_; go_simp; go_big_quiet_on
    go_big_quiet_want; refine quiet_call 91 #[.agg (csP p po (.slice pa pn pc))] (.int .i64 ep) ?_ KE4.out ?_
    · intro w; go_simp; all_goals (with_reducible rfl)
    go_simp; go_big_quiet_on
    go_big_quiet_want; (refine quiet_val ?_ ?_ ?_; rotate_left; (intro w; go_simp; rfl); go_simp; go_big_quiet_on)
    go_big_quiet_want; refine quiet_ld _ rfl (ad := ⟨g4, 41, none⟩) rfl (fun w' h => ld4 ((HB4.out.on h).cells HAD.out).more) ?_; go_simp; go_big_quiet_on
    go_big_quiet_want; refine quiet_build rfl #[(0, .int .i64 ep), (1, .bool p.more)] (by simp only [List.map_toArray, List.map_cons, List.map_nil]; rfl) HBD.out ?_; go_simp; go_big_quiet_on
    go_big_quiet_want; refine quiet_eq85 _ _ rfl _ _ rfl rfl false HQ85.out ?_; go_simp; go_big_quiet_on
    go_big_quiet_want; (refine quiet_val ?_ ?_ ?_; rotate_left; (intro w; go_simp; rfl); go_simp; go_big_quiet_on)
    iterate 3 (go_big_quiet_skip)
    go_big_quiet_want; (refine quiet_val ?_ ?_ ?_; rotate_left; (intro w; go_simp; rfl); go_simp; go_big_quiet_on)
    refine wpQuiet_nil ?_
    intro V hV
    have HV := Lib.hid hV
    clear hV
    go_wp2_with fail
    go_ret
    exact ⟨ret_int (by rw [HT2.out]), dv, mn, by rw [HT2.out]; exact HE.out.on HV.out, .inl rfl, Moved.refl _ _, (HA4.out.trans HV.out).mono (by simp)⟩
  | true =>
    have hla : la = ep ∧ lm = p.more := of_decide_eq_true HQB.out.symm
    have KA4 : Hid (∀ W, Away [] V W → Calls Tryz.prog 93 #[.pointer (some ⟨g, 0, none⟩), .agg (csP p po (.slice pa pn pc))] W fun E w' => E = .returned (.bool ag) ∧ Away [] V w') := fun W hW => (KA.out hla.1 W (HA4.out.trans hW)).mono (fun E w' h => ⟨h.1, hW.trans h.2⟩)
    have HLA := Lib.hid hla
    clear hla
    cases ag with
    | false =>
      have HT2 : Hid (take6 s p fr = (4, s)) := by show _ = _; rw [HT.out, if_neg (fun h => by simp at h)]
      go_wp2_with fail
      refine wp_region_cls (C := fun w' => Away [] V w') (by kernel_rfl) (by kernel_rfl) HC.out ?_
      iterate 3 (go_big_quiet_want; (refine quiet_val ?_ ?_ ?_; rotate_left; (intro w; go_simp; rfl); go_simp; go_big_quiet_on))
      go_big_quiet_want; refine quiet_ld _ rfl (ad := ⟨g, 90, none⟩) rfl (fun w' h => ld58 (HE.out.on h).cells.2.2.2.2.2.2.2) ?_; go_simp; go_big_quiet_on
      go_big_quiet_want; (refine quiet_val ?_ ?_ ?_; rotate_left; (intro w; go_simp; rfl); go_simp; go_big_quiet_on)
      go_big_quiet_want; refine quiet_ld _ rfl (ad := ⟨g4, 43, none⟩) rfl (fun w' h => ld3 ((HB4.out.on h).cells HAD.out).off) ?_; go_simp; go_big_quiet_on
      go_big_quiet_want; refine quiet_look _ _ rfl mb p.off rfl rfl KL4.out ?_; go_simp; go_big_quiet_on
      go_big_quiet_want; refine quiet_ld _ rfl (ad := ⟨g4, 0, none⟩) rfl (fun w' h => load28_run (HB4.out.on h) HAD.out) ?_; go_simp; go_big_quiet_on
      go_big_quiet_want; refine quiet_call 91 #[.agg (csP p po (.slice pa pn pc))] (.int .i64 ep) ?_ KE4.out ?_
      · intro w; go_simp; all_goals (with_reducible rfl)
      go_simp; go_big_quiet_on
      go_big_quiet_want; (refine quiet_val ?_ ?_ ?_; rotate_left; (intro w; go_simp; rfl); go_simp; go_big_quiet_on)
      go_big_quiet_want; refine quiet_ld _ rfl (ad := ⟨g4, 41, none⟩) rfl (fun w' h => ld4 ((HB4.out.on h).cells HAD.out).more) ?_; go_simp; go_big_quiet_on
      go_big_quiet_want; refine quiet_build rfl #[(0, .int .i64 ep), (1, .bool p.more)] (by simp only [List.map_toArray, List.map_cons, List.map_nil]; rfl) HBD.out ?_; go_simp; go_big_quiet_on
      go_big_quiet_want; refine quiet_eq85 _ _ rfl _ _ rfl rfl true HQ85.out ?_; go_simp; go_big_quiet_on
      go_big_quiet_want; (refine quiet_val ?_ ?_ ?_; rotate_left; (intro w; go_simp; rfl); go_simp; go_big_quiet_on)
      go_big_quiet_want; (refine quiet_val ?_ ?_ ?_; rotate_left; (intro w; go_simp; rfl); go_simp; go_big_quiet_on)
      go_big_quiet_want; refine quiet_ld _ rfl (ad := ⟨g4, 0, none⟩) rfl (fun w' h => load28_run (HB4.out.on h) HAD.out) ?_; go_simp; go_big_quiet_on
      go_big_quiet_want; refine quiet_call 93 #[.pointer (some ⟨g, 0, none⟩), .agg (csP p po (.slice pa pn pc))] (.bool false) ?_ KA4.out ?_
      · intro w; go_simp; all_goals (with_reducible rfl)
      go_simp; go_big_quiet_on
      go_big_quiet_want; (refine quiet_val ?_ ?_ ?_; rotate_left; (intro w; go_simp; rfl); go_simp; go_big_quiet_on)
      refine wpQuiet_nil ?_
      intro V hV
      have HV := Lib.hid hV
      clear hV
      go_wp2_with fail
      go_ret
      exact ⟨ret_int (by rw [HT2.out]), dv, mn, by rw [HT2.out]; exact HE.out.on HV.out, .inl rfl, Moved.refl _ _, (HA4.out.trans HV.out).mono (by simp)⟩
    | true =>
      have HT2 : Hid (take6 s p fr = (3, s)) := by show _ = _; rw [HT.out, if_pos ⟨by rw [HPSE.out, HLA.out.1, HLA.out.2], rfl⟩]
      go_wp2_with fail
      refine wp_region_cls (C := fun w' => Away [] V w') (by kernel_rfl) (by kernel_rfl) HC.out ?_
      iterate 3 (go_big_quiet_want; (refine quiet_val ?_ ?_ ?_; rotate_left; (intro w; go_simp; rfl); go_simp; go_big_quiet_on))
      go_big_quiet_want; refine quiet_ld _ rfl (ad := ⟨g, 90, none⟩) rfl (fun w' h => ld58 (HE.out.on h).cells.2.2.2.2.2.2.2) ?_; go_simp; go_big_quiet_on
      go_big_quiet_want; (refine quiet_val ?_ ?_ ?_; rotate_left; (intro w; go_simp; rfl); go_simp; go_big_quiet_on)
      go_big_quiet_want; refine quiet_ld _ rfl (ad := ⟨g4, 43, none⟩) rfl (fun w' h => ld3 ((HB4.out.on h).cells HAD.out).off) ?_; go_simp; go_big_quiet_on
      go_big_quiet_want; refine quiet_look _ _ rfl mb p.off rfl rfl KL4.out ?_; go_simp; go_big_quiet_on
      go_big_quiet_want; refine quiet_ld _ rfl (ad := ⟨g4, 0, none⟩) rfl (fun w' h => load28_run (HB4.out.on h) HAD.out) ?_; go_simp; go_big_quiet_on
      go_big_quiet_want; refine quiet_call 91 #[.agg (csP p po (.slice pa pn pc))] (.int .i64 ep) ?_ KE4.out ?_
      · intro w; go_simp; all_goals (with_reducible rfl)
      go_simp; go_big_quiet_on
      go_big_quiet_want; (refine quiet_val ?_ ?_ ?_; rotate_left; (intro w; go_simp; rfl); go_simp; go_big_quiet_on)
      go_big_quiet_want; refine quiet_ld _ rfl (ad := ⟨g4, 41, none⟩) rfl (fun w' h => ld4 ((HB4.out.on h).cells HAD.out).more) ?_; go_simp; go_big_quiet_on
      go_big_quiet_want; refine quiet_build rfl #[(0, .int .i64 ep), (1, .bool p.more)] (by simp only [List.map_toArray, List.map_cons, List.map_nil]; rfl) HBD.out ?_; go_simp; go_big_quiet_on
      go_big_quiet_want; refine quiet_eq85 _ _ rfl _ _ rfl rfl true HQ85.out ?_; go_simp; go_big_quiet_on
      go_big_quiet_want; (refine quiet_val ?_ ?_ ?_; rotate_left; (intro w; go_simp; rfl); go_simp; go_big_quiet_on)
      go_big_quiet_want; (refine quiet_val ?_ ?_ ?_; rotate_left; (intro w; go_simp; rfl); go_simp; go_big_quiet_on)
      go_big_quiet_want; refine quiet_ld _ rfl (ad := ⟨g4, 0, none⟩) rfl (fun w' h => load28_run (HB4.out.on h) HAD.out) ?_; go_simp; go_big_quiet_on
      go_big_quiet_want; refine quiet_call 93 #[.pointer (some ⟨g, 0, none⟩), .agg (csP p po (.slice pa pn pc))] (.bool true) ?_ KA4.out ?_
      · intro w; go_simp; all_goals (with_reducible rfl)
      go_simp; go_big_quiet_on
      go_big_quiet_want; (refine quiet_val ?_ ?_ ?_; rotate_left; (intro w; go_simp; rfl); go_simp; go_big_quiet_on)
      refine wpQuiet_nil ?_
      intro V hV
      have HV := Lib.hid hV
      clear hV
      go_wp2_with fail
      go_ret
      exact ⟨ret_int (by rw [HT2.out]), dv, mn, by rw [HT2.out]; exact HE.out.on HV.out, .inl rfl, Moved.refl _ _, (HA4.out.trans HV.out).mono (by simp)⟩
end
end Go.Proofs.YtkccpidgeecemaaGreatDoor
