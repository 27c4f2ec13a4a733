/-
  The document's own Put.
-/
import Derived.Test.YtcjkhpinccjncaaRefP
namespace Go.Proofs.Ytcjkhpinccjncaa
open Go.ChangeShapes Go.WideShapes Go.ChangeAt Go.RowKit
set_option linter.unusedVariables false
set_option linter.unusedSimpArgs false
set_option maxRecDepth 100000

/-- What the document's Put tells and leaves. -/
def RPutOut (w : World) (r t : Nat) (T : Int → Bool) (m : List Sp) (e top off n : Int) (more : Bool) (E : Ending) (w' : World) : Prop :=
  (putOk m e off n more = true ∧ ∃ v, E = .returned (.tuple #[v, .int .i64 0]) ∧ Lst w' v (freshP m (off, off + n)) ∧ New w.heap.size v ∧ Rf w' r t (fun k => T k || inS (off, off + n) k) (putE e off n more) (max top (off + n)) ∧ Away [r, t] w w') ∨
  (putOk m e off n more = false ∧ E = .returned (.tuple #[.slice none 0 0, .int .i64 1]) ∧ w' = w)
set_option maxHeartbeats 16000000 in
theorem rput_c {w : World} {r t : Nat} {T : Int → Bool} {m : List Sp} {e top : Int} (off n : Int) (more : Bool) (h : Rf w r t T e top) (ho : Ho T m e) (ht : Top T top) (hio : I64 off) (hin : I64 n) :
    Calls Try.prog 24 #[.pointer (some ⟨r, 0, none⟩), .int .i64 off, .int .i64 n, .bool more] w fun E w' => RPutOut w r t T m e top off n more E w' := by
  unfold I64 at hio hin
  by_cases ha : 0 ≤ off ∧ 1 ≤ n ∧ n ≤ 65535 - off
  · have HARG : Hid (argOk off n = true) := arg_iff.2 ha
    obtain ⟨a1, a2, a3⟩ := ha
    have hen := ho.en
    have hend := end_top ho ht (to := off + n) (by omega) (by omega) more
    have htb := ht.b
    have H := hidI h
    have HHO := hidI ho
    have HTP := hidI ht
    have c1 := h.c1
    have c2 := h.c2
    obtain ⟨to, hto⟩ : ∃ to, off + n = to := ⟨_, rfl⟩
    have HTO := hidI hto
    have hto1 : 1 ≤ to := by omega
    have hto2 : to ≤ 65535 := by omega
    have hot : off < to := by omega
    clear h ho ht hio hin
    cases hk : endOk m e (off + n) more
    · have HNO : Hid (putOk m e off n more = false) := by show _ = _; unfold putOk; rw [hk]; simp
      rw [hk] at hend
      cases more
      · have hcond : ¬ ((e = -1 ∧ top ≤ to) ∨ (e ≠ -1 ∧ to = e)) := fun hc => by
          rw [hto] at hend
          have := hend.2 (by simpa using hc)
          simp at this
        clear hend hk
        by_cases he : e = -1
        · subst he
          have ht2 : to < top := by omega
          clear hcond hen
          go_enter Try.func24, Try.ntmps24
          go_wp2_with fail
          go_ret2
          exact .inr ⟨HNO.out, rfl, rfl⟩
        · have hg : 0 < e + 1 := by omega
          have heb1 : 0 ≤ e := by omega
          have heb2 : e ≤ 65535 := by omega
          have hne3 : ¬ (to = e) := by omega
          have hne : (to != e) = true := by simp [hne3]
          have hne2 : (to == e) = false := by simp [hne3]
          have hge : ¬ (e + 1 ≤ 0) := by omega
          clear hcond hen he
          go_enter Try.func24, Try.ntmps24
          go_wp2_with fail
          go_ret2
          exact .inr ⟨HNO.out, rfl, rfl⟩
      · have hcond : ¬ (e = -1 ∨ to ≤ e) := fun hc => by
          rw [hto] at hend
          have := hend.2 (by simpa using hc)
          simp at this
        have hg : 0 < e + 1 := by omega
        have heb1 : 0 ≤ e := by omega
        have heb2 : e ≤ 65535 := by omega
        have hne : e < to := by omega
        clear hend hk hcond hen
        go_enter Try.func24, Try.ntmps24
        go_wp2_with fail
        go_ret2
        exact .inr ⟨HNO.out, rfl, rfl⟩
    · have HYES : Hid (putOk m e off n more = true) := by show _ = _; unfold putOk; rw [hk, HARG.out]; rfl
      rw [hk] at hend
      have hcond := hend.1 rfl
      rw [hto] at hcond
      have HFR : Hid (∀ l, Of l (runP T off to) → l = freshP m (off, off + n)) := fun l hl => by
        have hf := fresh_ho HHO.out HARG.out hk
        refine Of.uniq hl ⟨hf.right, fun i => ?_⟩
        rw [hf.has, ← HTO.out]
        rfl
      have KS := hidI (spans_c off to H.out (by omega) (by omega) (by omega))
      clear hend hk
      cases more
      · simp only [if_neg (show ¬ (false = true) by simp)] at hcond
        by_cases he : e = -1
        · subst he
          have ht2 : ¬ (to < top) := by omega
          clear hcond hen
          go_enter Try.func24, Try.ntmps24
          go_wp2_with fail
          refine KS.out.mono ?_
          rintro E w2 ⟨v, rfl, l, hmk, hof⟩
          have hl := HFR.out l hof
          subst hl
          have HM := hidI hmk
          have H2 := hidI (H.out.on hmk.2.2)
          have HRL := hidI (lt_of_block H.out.blk)
          have HTL : Hid (t < w.heap.size) := by obtain ⟨cur, h1, -⟩ := H.out.fl; exact lt_of_block h1
          clear hmk hof KS HFR c1 c2
          go_wp2_with fail
          go_loopw [14] (fun i wr => ∃ k : Nat, i = .int .i64 (k : Int) ∧ off ≤ (k : Int) ∧ (k : Int) ≤ to ∧ Rf wr r t (fun x => T x || decide (off ≤ x ∧ x < (k : Int))) (-1) top ∧ Away [t] w2 wr) (fun i _ => 65535 - (intOf i).toNat)
          case atStart => exact ⟨off.toNat, by rw [show ((off.toNat : Nat) : Int) = off from by omega], by omega, by omega, H2.out.congr (fun x => by rw [decide_eq_false (by omega), Bool.or_false]), Away.refl _ _⟩
          case round =>
            obtain ⟨k, rfl, hk1, hk2, hrf, haw⟩ := hrel
            have HRF := hidI hrf
            have HAW := hidI haw
            clear hrf haw
            by_cases hlt : (k : Int) < to
            · have c0 := HRF.out.c0
              have cf := HRF.out.flag (i := k) (by omega)
              have ff := (HRF.out.free k).2
              have j2 : 0 ≤ (k : Int) := by omega
              have j3 : (k : Int) < 65535 := by omega
              have j4 : ((k : Int)).toNat = k := by omega
              generalize (T (k : Int) || decide (off ≤ (k : Int) ∧ (k : Int) < (k : Int))) = z at cf
              have HR2 : Hid (Rf (wr.setCell ⟨t, k, none⟩ (.bool true)) r t (fun x => T x || decide (off ≤ x ∧ x < ((k + 1 : Nat) : Int))) (-1) top) := (HRF.out.set (i := k) (by omega)).congr (fun x => by
                show ((T x || decide (off ≤ x ∧ x < (k : Int))) || decide (x = (k : Int))) = (T x || decide (off ≤ x ∧ x < ((k + 1 : Nat) : Int)))
                rw [Bool.or_assoc]
                congr 1
                rw [Bool.eq_iff_iff, Bool.or_eq_true]
                simp only [decide_eq_true_eq]
                omega)
              have HA2 := hidI (HAW.out.setCell (p := ⟨t, k, none⟩) (.inl (by simp)) (.bool true))
              go_wp2_with fail
              go_roundw
              case rel => exact ⟨k + 1, by go_num, by omega, by omega, HR2.out, HA2.out⟩
              case measure => simp [intOf]; omega
            · obtain hke : (k : Int) = to := by omega
              have HR3 : Hid (Rf wr r t (fun x => T x || inS (off, off + n) x) (-1) top) := HRF.out.congr (fun x => by rw [hke, ← HTO.out]; rfl)
              have c2 := HR3.out.c2
              have f2 := (HR3.out.free 2).1
              have f1 := (HR3.out.free 1).1
              have c1 := HR3.out.c1
              have hrt : r ≠ t := H.out.ne
              have LV : Hid (Lst wr v (freshP m (off, off + n))) := HM.out.1.away HAW.out (fun z hz => by have := HM.out.2.1 z hz; have := HTL.out; simp; omega)
              have AWF : Hid (Away [r, t] w wr) := (HM.out.2.2.mono (by simp)).next HAW.out (fun z hz => .inl (by simp at hz; simp [hz]))
              clear HRF HAW hke
              rcases (show (max top to = top ∧ to ≤ top) ∨ (max top to = to ∧ top < to) by omega) with ⟨mx, mo⟩ | ⟨mx, mo⟩
              · go_wp2_with fail
                go_ret2
                have a1 : Away [r, t] w ((wr.setCell ⟨r, 2, none⟩ (.int .i64 top)).setCell ⟨r, 1, none⟩ (.int .i64 (to + 1))) := (AWF.out.setCell (.inl (by simp)) _).setCell (.inl (by simp)) _
                refine .inl ⟨HYES.out, v, rfl, ?_, HM.out.2.1, ?_, a1⟩
                · exact ((LV.out.away ((Away.refl [r] wr).setCell (.inl (by simp)) _) (fun z hz => by have := HM.out.2.1 z hz; have := HRL.out; simp; omega))).away ((Away.refl [r] _).setCell (.inl (by simp)) _) (fun z hz => by have := HM.out.2.1 z hz; have := HRL.out; simp; omega)
                · rw [show max top (off + n) = top from by rw [HTO.out]; exact mx]
                  exact by have h9 := (HR3.out.setTop top).setEnd to; rw [show putE _ off n false = to from HTO.out]; exact h9
              · go_wp2_with fail
                go_ret2
                have a1 : Away [r, t] w ((wr.setCell ⟨r, 2, none⟩ (.int .i64 to)).setCell ⟨r, 1, none⟩ (.int .i64 (to + 1))) := (AWF.out.setCell (.inl (by simp)) _).setCell (.inl (by simp)) _
                refine .inl ⟨HYES.out, v, rfl, ?_, HM.out.2.1, ?_, a1⟩
                · exact ((LV.out.away ((Away.refl [r] wr).setCell (.inl (by simp)) _) (fun z hz => by have := HM.out.2.1 z hz; have := HRL.out; simp; omega))).away ((Away.refl [r] _).setCell (.inl (by simp)) _) (fun z hz => by have := HM.out.2.1 z hz; have := HRL.out; simp; omega)
                · rw [show max top (off + n) = to from by rw [HTO.out]; exact mx]
                  exact by have h9 := (HR3.out.setTop to).setEnd to; rw [show putE _ off n false = to from HTO.out]; exact h9
        · have hg : 0 < e + 1 := by omega
          have heb1 : 0 ≤ e := by omega
          have heb2 : e ≤ 65535 := by omega
          have heq : to = e := by omega
          clear hcond hen he
          subst heq
          go_enter Try.func24, Try.ntmps24
          go_wp2_with fail
          refine KS.out.mono ?_
          rintro E w2 ⟨v, rfl, l, hmk, hof⟩
          have hl := HFR.out l hof
          subst hl
          have HM := hidI hmk
          have H2 := hidI (H.out.on hmk.2.2)
          have HRL := hidI (lt_of_block H.out.blk)
          have HTL : Hid (t < w.heap.size) := by obtain ⟨cur, h1, -⟩ := H.out.fl; exact lt_of_block h1
          clear hmk hof KS HFR c1 c2
          go_wp2_with fail
          go_loopw [14] (fun i wr => ∃ k : Nat, i = .int .i64 (k : Int) ∧ off ≤ (k : Int) ∧ (k : Int) ≤ to ∧ Rf wr r t (fun x => T x || decide (off ≤ x ∧ x < (k : Int))) to top ∧ Away [t] w2 wr) (fun i _ => 65535 - (intOf i).toNat)
          case atStart => exact ⟨off.toNat, by rw [show ((off.toNat : Nat) : Int) = off from by omega], by omega, by omega, H2.out.congr (fun x => by rw [decide_eq_false (by omega), Bool.or_false]), Away.refl _ _⟩
          case round =>
            obtain ⟨k, rfl, hk1, hk2, hrf, haw⟩ := hrel
            have HRF := hidI hrf
            have HAW := hidI haw
            clear hrf haw
            by_cases hlt : (k : Int) < to
            · have c0 := HRF.out.c0
              have cf := HRF.out.flag (i := k) (by omega)
              have ff := (HRF.out.free k).2
              have j2 : 0 ≤ (k : Int) := by omega
              have j3 : (k : Int) < 65535 := by omega
              have j4 : ((k : Int)).toNat = k := by omega
              generalize (T (k : Int) || decide (off ≤ (k : Int) ∧ (k : Int) < (k : Int))) = z at cf
              have HR2 : Hid (Rf (wr.setCell ⟨t, k, none⟩ (.bool true)) r t (fun x => T x || decide (off ≤ x ∧ x < ((k + 1 : Nat) : Int))) to top) := (HRF.out.set (i := k) (by omega)).congr (fun x => by
                show ((T x || decide (off ≤ x ∧ x < (k : Int))) || decide (x = (k : Int))) = (T x || decide (off ≤ x ∧ x < ((k + 1 : Nat) : Int)))
                rw [Bool.or_assoc]
                congr 1
                rw [Bool.eq_iff_iff, Bool.or_eq_true]
                simp only [decide_eq_true_eq]
                omega)
              have HA2 := hidI (HAW.out.setCell (p := ⟨t, k, none⟩) (.inl (by simp)) (.bool true))
              go_wp2_with fail
              go_roundw
              case rel => exact ⟨k + 1, by go_num, by omega, by omega, HR2.out, HA2.out⟩
              case measure => simp [intOf]; omega
            · obtain hke : (k : Int) = to := by omega
              have HR3 : Hid (Rf wr r t (fun x => T x || inS (off, off + n) x) to top) := HRF.out.congr (fun x => by rw [hke, ← HTO.out]; rfl)
              have c2 := HR3.out.c2
              have f2 := (HR3.out.free 2).1
              have f1 := (HR3.out.free 1).1
              have c1 := HR3.out.c1
              have hrt : r ≠ t := H.out.ne
              have LV : Hid (Lst wr v (freshP m (off, off + n))) := HM.out.1.away HAW.out (fun z hz => by have := HM.out.2.1 z hz; have := HTL.out; simp; omega)
              have AWF : Hid (Away [r, t] w wr) := (HM.out.2.2.mono (by simp)).next HAW.out (fun z hz => .inl (by simp at hz; simp [hz]))
              clear HRF HAW hke
              rcases (show (max top to = top ∧ to ≤ top) ∨ (max top to = to ∧ top < to) by omega) with ⟨mx, mo⟩ | ⟨mx, mo⟩
              · go_wp2_with fail
                go_ret2
                have a1 : Away [r, t] w ((wr.setCell ⟨r, 2, none⟩ (.int .i64 top)).setCell ⟨r, 1, none⟩ (.int .i64 (to + 1))) := (AWF.out.setCell (.inl (by simp)) _).setCell (.inl (by simp)) _
                refine .inl ⟨HYES.out, v, rfl, ?_, HM.out.2.1, ?_, a1⟩
                · exact ((LV.out.away ((Away.refl [r] wr).setCell (.inl (by simp)) _) (fun z hz => by have := HM.out.2.1 z hz; have := HRL.out; simp; omega))).away ((Away.refl [r] _).setCell (.inl (by simp)) _) (fun z hz => by have := HM.out.2.1 z hz; have := HRL.out; simp; omega)
                · rw [show max top (off + n) = top from by rw [HTO.out]; exact mx]
                  exact by have h9 := (HR3.out.setTop top).setEnd to; rw [show putE _ off n false = to from HTO.out]; exact h9
              · go_wp2_with fail
                go_ret2
                have a1 : Away [r, t] w ((wr.setCell ⟨r, 2, none⟩ (.int .i64 to)).setCell ⟨r, 1, none⟩ (.int .i64 (to + 1))) := (AWF.out.setCell (.inl (by simp)) _).setCell (.inl (by simp)) _
                refine .inl ⟨HYES.out, v, rfl, ?_, HM.out.2.1, ?_, a1⟩
                · exact ((LV.out.away ((Away.refl [r] wr).setCell (.inl (by simp)) _) (fun z hz => by have := HM.out.2.1 z hz; have := HRL.out; simp; omega))).away ((Away.refl [r] _).setCell (.inl (by simp)) _) (fun z hz => by have := HM.out.2.1 z hz; have := HRL.out; simp; omega)
                · rw [show max top (off + n) = to from by rw [HTO.out]; exact mx]
                  exact by have h9 := (HR3.out.setTop to).setEnd to; rw [show putE _ off n false = to from HTO.out]; exact h9
      · simp only [if_pos] at hcond
        by_cases he : e = -1
        · subst he
          clear hcond hen
          go_enter Try.func24, Try.ntmps24
          go_wp2_with fail
          refine KS.out.mono ?_
          rintro E w2 ⟨v, rfl, l, hmk, hof⟩
          have hl := HFR.out l hof
          subst hl
          have HM := hidI hmk
          have H2 := hidI (H.out.on hmk.2.2)
          have HRL := hidI (lt_of_block H.out.blk)
          have HTL : Hid (t < w.heap.size) := by obtain ⟨cur, h1, -⟩ := H.out.fl; exact lt_of_block h1
          clear hmk hof KS HFR c1 c2
          go_wp2_with fail
          go_loopw [14] (fun i wr => ∃ k : Nat, i = .int .i64 (k : Int) ∧ off ≤ (k : Int) ∧ (k : Int) ≤ to ∧ Rf wr r t (fun x => T x || decide (off ≤ x ∧ x < (k : Int))) (-1) top ∧ Away [t] w2 wr) (fun i _ => 65535 - (intOf i).toNat)
          case atStart => exact ⟨off.toNat, by rw [show ((off.toNat : Nat) : Int) = off from by omega], by omega, by omega, H2.out.congr (fun x => by rw [decide_eq_false (by omega), Bool.or_false]), Away.refl _ _⟩
          case round =>
            obtain ⟨k, rfl, hk1, hk2, hrf, haw⟩ := hrel
            have HRF := hidI hrf
            have HAW := hidI haw
            clear hrf haw
            by_cases hlt : (k : Int) < to
            · have c0 := HRF.out.c0
              have cf := HRF.out.flag (i := k) (by omega)
              have ff := (HRF.out.free k).2
              have j2 : 0 ≤ (k : Int) := by omega
              have j3 : (k : Int) < 65535 := by omega
              have j4 : ((k : Int)).toNat = k := by omega
              generalize (T (k : Int) || decide (off ≤ (k : Int) ∧ (k : Int) < (k : Int))) = z at cf
              have HR2 : Hid (Rf (wr.setCell ⟨t, k, none⟩ (.bool true)) r t (fun x => T x || decide (off ≤ x ∧ x < ((k + 1 : Nat) : Int))) (-1) top) := (HRF.out.set (i := k) (by omega)).congr (fun x => by
                show ((T x || decide (off ≤ x ∧ x < (k : Int))) || decide (x = (k : Int))) = (T x || decide (off ≤ x ∧ x < ((k + 1 : Nat) : Int)))
                rw [Bool.or_assoc]
                congr 1
                rw [Bool.eq_iff_iff, Bool.or_eq_true]
                simp only [decide_eq_true_eq]
                omega)
              have HA2 := hidI (HAW.out.setCell (p := ⟨t, k, none⟩) (.inl (by simp)) (.bool true))
              go_wp2_with fail
              go_roundw
              case rel => exact ⟨k + 1, by go_num, by omega, by omega, HR2.out, HA2.out⟩
              case measure => simp [intOf]; omega
            · obtain hke : (k : Int) = to := by omega
              have HR3 : Hid (Rf wr r t (fun x => T x || inS (off, off + n) x) (-1) top) := HRF.out.congr (fun x => by rw [hke, ← HTO.out]; rfl)
              have c2 := HR3.out.c2
              have f2 := (HR3.out.free 2).1
              have f1 := (HR3.out.free 1).1
              have c1 := HR3.out.c1
              have hrt : r ≠ t := H.out.ne
              have LV : Hid (Lst wr v (freshP m (off, off + n))) := HM.out.1.away HAW.out (fun z hz => by have := HM.out.2.1 z hz; have := HTL.out; simp; omega)
              have AWF : Hid (Away [r, t] w wr) := (HM.out.2.2.mono (by simp)).next HAW.out (fun z hz => .inl (by simp at hz; simp [hz]))
              clear HRF HAW hke
              rcases (show (max top to = top ∧ to ≤ top) ∨ (max top to = to ∧ top < to) by omega) with ⟨mx, mo⟩ | ⟨mx, mo⟩
              · go_wp2_with fail
                go_ret2
                have a1 : Away [r, t] w (wr.setCell ⟨r, 2, none⟩ (.int .i64 top)) := AWF.out.setCell (.inl (by simp)) _
                refine .inl ⟨HYES.out, v, rfl, ?_, HM.out.2.1, ?_, a1⟩
                · exact (LV.out.away ((Away.refl [r] wr).setCell (.inl (by simp)) _) (fun z hz => by have := HM.out.2.1 z hz; have := HRL.out; simp; omega))
                · rw [show max top (off + n) = top from by rw [HTO.out]; exact mx]
                  exact HR3.out.setTop top
              · go_wp2_with fail
                go_ret2
                have a1 : Away [r, t] w (wr.setCell ⟨r, 2, none⟩ (.int .i64 to)) := AWF.out.setCell (.inl (by simp)) _
                refine .inl ⟨HYES.out, v, rfl, ?_, HM.out.2.1, ?_, a1⟩
                · exact (LV.out.away ((Away.refl [r] wr).setCell (.inl (by simp)) _) (fun z hz => by have := HM.out.2.1 z hz; have := HRL.out; simp; omega))
                · rw [show max top (off + n) = to from by rw [HTO.out]; exact mx]
                  exact HR3.out.setTop to
        · have hg : 0 < e + 1 := by omega
          have heb1 : 0 ≤ e := by omega
          have heb2 : e ≤ 65535 := by omega
          have hne : ¬ (e < to) := by omega
          have hnd : decide (e < to) = false := by simp; omega
          have hle : to ≤ e := by omega
          clear hcond hen he
          go_enter Try.func24, Try.ntmps24
          go_wp2_with fail
          refine KS.out.mono ?_
          rintro E w2 ⟨v, rfl, l, hmk, hof⟩
          have hl := HFR.out l hof
          subst hl
          have HM := hidI hmk
          have H2 := hidI (H.out.on hmk.2.2)
          have HRL := hidI (lt_of_block H.out.blk)
          have HTL : Hid (t < w.heap.size) := by obtain ⟨cur, h1, -⟩ := H.out.fl; exact lt_of_block h1
          clear hmk hof KS HFR c1 c2
          go_wp2_with fail
          go_loopw [14] (fun i wr => ∃ k : Nat, i = .int .i64 (k : Int) ∧ off ≤ (k : Int) ∧ (k : Int) ≤ to ∧ Rf wr r t (fun x => T x || decide (off ≤ x ∧ x < (k : Int))) e top ∧ Away [t] w2 wr) (fun i _ => 65535 - (intOf i).toNat)
          case atStart => exact ⟨off.toNat, by rw [show ((off.toNat : Nat) : Int) = off from by omega], by omega, by omega, H2.out.congr (fun x => by rw [decide_eq_false (by omega), Bool.or_false]), Away.refl _ _⟩
          case round =>
            obtain ⟨k, rfl, hk1, hk2, hrf, haw⟩ := hrel
            have HRF := hidI hrf
            have HAW := hidI haw
            clear hrf haw
            by_cases hlt : (k : Int) < to
            · have c0 := HRF.out.c0
              have cf := HRF.out.flag (i := k) (by omega)
              have ff := (HRF.out.free k).2
              have j2 : 0 ≤ (k : Int) := by omega
              have j3 : (k : Int) < 65535 := by omega
              have j4 : ((k : Int)).toNat = k := by omega
              generalize (T (k : Int) || decide (off ≤ (k : Int) ∧ (k : Int) < (k : Int))) = z at cf
              have HR2 : Hid (Rf (wr.setCell ⟨t, k, none⟩ (.bool true)) r t (fun x => T x || decide (off ≤ x ∧ x < ((k + 1 : Nat) : Int))) e top) := (HRF.out.set (i := k) (by omega)).congr (fun x => by
                show ((T x || decide (off ≤ x ∧ x < (k : Int))) || decide (x = (k : Int))) = (T x || decide (off ≤ x ∧ x < ((k + 1 : Nat) : Int)))
                rw [Bool.or_assoc]
                congr 1
                rw [Bool.eq_iff_iff, Bool.or_eq_true]
                simp only [decide_eq_true_eq]
                omega)
              have HA2 := hidI (HAW.out.setCell (p := ⟨t, k, none⟩) (.inl (by simp)) (.bool true))
              go_wp2_with fail
              go_roundw
              case rel => exact ⟨k + 1, by go_num, by omega, by omega, HR2.out, HA2.out⟩
              case measure => simp [intOf]; omega
            · obtain hke : (k : Int) = to := by omega
              have HR3 : Hid (Rf wr r t (fun x => T x || inS (off, off + n) x) e top) := HRF.out.congr (fun x => by rw [hke, ← HTO.out]; rfl)
              have c2 := HR3.out.c2
              have f2 := (HR3.out.free 2).1
              have f1 := (HR3.out.free 1).1
              have c1 := HR3.out.c1
              have hrt : r ≠ t := H.out.ne
              have LV : Hid (Lst wr v (freshP m (off, off + n))) := HM.out.1.away HAW.out (fun z hz => by have := HM.out.2.1 z hz; have := HTL.out; simp; omega)
              have AWF : Hid (Away [r, t] w wr) := (HM.out.2.2.mono (by simp)).next HAW.out (fun z hz => .inl (by simp at hz; simp [hz]))
              clear HRF HAW hke
              rcases (show (max top to = top ∧ to ≤ top) ∨ (max top to = to ∧ top < to) by omega) with ⟨mx, mo⟩ | ⟨mx, mo⟩
              · go_wp2_with fail
                go_ret2
                have a1 : Away [r, t] w (wr.setCell ⟨r, 2, none⟩ (.int .i64 top)) := AWF.out.setCell (.inl (by simp)) _
                refine .inl ⟨HYES.out, v, rfl, ?_, HM.out.2.1, ?_, a1⟩
                · exact (LV.out.away ((Away.refl [r] wr).setCell (.inl (by simp)) _) (fun z hz => by have := HM.out.2.1 z hz; have := HRL.out; simp; omega))
                · rw [show max top (off + n) = top from by rw [HTO.out]; exact mx]
                  exact HR3.out.setTop top
              · go_wp2_with fail
                go_ret2
                have a1 : Away [r, t] w (wr.setCell ⟨r, 2, none⟩ (.int .i64 to)) := AWF.out.setCell (.inl (by simp)) _
                refine .inl ⟨HYES.out, v, rfl, ?_, HM.out.2.1, ?_, a1⟩
                · exact (LV.out.away ((Away.refl [r] wr).setCell (.inl (by simp)) _) (fun z hz => by have := HM.out.2.1 z hz; have := HRL.out; simp; omega))
                · rw [show max top (off + n) = to from by rw [HTO.out]; exact mx]
                  exact HR3.out.setTop to
  · have HNO : Hid (putOk m e off n more = false) := by
      show _ = _
      unfold putOk
      rw [show argOk off n = false from by rw [Bool.eq_false_iff]; intro hc; exact ha (arg_iff.1 hc)]
      rfl
    clear h ho ht
    by_cases b1 : off < 0
    · go_enter Try.func24, Try.ntmps24
      go_wp2_with fail
      go_ret2
      exact .inr ⟨HNO.out, rfl, rfl⟩
    · by_cases b2 : n < 1
      · go_enter Try.func24, Try.ntmps24
        go_wp2_with fail
        go_ret2
        exact .inr ⟨HNO.out, rfl, rfl⟩
      · by_cases b3 : 65535 < off
        · go_enter Try.func24, Try.ntmps24
          go_wp2_with fail
          go_ret2
          exact .inr ⟨HNO.out, rfl, rfl⟩
        · by_cases b4 : 65535 < n
          · go_enter Try.func24, Try.ntmps24
            go_wp2_with fail
            go_ret2
            exact .inr ⟨HNO.out, rfl, rfl⟩
          · have b5 : 65535 < off + n := by omega
            clear ha
            go_enter Try.func24, Try.ntmps24
            go_wp2_with fail
            go_ret2
            exact .inr ⟨HNO.out, rfl, rfl⟩
end Go.Proofs.Ytcjkhpinccjncaa
