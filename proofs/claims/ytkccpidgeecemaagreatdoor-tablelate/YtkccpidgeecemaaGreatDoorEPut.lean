/-
  Put.
-/
import Derived.Test.YtkccpidgeecemaaGreatDoorTk
import Derived.Test.YtkccpidgeecemaaGreatDoorEfA
namespace Go.Proofs.YtkccpidgeecemaaGreatDoor
open Go.ChangeShapes Go.WideShapes Go.ChangeAt Go.RowKit
open S6 (wp_region_cls quiet_val quiet_call quiet_ld ld3 ld4 ld5 ld25 ld26 load28_run load24m_run)
set_option linter.unusedVariables false
set_option linter.unusedSimpArgs false
set_option maxRecDepth 20000
structure Ey (w : World) (g : Nat) (s : Es) (fp : List Nat) : Prop where
  ent : Ent w g s fp
  iv : s.bad = false → ∃ T, Iv s T
theorem Ey.away {S : List Nat} {w w' : World} {g : Nat} {s : Es} {fp : List Nat} (h : Ey w g s fp) (hw : Away S w w') (hS : ∀ x ∈ fp, x ∉ S) : Ey w' g s fp := ⟨h.ent.away hw hS, h.iv⟩
theorem Ey.on {w w' : World} {g : Nat} {s : Es} {fp : List Nat} (h : Ey w g s fp) (hw : Away [] w w') : Ey w' g s fp := ⟨h.ent.on hw, h.iv⟩
theorem Ey.good {w : World} {g : Nat} {s : Es} {fp : List Nat} (h : Ey w g s fp) (hb : s.bad = false) : ∃ lb lv dv ov mb mn T, EntG w g s lb lv dv ov mb mn ∧ fp = fpE g lb lv dv ov mb ∧ mn ≤ s.h.toNat ∧ Iv s T := by
  obtain ⟨T, hT⟩ := h.iv hb
  rcases h.ent with ⟨⟨-, h2, -, -⟩, -⟩ | ⟨lb, lv, dv, ov, mb, mn, h1, h2, h3⟩
  · rw [hb] at h2; simp at h2
  · exact ⟨lb, lv, dv, ov, mb, mn, T, h1, h2, h3, hT⟩
theorem begS_bad (s : Es) (p : Pk) : (begS s p).bad = s.bad ∧ (begS s p).k = s.k ∧ (begS s p).tb = s.tb := by unfold begS; split <;> exact ⟨rfl, rfl, rfl⟩
theorem take_bad (s : Es) (p : Pk) : (takeS s p).2.bad = s.bad ∧ (takeS s p).2.k = s.k ∧ (takeS s p).2.tb = s.tb := by
  have hb := begS_bad (listS s p) p
  have hb' : (begS (listS s p) p).bad = s.bad ∧ (begS (listS s p) p).k = s.k ∧ (begS (listS s p) p).tb = s.tb := hb
  unfold takeS
  split
  · exact ⟨rfl, rfl, rfl⟩
  · split
    · unfold take6
      split
      · exact hb'
      · split <;> exact hb'
    · unfold take4
      split
      · exact hb'
      · split
        · exact hb'
        · split <;> exact hb'
theorem put_iv {s : Es} {p : Pk} (hi : s.bad = false → ∃ T, Iv s T) (hw : Wf p) (hb : (putS s p).2.bad = false) : ∃ T, Iv (putS s p).2 T := by
  unfold putS at hb ⊢
  by_cases h1 : ownB s p = false
  · rw [if_pos h1] at hb ⊢
    exact hi hb
  · rw [if_neg h1] at hb ⊢
    by_cases h2 : s.bad = true
    · rw [if_pos h2] at hb
      rw [h2] at hb; simp at hb
    · rw [if_neg h2] at hb ⊢
      by_cases h3 : (takeS s p).1 = 4
      · rw [if_pos h3] at hb; simp [poisS] at hb
      · rw [if_neg h3] at hb ⊢
        obtain ⟨T, hT⟩ := hi (by simpa using h2)
        have ho : ownB s p = true := by simpa using h1
        unfold ownB at ho
        rw [Bool.and_eq_true, Bool.and_eq_true] at ho
        exact ⟨_, take_iv hT (plc_of ho.2 ho.1.2) hw (opt_of ho.2) h3⟩
def PutE (w : World) (g : Nat) (s : Es) (p : Pk) (fp : List Nat) (E : Ending) (w' : World) : Prop :=
  E = .returned (.int .i64 (putS s p).1) ∧ ∃ fp', Ey w' g (putS s p).2 fp' ∧ (∀ x ∈ fp', x ∈ fp ∨ w.heap.size ≤ x) ∧ Away fp w w'
section
variable {w : World} {g : Nat} {s : Es} {fp : List Nat}
set_option maxHeartbeats 8000000 in
theorem eput_c (h : Ey w g s fp) (p : Pk) (po pd : Value) (hp : Pkt w p po pd) (hg : Glob w) (ho : Outs p po pd fp) (h0 : 0 ∉ fp) :
    Calls Tryz.prog 51 #[.pointer (some ⟨g, 0, none⟩), .agg (csP p po pd)] w (PutE w g s p fp) := by
  have HY := Lib.hid h
  have HP := Lib.hid hp
  have HG := Lib.hid hg
  have HAD := Lib.hid hp.wf.ad
  have HIV : Hid ((putS s p).2.bad = false → ∃ T, Iv (putS s p).2 T) := fun hb => put_iv h.iv hp.wf hb
  have HPU : Hid (putS s p = if ownB s p = false then (1, s) else if s.bad = true then (2, s) else if (takeS s p).1 = 4 then (4, poisS s) else takeS s p) := rfl
  obtain ⟨lp, xv, yv, mp, hb, hka, hfa⟩ := h.ent.blk
  have KO : Hid (∀ W, Away [] w W → Calls Tryz.prog 67 #[.pointer (some ⟨g, 0, none⟩), .agg (csP p po pd)] W fun E w' => E = .returned (.bool (ownB s p)) ∧ Away [] W w') := fun W hW => isOwn_c s (range_away hW (by simp) (csE_key hb)) hka p po pd (hp.on hW) (hg.on hW)
  have c38 := (csE_mid hka lp xv yv mp).2.1
  rw [← cell_of_block hb] at c38
  have HOW : Hid (ownB s p = true → Plc p ∧ p.o.length ≤ 40 ∧ (p.v = 4 ∨ p.v = 6)) := fun ho => by
    unfold ownB at ho
    rw [Bool.and_eq_true, Bool.and_eq_true] at ho
    exact ⟨plc_of ho.2 ho.1.2, opt_of ho.2, ver_of ho.2⟩
  have HOU := Lib.hid ho
  have H0 := Lib.hid h0
  generalize hob : ownB s p = ob at *
  clear h hp hg hb hka hfa ho h0 hob
  go_enter Tryz.func51, Tryz.ntmps51
  go_wp2_with (refine wpList_box28 rfl _ rfl p _ _ rfl ?_; refine Hid.out ?_)
  refine Lib.hid ?_
  intro g3 w3 hg3 hb3 haw3
  have HB3 := Lib.hid hb3
  have HA3 := Lib.hid haw3
  have K1 := Lib.hid (KO.out w3 haw3)
  replace HY := Lib.hid (HY.out.on haw3)
  have hz3 := haw3.size
  replace c38 := haw3.cell (by simp) c38
  clear hb3 haw3 KO
  cases ob with
  | false =>
    have HT2 : Hid (putS s p = (1, s)) := by show _ = _; rw [HPU.out, if_pos rfl]
    go_wp2_with (refine wpList_load28 rfl _ rfl _ rfl p _ _ (by exact HB3.out) HAD.out ?_)
    refine K1.out.mono ?_
    rintro E w4 ⟨rfl, haw4⟩
    have HA4 := Lib.hid (HA3.out.trans haw4)
    have HY4 := Lib.hid (HY.out.on haw4)
    clear haw4
    go_wp2_with fail
    go_ret
    exact ⟨ret_int (by rw [HT2.out]), fp, by rw [HT2.out]; exact HY4.out, fun x hx => .inl hx, HA4.out.mono (by simp)⟩
  | true =>
    cases hbad : s.bad with
    | true =>
      rw [hbad] at c38
      have HT2 : Hid (putS s p = (2, s)) := by show _ = _; rw [HPU.out, if_neg (by simp), if_pos hbad]
      clear hbad
      go_wp2_with (refine wpList_load28 rfl _ rfl _ rfl p _ _ (by exact HB3.out) HAD.out ?_)
      refine K1.out.mono ?_
      rintro E w4 ⟨rfl, haw4⟩
      have HA4 := Lib.hid (HA3.out.trans haw4)
      have HY4 := Lib.hid (HY.out.on haw4)
      replace c38 := haw4.cell (by simp) c38
      clear haw4
      go_wp2_with fail
      go_ret
      exact ⟨ret_int (by rw [HT2.out]), fp, by rw [HT2.out]; exact HY4.out, fun x hx => .inl hx, HA4.out.mono (by simp)⟩
    | false =>
      rw [hbad] at c38
      have HT2 : Hid (putS s p = if (takeS s p).1 = 4 then (4, poisS s) else takeS s p) := by show _ = _; rw [HPU.out, if_neg (by simp), if_neg (by rw [hbad]; simp)]
      obtain ⟨lb, lv, dv, ov, mb, mn, T, he, rfl, hmn, hT⟩ := HY.out.good hbad
      have HE := Lib.hid he
      have HT := Lib.hid hT
      have HMN := Lib.hid hmn
      have KT : Hid (∀ W, Away [] w3 W → Calls Tryz.prog 68 #[.pointer (some ⟨g, 0, none⟩), .agg (csP p po pd)] W (TkOut W g (takeS s p) (fpE g lb lv dv ov mb))) := fun W hW =>
        take_c (he.on hW) T hT hmn p po pd ((HP.out.on HA3.out).on hW) (HOW.out rfl).1 (HOW.out rfl).2.1 (HOW.out rfl).2.2 ((HG.out.on HA3.out).on hW) HOU.out H0.out
      clear hbad he hT hmn
      go_wp2_with (refine wpList_load28 rfl _ rfl _ rfl p _ _ (by exact HB3.out) HAD.out ?_)
      refine K1.out.mono ?_
      rintro E w4 ⟨rfl, haw4⟩
      have HA4 := Lib.hid (HA3.out.trans haw4)
      have K2 := Lib.hid (KT.out w4 haw4)
      have HB4 := Lib.hid (HB3.out.on haw4)
      replace c38 := haw4.cell (by simp) c38
      have hz4 := haw4.size
      clear haw4
      go_wp2_with (refine wpList_load28 rfl _ rfl _ rfl p _ _ (by exact HB4.out) HAD.out ?_)
      refine K2.out.mono ?_
      rintro E w5 ⟨rfl, lb', lv', dv', ov', mb', mn', he5, hmn5, hfp5, haw5⟩
      have HE5 := Lib.hid he5
      have HA5 : Hid (Away (fpE g lb lv dv ov mb) w w5) := (HA4.out.mono (by simp)).trans haw5
      have HF5 : Hid (∀ x ∈ fpE g lb' lv' dv' ov' mb', x ∈ fpE g lb lv dv ov mb ∨ w.heap.size ≤ x) := fun x hx => by
        rcases hfp5 x hx with h | h
        · exact .inl h
        · exact .inr (by omega)
      have HM5 := Lib.hid hmn5
      obtain ⟨tn, htn⟩ : ∃ tn, tn = (takeS s p).1 := ⟨_, rfl⟩
      rw [← htn]
      have HTN := Lib.hid htn
      have HKP : Hid ((takeS s p).2.k = s.k ∧ (takeS s p).2.tb = s.tb) := (take_bad s p).2
      clear he5 hmn5 hfp5 haw5 htn
      by_cases h4 : tn = 4
      · have h4' : (tn == 4) = true := by simpa using h4
        have HT3 : Hid (putS s p = (4, poisS s)) := by show _ = _; rw [HT2.out, if_pos (by rw [← HTN.out]; exact h4)]
        have KP := Lib.hid (poison_c (takeS s p).2 _ _ _ _ HE5.out.blk HE5.out.kad HE5.out.fad)
        subst h4
        go_wp2_with fail
        refine KP.out.mono ?_
        rintro E w6 ⟨rfl, hb6, haw6⟩
        have hpo : poisS (takeS s p).2 = poisS s := by unfold poisS; rw [HKP.out.1, HKP.out.2]
        rw [hpo] at hb6
        have HF : Hid (PutE w g s p (fpE g lb lv dv ov mb) (.returned (.int .i64 4)) w6) := by
          refine ⟨by rw [HT3.out], [g], ?_, fun x hx => .inl (by simp at hx; exact mem_fp.2 (.inl hx)), HA5.out.trans (haw6.mono (fun x hx => by simp at hx; exact mem_fp.2 (.inl hx)))⟩
          rw [HT3.out]
          exact ⟨.inl ⟨hb6, rfl⟩, fun hb => by simp [poisS] at hb⟩
        clear hb6 haw6
        go_wp2_with fail
        go_ret
        exact HF.out
      · have h4' : (tn == 4) = false := by simpa using h4
        have HT3 : Hid (putS s p = takeS s p) := by show _ = _; rw [HT2.out, if_neg (by rw [← HTN.out]; exact h4)]
        have HF : Hid (PutE w g s p (fpE g lb lv dv ov mb) (.returned (.int .i64 tn)) w5) := by
          refine ⟨by rw [HT3.out, HTN.out], _, ⟨?_, HIV.out⟩, HF5.out, HA5.out⟩
          rw [HT3.out]
          exact .inr ⟨lb', lv', dv', ov', mb', mn', HE5.out, rfl, HM5.out⟩
        clear h4
        go_wp2_with fail
        go_ret
        exact HF.out
/-! What an entry tells, as one. -/
theorem efirst_c (h : Ey w g s fp) : Calls Tryz.prog 59 #[.pointer (some ⟨g, 0, none⟩)] w (TellOut w (firstP s)) := by
  by_cases h0 : s.fl = 0
  · exact first_none h.ent h0
  · have hb : s.bad = false := by
      rcases h.ent with ⟨⟨-, -, h3, -⟩, -⟩ | ⟨lb, lv, dv, ov, mb, mn, h1, h2, h3⟩
      · exfalso; apply h0; rw [h3]; rfl
      · exact h1.nb
    obtain ⟨lb, lv, dv, ov, mb, mn, T, he, -, -, hT⟩ := h.good hb
    exact first_some he h0 hT.fl hT.db hT.dl hT.fw.o hT.fo
theorem ewhole_c (h : Ey w g s fp) : Calls Tryz.prog 52 #[.pointer (some ⟨g, 0, none⟩)] w (TellOut w (wholeP s)) := by
  cases hb : s.bad with
  | true => exact whole_bad h.ent hb
  | false =>
    obtain ⟨lb, lv, dv, ov, mb, mn, T, he, -, -, hT⟩ := h.good hb
    cases hd : doneB s with
    | false => exact whole_none he hd
    | true =>
      have h1 : s.e ≠ -1 := by
        unfold doneB at hd
        rw [Bool.and_eq_true] at hd
        exact of_decide_eq_true hd.1
      have h2 := hT.ho.en
      exact whole_some he hd (by omega) hT.en hT.db hT.dl hT.fw.o hT.fo
end
end Go.Proofs.YtkccpidgeecemaaGreatDoor
