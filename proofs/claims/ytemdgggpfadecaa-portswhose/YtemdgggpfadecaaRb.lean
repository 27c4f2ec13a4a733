/-
  The document: Bind, Close.
-/
import Derived.Test.YtemdgggpfadecaaRf
import Derived.Test.YtemdgggpfadecaaRk
namespace Go.Proofs.Ytemdgggpfadecaa
open Go.ChangeShapes Go.WideShapes Go.ChangeAt Go.RowKit
set_option linter.unusedVariables false
set_option linter.unusedSimpArgs false
set_option maxRecDepth 100000

def RBOut (w : World) (g : Nat) (v : Value) (r : (Int × Int × Int) × Tb) (E : Ending) (w' : World) : Prop := E = .returned (.tuple #[.int .i64 r.1.1, .int .i64 r.1.2.1, .int .i64 r.1.2.2]) ∧ ∃ v', KS.Tm w' g v' r.2 ∧ Away (KS.fp g v) w w' ∧ Moved w v v'
theorem idx_iff {t : Tb} (h : WfT t) {v : Int} {l : List Int} {p : Int} : (∃ k, idxP (hit v l p) t.bs = some k) ↔ justP t.bs v l p ≠ 0 := by
  constructor
  · rintro ⟨k, hk⟩; exact (justP_some h hk).1
  · intro hj
    cases hi : idxP (hit v l p) t.bs with
    | none => exact absurd (justP_none hi) hj
    | some k => exact ⟨k, rfl⟩
open KS in
set_option maxHeartbeats 16000000 in
theorem rbind_c {w : World} {g : Nat} {v : Value} {t : Tb} (h : Tm w g v t) (av : Int) (al : List Int) (hl : Byt al) (p : Int) (hb : t.last < 9223372036854775807) :
    Calls Try.prog 30 #[.pointer (some ⟨g, 0, none⟩), .agg (csA av al), .int .i64 p] w (RBOut w g v (bindP t av al p)) := by
  have H := Lib.hid h
  have HL := Lib.hid hl
  have hgw := h.lt
  have hl0 := h.wf.l0
  have K38 : Hid (∀ W q, Away [] w W → Calls Try.prog 38 #[.pointer (some ⟨g, 0, none⟩), .agg (csA av al), .int .i64 q] W fun E w' => E = .returned (.int .i64 (plc (idxP (hit av al q) t.bs))) ∧ Away [] W w') := fun W q hW => rjust_c (h.on hW) av al hl.1 q
  have K37 : Hid (∀ W, Calls Try.prog 37 #[.agg (csA av al)] W fun E w' => E = .returned (.int .i64 (kindP av al)) ∧ Away [] W w') := fun W => rkind_c av al hl W
  have HIF : Hid (∀ q, (∃ k, idxP (hit av al q) t.bs = some k) ↔ justP t.bs av al q ≠ 0) := fun q => idx_iff h.wf
  have HJ0 := Lib.hid (justP_zero h.wf (v := av) (l := al))
  have HWF := Lib.hid (h.wf.bind av al p hl)
  have HFP := Lib.hid (freeP_is h.wf av al)
  have HFA : Hid (∀ k : Int, 49152 ≤ k → justP t.bs av al k = 0 → (∀ q, 49152 ≤ q → q < k → justP t.bs av al q ≠ 0) → freeP t.bs av al = k) := fun k h0 h1 h2 => freeP_at h.wf h0 h1 h2
  obtain ⟨kd, hkd⟩ : ∃ m, m = kindP av al := ⟨_, rfl⟩
  have HM : Hid (mayP av al = (decide (kd = 1) || decide (kd = 5))) := by show _ = _; rw [hkd]; rfl
  rw [← hkd] at K37
  obtain ⟨bad, hbad⟩ : ∃ z, z = ((!(decide (kd = 1) || decide (kd = 5))) || (decide (p < 0) || decide (65535 < p))) := ⟨_, rfl⟩
  have HBAD := Lib.hid hbad
  clear h hl hkd hbad
  go_enter Try.func30, Try.ntmps30
  go_wp2_with (refine wpList_box32 rfl _ rfl av al rfl ?_; refine Hid.out ?_)
  refine Lib.hid ?_
  intro g4 w1 hg4 hb4 haw
  have HA := Lib.hid haw
  have HB := Lib.hid hb4
  clear hb4 haw
  go_wp2_with (refine wpList_load32 rfl _ rfl g4 rfl av al HL.out.1 HB.out ?_)
  refine (K37.out _).mono ?_
  rintro E w2 ⟨rfl, haw⟩
  replace HA := Lib.hid (HA.out.trans haw)
  replace HB := Lib.hid (HB.out.on haw (by simp))
  clear haw K37
  go_upto_region 2 with fail
  go_cut [25] (fun v wc => v = .bool bad ∧ wc = w2)
  case first =>
    by_cases h1 : kd = 1
    · have e1 : (kd != 1) = false := by simp [h1]
      have h1' : decide (kd = 1) = true := by simpa using h1
      by_cases h0 : p < 0
      · have e0 : decide (p < 0) = true := by simpa using h0
        rw [h1', e0] at HBAD
        clear h1 h0
        go_wp2_with fail
        go_meet
        exact ⟨by rw [HBAD.out]; rfl, rfl⟩
      · have e0 : decide (p < 0) = false := by simpa using h0
        rw [h1', e0] at HBAD
        clear h1 h0
        go_wp2_with fail
        go_meet
        exact ⟨by rw [HBAD.out]; rfl, rfl⟩
    · have e1 : (kd != 1) = true := by simpa using h1
      have h1' : decide (kd = 1) = false := by simpa using h1
      by_cases h5 : kd = 5
      · have e5 : (kd != 5) = false := by simp [h5]
        have h5' : decide (kd = 5) = true := by simpa using h5
        by_cases h0 : p < 0
        · have e0 : decide (p < 0) = true := by simpa using h0
          rw [h1', h5', e0] at HBAD
          clear h1 h0 h5
          go_wp2_with fail
          go_meet
          exact ⟨by rw [HBAD.out]; rfl, rfl⟩
        · have e0 : decide (p < 0) = false := by simpa using h0
          rw [h1', h5', e0] at HBAD
          clear h1 h0 h5
          go_wp2_with fail
          go_meet
          exact ⟨by rw [HBAD.out]; rfl, rfl⟩
      · have e5 : (kd != 5) = true := by simpa using h5
        have h5' : decide (kd = 5) = false := by simpa using h5
        rw [h1', h5'] at HBAD
        clear h1 h5
        go_wp2_with fail
        go_meet
        exact ⟨by rw [HBAD.out]; rfl, rfl⟩
  case rest =>
  obtain ⟨rfl, hwc⟩ := hcut
  obtain rfl := hwc.symm
  cases bad
  rotate_left
  · have HE : Hid (bindP t av al p = ((0, 0, 1), t)) := by
      show _ = _
      have h1 := HBAD.out
      unfold bindP
      rw [if_pos]
      rw [HM.out]
      cases hx : (decide (kd = 1) || decide (kd = 5))
      · exact .inl rfl
      · rw [hx] at h1
        simp at h1
        exact .inr h1
    go_wp2_with fail
    go_ret3
    rw [HE.out]
    exact ⟨rfl, v, H.out.on HA.out, HA.out.mono (by simp), Moved.refl _ _⟩
  have HNA : Hid (¬ (mayP av al = false ∨ p < 0 ∨ 65535 < p)) := by
    show ¬ _
    have h1 := HBAD.out
    rw [HM.out]
    cases hx : (decide (kd = 1) || decide (kd = 5))
    · rw [hx] at h1; simp at h1
    · rw [hx] at h1
      simp at h1
      simp
      omega
  have hp0 : 0 ≤ p := by have := HNA.out; simp only [not_or] at this; omega
  have hp1 : p ≤ 65535 := by have := HNA.out; simp only [not_or] at this; omega
  clear HBAD HM
  obtain ⟨la, lc, hv, -⟩ := H.out.shape
  subst hv
  obtain ⟨n, hn⟩ : ∃ n, n = t.bs.length := ⟨_, rfl⟩
  have hn32 : n ≤ 32 := by have := H.out.wf.le; omega
  rw [← hn] at H
  have HN := Lib.hid hn
  have hm32 := H.out.wf.m1
  clear hn
  by_cases hp : p = 0
  · subst hp
    have HJ : Hid (justP t.bs av al 0 = 0) := HJ0.out
    obtain ⟨w3, hw3⟩ : ∃ z, z = w2 := ⟨_, rfl⟩
    rw [← hw3] at HA HB ⊢
    clear hw3
    go_wp2_with fail
    have c0 := HA.out.cell (by simp) H.out.c0
    have c2 := HA.out.cell (by simp) H.out.c2
    by_cases hfull : (n : Int) = t.most
    · have HE2 : Hid (bindP t av al 0 = ((0, 0, 201), t)) := by
        show _ = _
        unfold bindP
        rw [if_neg HNA.out, if_neg (by rw [HJ.out]; simp), if_pos (by rw [← HN.out]; exact hfull)]
      have d2 : decide (t.most ≤ (n : Int)) = true := by simp; omega
      clear hfull
      go_quiet (fail)
      go_wp2_with fail
      go_ret3
      rw [HE2.out]
      exact ⟨rfl, _, (by rw [← HN.out]; exact H.out.on (HA.out.drewN _)), (HA.out.drewN _).mono (by simp), Moved.refl _ _⟩
    have hnm : n < t.most := by have := H.out.wf.len; rw [← HN.out] at this; omega
    have HFL := Lib.hid hfull
    have d2 : decide (t.most ≤ (n : Int)) = false := by simp; omega
    clear hfull
    go_quiet (fail)
    have haw := (Away.refl [] w3).drewN nq
    replace HA := Lib.hid (HA.out.drewN nq)
    replace HB := Lib.hid (HB.out.on haw (by simp))
    clear haw c0 c2
    generalize w3.drewN nq = w4 at *
    go_wp2_with fail
    go_loopw [2] (fun i wr => ∃ q : Int, i = .int .i64 q ∧ 49152 ≤ q ∧ q ≤ 65535 ∧ Away [] w wr ∧ BoxA wr g4 av al ∧ ∀ r, 49152 ≤ r → r < q → justP t.bs av al r ≠ 0) (fun i _ => (65536 - intOf i).toNat)
    case atStart => exact ⟨49152, rfl, by omega, by omega, HA.out, HB.out, fun q h1 h2 => by omega⟩
    case round =>
      clear HA HB
      obtain ⟨q, rfl, hk0, hk1, haw, hbx, hno⟩ := hrel
      have HA := Lib.hid haw
      have HB := Lib.hid hbx
      have HNO := Lib.hid hno
      clear haw hbx hno
      go_wp2_with (refine wpList_load32 rfl _ rfl g4 rfl av al HL.out.1 HB.out ?_)
      refine (K38.out _ q HA.out).mono ?_
      rintro E w4 ⟨rfl, haw⟩
      replace HA := Lib.hid (HA.out.trans haw)
      replace HB := Lib.hid (HB.out.on haw (by simp))
      clear haw
      obtain ⟨i, hi⟩ : ∃ z, z = idxP (hit av al q) t.bs := ⟨_, rfl⟩
      rw [← hi]
      rcases i with _ | i
      rotate_left
      · have HZ0 : Hid (justP t.bs av al q ≠ 0) := (HIF.out q).1 ⟨i, hi.symm⟩
        have hkf : q < freeP t.bs av al := by
          obtain ⟨h1, h2, h3, h4⟩ := HFP.out
          rcases Int.lt_trichotomy q (freeP t.bs av al) with h5 | h5 | h5
          · exact h5
          · rw [← h5] at h3; exact absurd h3 HZ0.out
          · exact absurd h3 (HNO.out _ h1 h5)
        have hf2 := HFP.out.2.1
        have hq1 : q + 1 ≤ 65535 := by omega
        simp only [plc]
        have e0 : decide ((0 : Int) ≤ (i : Int)) = true := by simp
        clear hi hkf hf2
        go_wp2_with fail
        go_roundw
        case rel => exact ⟨q + 1, by go_num, by omega, by omega, HA.out, HB.out, fun r h1 h2 => by
          by_cases hq : r = q
          · rw [hq]; exact HZ0.out
          · exact HNO.out r h1 (by omega)⟩
        case measure => simp [intOf]; omega
      have hjq : justP t.bs av al q = 0 := by
        apply Classical.byContradiction
        intro hne
        obtain ⟨k, hk⟩ := (HIF.out q).2 hne
        rw [← hi] at hk; simp at hk
      have HPP : Hid ((if (0 : Int) = 0 then freeP t.bs av al else 0) = q) := by show _ = _; rw [if_pos rfl]; exact HFA.out q hk0 hjq HNO.out
      clear hi hjq
      simp only [plc]
      have HE2 : Hid (bindP t av al 0 = ((t.last + 1, q, 0), ⟨t.most, t.last + 1, t.bs ++ [⟨t.last + 1, av, al, q⟩]⟩)) := by
        show _ = _
        unfold bindP
        rw [if_neg HNA.out, if_neg (by rw [HJ.out]; simp), if_neg (by rw [← HN.out]; exact HFL.out), HPP.out]
      rw [HE2.out] at HWF
      clear HNA HJ HFL HPP
      have HT := Lib.hid (H.out.on HA.out)
      have c1 := HT.out.c1
      have f1 := HT.out.free 1
      have hlw : IntKind.i64.wrap (t.last + 1) = t.last + 1 := by rw [IntKind.wrap_i64]; omega
      go_upto_region 13 with fail
      have haw := (Away.refl [g] w4).setCell (p := ⟨g, 1, none⟩) (.inl (by simp)) (.int .i64 (t.last + 1))
      have HBX : Hid ((w4.setCell ⟨g, 1, none⟩ (.int .i64 (t.last + 1))).heap[g]? = some (.cells #[.int .i64 t.most, .int .i64 (t.last + 1), .slice la n lc] 74 (0, 0))) := by show _ = _; rw [block_set HT.out.box]; rfl
      have HLS : Hid (LstD (w4.setCell ⟨g, 1, none⟩ (.int .i64 (t.last + 1))) (.slice la n lc) t.bs) := HT.out.lst.away haw (fun k hk => by simp; exact H.out.ne k hk)
      replace HB := Lib.hid (HB.out.on haw (by simp; omega))
      have HA4 : Hid (Away [g] w (w4.setCell ⟨g, 1, none⟩ (.int .i64 (t.last + 1)))) := (HA.out.mono (by simp)).trans haw
      clear haw c1 f1 HT HA
      generalize w4.setCell ⟨g, 1, none⟩ (.int .i64 (t.last + 1)) = w5 at *
      have haw := (Away.refl [] w5).drew
      replace HBX : Hid (w5.drew.heap[g]? = some (.cells #[.int .i64 t.most, .int .i64 (t.last + 1), .slice la n lc] 74 (0, 0))) := HBX.out
      replace HLS := Lib.hid (HLS.out.on haw)
      replace HB := Lib.hid (HB.out.on haw (by simp))
      replace HA4 := Lib.hid (HA4.out.drew)
      have hs : w5.drew.cell? ⟨g, 2, none⟩ = some (.slice la n lc) ∧ w5.drew.cell? ⟨g, 1, none⟩ = some (.int .i64 (t.last + 1)) ∧ BoxA w5.drew g4 av al := ⟨by rw [cell_of_block HBX.out]; rfl, by rw [cell_of_block HBX.out]; rfl, HB.out⟩
      refine wp_region_U 16 (fun w' => w'.cell? ⟨g, 2, none⟩ = some (.slice la n lc) ∧ w'.cell? ⟨g, 1, none⟩ = some (.int .i64 (t.last + 1)) ∧ BoxA w' g4 av al) (by kernel_rfl) ?_
      clear haw
      generalize w5.drew = w5 at *
      refine wpAnyU_take (i := 0) (v := ?_) (by simp only [List.getElem?_toArray, List.getElem?_cons_zero]; rfl) (by kernel_rfl) (by kernel_rfl) (by kernel_rfl) (by decide) (by kernel_rfl) (by kernel_rfl) (by exact fun _ _ _ h => h) (Or.inl ⟨by rfl, ?_⟩) (by exact hs) ?_
      rotate_left
      · intro wq hSw
        clear hSw
        go_simp
        all_goals (with_reducible rfl)
      try simp only [Act.put, List.setIfInBounds_toArray, List.set_cons_zero, List.set_cons_succ]
      refine wpAnyU_take (i := 1) (v := ?_) (by simp only [List.getElem?_toArray, List.getElem?_cons_succ, List.getElem?_cons_zero]; rfl) (by kernel_rfl) (by kernel_rfl) (by kernel_rfl) (by decide) (by kernel_rfl) (by kernel_rfl) (by exact fun _ _ _ h => h) (Or.inl ⟨by rfl, ?_⟩) (by exact hs) ?_
      rotate_left
      · intro wq hSw
        clear hSw
        go_simp
        all_goals (with_reducible rfl)
      try simp only [Act.put, List.setIfInBounds_toArray, List.set_cons_zero, List.set_cons_succ]
      refine wpAnyU_take (i := 2) (v := ?_) (by simp only [List.getElem?_toArray, List.getElem?_cons_succ, List.getElem?_cons_zero]; rfl) (by kernel_rfl) (by kernel_rfl) (by kernel_rfl) (by decide) (by kernel_rfl) (by kernel_rfl) (by exact fun _ _ _ h => h) (Or.inl ⟨by rfl, ?_⟩) (by exact hs) ?_
      rotate_left
      · intro wq hSw
        clear hSw
        go_simp
        all_goals (with_reducible rfl)
      try simp only [Act.put, List.setIfInBounds_toArray, List.set_cons_zero, List.set_cons_succ]
      refine wpAnyU_take (i := 3) (v := ?_) (by simp only [List.getElem?_toArray, List.getElem?_cons_succ, List.getElem?_cons_zero]; rfl) (by kernel_rfl) (by kernel_rfl) (by kernel_rfl) (by decide) (by kernel_rfl) (by kernel_rfl) (by exact fun _ _ _ h => h) (Or.inl ⟨by rfl, ?_⟩) (by exact hs) ?_
      rotate_left
      · intro wq hSw
        clear hSw
        go_simp
        all_goals (with_reducible rfl)
      try simp only [Act.put, List.setIfInBounds_toArray, List.set_cons_zero, List.set_cons_succ]
      refine wpAnyU_take (i := 4) (by simp only [List.getElem?_toArray, List.getElem?_cons_succ, List.getElem?_cons_zero]; rfl) (by kernel_rfl) (by kernel_rfl) (by kernel_rfl) (by decide) (by kernel_rfl) (by kernel_rfl) (by exact fun _ _ _ h => h) (yields_ld (ad := ⟨g, 2, none⟩) (by rfl) _ rfl rfl (fun w' h => ldL h.1)) (by exact hs) ?_
      try simp only [Act.put, List.setIfInBounds_toArray, List.set_cons_zero, List.set_cons_succ]
      refine wpAnyU_take (i := 5) (v := ?_) (by simp only [List.getElem?_toArray, List.getElem?_cons_succ, List.getElem?_cons_zero]; rfl) (by kernel_rfl) (by kernel_rfl) (by kernel_rfl) (by decide) (by kernel_rfl) (by kernel_rfl) (by exact fun _ _ _ h => h) (Or.inl ⟨by rfl, ?_⟩) (by exact hs) ?_
      rotate_left
      · intro wq hSw
        clear hSw
        go_simp
        all_goals (with_reducible rfl)
      try simp only [Act.put, List.setIfInBounds_toArray, List.set_cons_zero, List.set_cons_succ]
      refine wpAnyU_take (i := 6) (v := ?_) (by simp only [List.getElem?_toArray, List.getElem?_cons_succ, List.getElem?_cons_zero]; rfl) (by kernel_rfl) (by kernel_rfl) (by kernel_rfl) (by decide) (by kernel_rfl) (by kernel_rfl) (by exact fun _ _ _ h => h) (Or.inl ⟨by rfl, ?_⟩) (by exact hs) ?_
      rotate_left
      · intro wq hSw
        clear hSw
        go_simp
        all_goals (with_reducible rfl)
      try simp only [Act.put, List.setIfInBounds_toArray, List.set_cons_zero, List.set_cons_succ]
      refine wpAnyU_take (i := 7) (v := ?_) (by simp only [List.getElem?_toArray, List.getElem?_cons_succ, List.getElem?_cons_zero]; rfl) (by kernel_rfl) (by kernel_rfl) (by kernel_rfl) (by decide) (by kernel_rfl) (by kernel_rfl) (by exact fun _ _ _ h => h) (Or.inl ⟨by rfl, ?_⟩) (by exact hs) ?_
      rotate_left
      · intro wq hSw
        clear hSw
        go_simp
        all_goals (with_reducible rfl)
      try simp only [Act.put, List.setIfInBounds_toArray, List.set_cons_zero, List.set_cons_succ]
      refine wpAnyU_take (i := 8) (by simp only [List.getElem?_toArray, List.getElem?_cons_succ, List.getElem?_cons_zero]; rfl) (by kernel_rfl) (by kernel_rfl) (by kernel_rfl) (by decide) (by kernel_rfl) (by kernel_rfl) (by exact fun _ _ _ h => h) (yields_ld (ad := ⟨g, 1, none⟩) (by rfl) _ rfl rfl (fun w' h => ld3 h.2.1)) (by exact hs) ?_
      try simp only [Act.put, List.setIfInBounds_toArray, List.set_cons_zero, List.set_cons_succ]
      refine wpAnyU_take (i := 9) (by simp only [List.getElem?_toArray, List.getElem?_cons_succ, List.getElem?_cons_zero]; rfl) (by kernel_rfl) (by kernel_rfl) (by kernel_rfl) (by decide) (by kernel_rfl) (by kernel_rfl) (by exact fun _ _ _ h => h) (yields_ld (ad := ⟨g4, 0, none⟩) (by rfl) _ rfl rfl (fun w' h => load32m_run h.2.2.range HL.out.1)) (by exact hs) ?_
      try simp only [Act.put, List.setIfInBounds_toArray, List.set_cons_zero, List.set_cons_succ]
      refine wpAnyU_take (i := 10) (v := ?_) (by simp only [List.getElem?_toArray, List.getElem?_cons_succ, List.getElem?_cons_zero]; rfl) (by kernel_rfl) (by kernel_rfl) (by kernel_rfl) (by decide) (by kernel_rfl) (by kernel_rfl) (by exact fun _ _ _ h => h) (Or.inl ⟨by rfl, ?_⟩) (by exact hs) ?_
      rotate_left
      · intro wq hSw
        clear hSw
        go_simp
        all_goals (with_reducible rfl)
      try simp only [Act.put, List.setIfInBounds_toArray, List.set_cons_zero, List.set_cons_succ]
      refine wpAnyU_take (i := 11) (by simp only [List.getElem?_toArray, List.getElem?_cons_succ, List.getElem?_cons_zero]; rfl) (by kernel_rfl) (by kernel_rfl) (by kernel_rfl) (by decide) (by kernel_rfl) (by kernel_rfl) (by exact fun _ _ _ h => h) (yields_buildE (by rfl) _ _ _ rfl ⟨t.last + 1, av, al, q⟩ HL.out.1 rfl rfl rfl) (by exact hs) ?_
      try simp only [Act.put, List.setIfInBounds_toArray, List.set_cons_zero, List.set_cons_succ]
      refine wpAnyU_ready (rs := [12]) (by kernel_rfl) (by simp) ?_
      refine ReadyU.cons (by simp only [List.getElem?_toArray, List.getElem?_cons_succ, List.getElem?_cons_zero]; rfl) (fun K hK => ?_) ReadyU.nil
      refine step_buildS rfl _ rfl ⟨t.last + 1, av, al, q⟩ rfl HL.out.1 (fun gb w6 hgb hbx haw => ?_)
      have hs1 : w6.cell? ⟨g, 2, none⟩ = some (.slice la n lc) ∧ w6.cell? ⟨g, 1, none⟩ = some (.int .i64 (t.last + 1)) ∧ BoxA w6 g4 av al := ⟨haw.cell (by simp) hs.1, haw.cell (by simp) hs.2.1, hs.2.2.on haw (by simp)⟩
      have HBN := Lib.hid hbx
      replace HBX := Lib.hid (haw.keep (by simp) HBX.out)
      replace HLS := Lib.hid (HLS.out.on haw)
      replace HA4 := Lib.hid (HA4.out.next haw (by simp))
      clear hs hbx haw
      refine hK.out _ _ (fun _ => by exact hs1) ?_
      clear hK K
      try simp only [Act.put, List.setIfInBounds_toArray, List.set_cons_zero, List.set_cons_succ]
      refine wpAnyU_ready (rs := [13]) (by kernel_rfl) (by simp) ?_
      refine ReadyU.cons (by simp only [List.getElem?_toArray, List.getElem?_cons_succ, List.getElem?_cons_zero]; rfl) (fun K hK => ?_) ReadyU.nil
      refine step_appS rfl _ _ rfl (.slice la n lc) t.bs gb 1 ⟨t.last + 1, av, al, q⟩ rfl rfl HLS.out HBN.out HL.out.1 (by rw [← HN.out]; omega) (fun v' w7 hl hgr hmv => ?_)
      have hgo : g ∉ (Value.slice la n lc).ownBlock.toList := fun hc => H.out.ne g (by simpa using hc) rfl
      have hg4o : g4 ∉ (Value.slice la n lc).ownBlock.toList := fun hc => by
        have h1 := H.out.lst.lt g4 (by simpa using hc)
        omega
      have haw : Away (Value.slice la n lc).ownBlock.toList w6 w7 := Away.grow hgr
      have hs : w7.cell? ⟨g, 2, none⟩ = some (.slice la n lc) ∧ w7.cell? ⟨g, 1, none⟩ = some (.int .i64 (t.last + 1)) ∧ BoxA w7 g4 av al := ⟨haw.cell hgo hs1.1, haw.cell hgo hs1.2.1, hs1.2.2.on haw hg4o⟩
      have HB7 := Lib.hid (haw.keep hgo HBX.out)
      have HL7 := Lib.hid hl
      have hsz := HA4.out.size
      have HMV : Hid (Moved w (.slice la n lc) v') := fun k hk => by
        rcases hmv k hk with h1 | h1
        · exact .inl h1
        · exact .inr (by omega)
      have HVG : Hid (∀ k, v'.ownBlock = some k → k ≠ g) := fun k hk => by
        rcases HMV.out k hk with h1 | h1
        · exact H.out.ne k h1
        · omega
      have HA7 : Hid (Away (fp g (.slice la n lc)) w w7) := (HA4.out.mono (by simp [fp])).next haw (fun x hx => .inl (by simp [fp]; exact .inr (by simpa using hx)))
      obtain ⟨va, vn, vc, hv2⟩ : ∃ a n c, v' = .slice a n c := by obtain ⟨a, c, h1, -⟩ := hl.sl; exact ⟨a, _, c, h1⟩
      subst hv2
      clear hs1 hl hgr hmv haw hgo hg4o HLS HBX HBN hsz
      refine hK.out _ _ (fun _ => by exact hs) ?_
      clear hK K
      try simp only [Act.put, List.setIfInBounds_toArray, List.set_cons_zero, List.set_cons_succ]
      refine wpAnyU_ready (rs := [14]) (by kernel_rfl) (by simp) ?_
      refine ReadyU.cons (by simp only [List.getElem?_toArray, List.getElem?_cons_succ, List.getElem?_cons_zero]; rfl) (fun K hK => ?_) ReadyU.nil
      go_simp
      refine hK.out _ _ (fun _ => by exact hs) ?_
      clear hK K
      try simp only [Act.put, List.setIfInBounds_toArray, List.set_cons_zero, List.set_cons_succ]
      refine wpAnyU_ready (rs := [15]) (by kernel_rfl) (by simp) ?_
      refine ReadyU.cons (by simp only [List.getElem?_toArray, List.getElem?_cons_succ, List.getElem?_cons_zero]; rfl) (fun K hK => ?_) ReadyU.nil
      go_simp
      refine hK.out _ _ (fun _ => by exact hs) ?_
      clear hK K
      try simp only [Act.put, List.setIfInBounds_toArray, List.set_cons_zero, List.set_cons_succ]
      have c2 := cell_of_block HB7.out 2
      have f2 := free_of_block HB7.out 2
      simp at c2
      refine wpAnyU_ready (rs := [16]) (by kernel_rfl) (by simp) ?_
      refine ReadyU.cons (by simp only [List.getElem?_toArray, List.getElem?_cons_succ, List.getElem?_cons_zero]; rfl) (fun K hK => ?_) ReadyU.nil
      go_simp
      refine hK.out _ _ (fun h => absurd h (by decide)) ?_
      clear hK K hs
      refine wpAnyU_done (by kernel_rfl) ?_ _
      have haw := (Away.refl [g] w7).setCell (p := ⟨g, 2, none⟩) (.inl (by simp)) (.slice va vn vc)
      have HB8 : Hid ((w7.setCell ⟨g, 2, none⟩ (.slice va vn vc)).heap[g]? = some (.cells #[.int .i64 t.most, .int .i64 (t.last + 1), .slice va vn vc] 74 (0, 0))) := by show _ = _; rw [block_set HB7.out]; rfl
      have HL8 := Lib.hid (HL7.out.away haw (fun k hk => by simp; exact HVG.out k hk))
      have HA8 : Hid (Away (fp g (.slice la n lc)) w (w7.setCell ⟨g, 2, none⟩ (.slice va vn vc))) := HA7.out.trans (haw.mono (by simp [fp]))
      clear haw c2 f2 HB7 HL7 HA7
      generalize w7.setCell ⟨g, 2, none⟩ (.slice va vn vc) = w8 at *
      have c1 := cell_of_block HB8.out 1
      simp at c1
      go_wp2_with fail
      go_ret3
      rw [HE2.out]
      exact ⟨rfl, _, ⟨HB8.out, HL8.out, HVG.out, HWF.out⟩, by rw [← HN.out]; exact HA8.out, by rw [← HN.out]; exact HMV.out⟩
  · have hpp : 0 < p := by omega
    have e0 : decide (0 < p) = true := by simpa using hpp
    have ep : (p == 0) = false := by simpa using hp
    go_wp2_with (refine wpList_load32 rfl _ rfl g4 rfl av al HL.out.1 HB.out ?_)
    refine (K38.out _ p HA.out).mono ?_
    rintro E w3 ⟨rfl, haw⟩
    replace HA := Lib.hid (HA.out.trans haw)
    replace HB := Lib.hid (HB.out.on haw (by simp))
    clear haw
    obtain ⟨i, hi⟩ : ∃ z, z = idxP (hit av al p) t.bs := ⟨_, rfl⟩
    rw [← hi]
    rcases i with _ | i
    rotate_left
    · have HE : Hid (bindP t av al p = ((0, 0, 200), t)) := by show _ = _; unfold bindP; rw [if_neg HNA.out, if_pos ((HIF.out p).1 ⟨i, hi.symm⟩)]
      simp only [plc]
      have e1 : decide ((0 : Int) ≤ (i : Int)) = true := by simp
      go_wp2_with fail
      go_ret3
      rw [HE.out]
      exact ⟨rfl, _, by rw [← HN.out]; exact H.out.on HA.out, HA.out.mono (by simp), Moved.refl _ _⟩
    have HJ : Hid (justP t.bs av al p = 0) := by
      show _ = _
      apply Classical.byContradiction
      intro hne
      obtain ⟨k, hk⟩ := (HIF.out p).2 hne
      rw [← hi] at hk; simp at hk
    have HPP : Hid ((if p = 0 then freeP t.bs av al else p) = p) := by show _ = _; rw [if_neg hp]
    clear hi hp hpp e0
    simp only [plc]
    go_wp2_with fail
    have c0 := HA.out.cell (by simp) H.out.c0
    have c2 := HA.out.cell (by simp) H.out.c2
    by_cases hfull : (n : Int) = t.most
    · have HE2 : Hid (bindP t av al p = ((0, 0, 201), t)) := by
        show _ = _
        unfold bindP
        rw [if_neg HNA.out, if_neg (by rw [HJ.out]; simp), if_pos (by rw [← HN.out]; exact hfull)]
      have d2 : decide (t.most ≤ (n : Int)) = true := by simp; omega
      clear hfull
      go_quiet (fail)
      go_wp2_with fail
      go_ret3
      rw [HE2.out]
      exact ⟨rfl, _, (by rw [← HN.out]; exact H.out.on (HA.out.drewN _)), (HA.out.drewN _).mono (by simp), Moved.refl _ _⟩
    have hnm : n < t.most := by have := H.out.wf.len; rw [← HN.out] at this; omega
    have HFL := Lib.hid hfull
    have d2 : decide (t.most ≤ (n : Int)) = false := by simp; omega
    clear hfull
    go_quiet (fail)
    have haw := (Away.refl [] w3).drewN nq
    replace HA := Lib.hid (HA.out.drewN nq)
    replace HB := Lib.hid (HB.out.on haw (by simp))
    clear haw c0 c2
    generalize w3.drewN nq = w4 at *
    have HE2 : Hid (bindP t av al p = ((t.last + 1, p, 0), ⟨t.most, t.last + 1, t.bs ++ [⟨t.last + 1, av, al, p⟩]⟩)) := by
      show _ = _
      unfold bindP
      rw [if_neg HNA.out, if_neg (by rw [HJ.out]; simp), if_neg (by rw [← HN.out]; exact HFL.out), HPP.out]
    rw [HE2.out] at HWF
    clear HNA HJ HFL HPP
    have HT := Lib.hid (H.out.on HA.out)
    have c1 := HT.out.c1
    have f1 := HT.out.free 1
    have hlw : IntKind.i64.wrap (t.last + 1) = t.last + 1 := by rw [IntKind.wrap_i64]; omega
    go_upto_region 13 with fail
    have haw := (Away.refl [g] w4).setCell (p := ⟨g, 1, none⟩) (.inl (by simp)) (.int .i64 (t.last + 1))
    have HBX : Hid ((w4.setCell ⟨g, 1, none⟩ (.int .i64 (t.last + 1))).heap[g]? = some (.cells #[.int .i64 t.most, .int .i64 (t.last + 1), .slice la n lc] 74 (0, 0))) := by show _ = _; rw [block_set HT.out.box]; rfl
    have HLS : Hid (LstD (w4.setCell ⟨g, 1, none⟩ (.int .i64 (t.last + 1))) (.slice la n lc) t.bs) := HT.out.lst.away haw (fun k hk => by simp; exact H.out.ne k hk)
    replace HB := Lib.hid (HB.out.on haw (by simp; omega))
    have HA4 : Hid (Away [g] w (w4.setCell ⟨g, 1, none⟩ (.int .i64 (t.last + 1)))) := (HA.out.mono (by simp)).trans haw
    clear haw c1 f1 HT HA
    generalize w4.setCell ⟨g, 1, none⟩ (.int .i64 (t.last + 1)) = w5 at *
    have haw := (Away.refl [] w5).drew
    replace HBX : Hid (w5.drew.heap[g]? = some (.cells #[.int .i64 t.most, .int .i64 (t.last + 1), .slice la n lc] 74 (0, 0))) := HBX.out
    replace HLS := Lib.hid (HLS.out.on haw)
    replace HB := Lib.hid (HB.out.on haw (by simp))
    replace HA4 := Lib.hid (HA4.out.drew)
    have hs : w5.drew.cell? ⟨g, 2, none⟩ = some (.slice la n lc) ∧ w5.drew.cell? ⟨g, 1, none⟩ = some (.int .i64 (t.last + 1)) ∧ BoxA w5.drew g4 av al := ⟨by rw [cell_of_block HBX.out]; rfl, by rw [cell_of_block HBX.out]; rfl, HB.out⟩
    refine wp_region_U 16 (fun w' => w'.cell? ⟨g, 2, none⟩ = some (.slice la n lc) ∧ w'.cell? ⟨g, 1, none⟩ = some (.int .i64 (t.last + 1)) ∧ BoxA w' g4 av al) (by kernel_rfl) ?_
    clear haw
    generalize w5.drew = w5 at *
    refine wpAnyU_take (i := 0) (v := ?_) (by simp only [List.getElem?_toArray, List.getElem?_cons_zero]; rfl) (by kernel_rfl) (by kernel_rfl) (by kernel_rfl) (by decide) (by kernel_rfl) (by kernel_rfl) (by exact fun _ _ _ h => h) (Or.inl ⟨by rfl, ?_⟩) (by exact hs) ?_
    rotate_left
    · intro wq hSw
      clear hSw
      go_simp
      all_goals (with_reducible rfl)
    try simp only [Act.put, List.setIfInBounds_toArray, List.set_cons_zero, List.set_cons_succ]
    refine wpAnyU_take (i := 1) (v := ?_) (by simp only [List.getElem?_toArray, List.getElem?_cons_succ, List.getElem?_cons_zero]; rfl) (by kernel_rfl) (by kernel_rfl) (by kernel_rfl) (by decide) (by kernel_rfl) (by kernel_rfl) (by exact fun _ _ _ h => h) (Or.inl ⟨by rfl, ?_⟩) (by exact hs) ?_
    rotate_left
    · intro wq hSw
      clear hSw
      go_simp
      all_goals (with_reducible rfl)
    try simp only [Act.put, List.setIfInBounds_toArray, List.set_cons_zero, List.set_cons_succ]
    refine wpAnyU_take (i := 2) (v := ?_) (by simp only [List.getElem?_toArray, List.getElem?_cons_succ, List.getElem?_cons_zero]; rfl) (by kernel_rfl) (by kernel_rfl) (by kernel_rfl) (by decide) (by kernel_rfl) (by kernel_rfl) (by exact fun _ _ _ h => h) (Or.inl ⟨by rfl, ?_⟩) (by exact hs) ?_
    rotate_left
    · intro wq hSw
      clear hSw
      go_simp
      all_goals (with_reducible rfl)
    try simp only [Act.put, List.setIfInBounds_toArray, List.set_cons_zero, List.set_cons_succ]
    refine wpAnyU_take (i := 3) (v := ?_) (by simp only [List.getElem?_toArray, List.getElem?_cons_succ, List.getElem?_cons_zero]; rfl) (by kernel_rfl) (by kernel_rfl) (by kernel_rfl) (by decide) (by kernel_rfl) (by kernel_rfl) (by exact fun _ _ _ h => h) (Or.inl ⟨by rfl, ?_⟩) (by exact hs) ?_
    rotate_left
    · intro wq hSw
      clear hSw
      go_simp
      all_goals (with_reducible rfl)
    try simp only [Act.put, List.setIfInBounds_toArray, List.set_cons_zero, List.set_cons_succ]
    refine wpAnyU_take (i := 4) (by simp only [List.getElem?_toArray, List.getElem?_cons_succ, List.getElem?_cons_zero]; rfl) (by kernel_rfl) (by kernel_rfl) (by kernel_rfl) (by decide) (by kernel_rfl) (by kernel_rfl) (by exact fun _ _ _ h => h) (yields_ld (ad := ⟨g, 2, none⟩) (by rfl) _ rfl rfl (fun w' h => ldL h.1)) (by exact hs) ?_
    try simp only [Act.put, List.setIfInBounds_toArray, List.set_cons_zero, List.set_cons_succ]
    refine wpAnyU_take (i := 5) (v := ?_) (by simp only [List.getElem?_toArray, List.getElem?_cons_succ, List.getElem?_cons_zero]; rfl) (by kernel_rfl) (by kernel_rfl) (by kernel_rfl) (by decide) (by kernel_rfl) (by kernel_rfl) (by exact fun _ _ _ h => h) (Or.inl ⟨by rfl, ?_⟩) (by exact hs) ?_
    rotate_left
    · intro wq hSw
      clear hSw
      go_simp
      all_goals (with_reducible rfl)
    try simp only [Act.put, List.setIfInBounds_toArray, List.set_cons_zero, List.set_cons_succ]
    refine wpAnyU_take (i := 6) (v := ?_) (by simp only [List.getElem?_toArray, List.getElem?_cons_succ, List.getElem?_cons_zero]; rfl) (by kernel_rfl) (by kernel_rfl) (by kernel_rfl) (by decide) (by kernel_rfl) (by kernel_rfl) (by exact fun _ _ _ h => h) (Or.inl ⟨by rfl, ?_⟩) (by exact hs) ?_
    rotate_left
    · intro wq hSw
      clear hSw
      go_simp
      all_goals (with_reducible rfl)
    try simp only [Act.put, List.setIfInBounds_toArray, List.set_cons_zero, List.set_cons_succ]
    refine wpAnyU_take (i := 7) (v := ?_) (by simp only [List.getElem?_toArray, List.getElem?_cons_succ, List.getElem?_cons_zero]; rfl) (by kernel_rfl) (by kernel_rfl) (by kernel_rfl) (by decide) (by kernel_rfl) (by kernel_rfl) (by exact fun _ _ _ h => h) (Or.inl ⟨by rfl, ?_⟩) (by exact hs) ?_
    rotate_left
    · intro wq hSw
      clear hSw
      go_simp
      all_goals (with_reducible rfl)
    try simp only [Act.put, List.setIfInBounds_toArray, List.set_cons_zero, List.set_cons_succ]
    refine wpAnyU_take (i := 8) (by simp only [List.getElem?_toArray, List.getElem?_cons_succ, List.getElem?_cons_zero]; rfl) (by kernel_rfl) (by kernel_rfl) (by kernel_rfl) (by decide) (by kernel_rfl) (by kernel_rfl) (by exact fun _ _ _ h => h) (yields_ld (ad := ⟨g, 1, none⟩) (by rfl) _ rfl rfl (fun w' h => ld3 h.2.1)) (by exact hs) ?_
    try simp only [Act.put, List.setIfInBounds_toArray, List.set_cons_zero, List.set_cons_succ]
    refine wpAnyU_take (i := 9) (by simp only [List.getElem?_toArray, List.getElem?_cons_succ, List.getElem?_cons_zero]; rfl) (by kernel_rfl) (by kernel_rfl) (by kernel_rfl) (by decide) (by kernel_rfl) (by kernel_rfl) (by exact fun _ _ _ h => h) (yields_ld (ad := ⟨g4, 0, none⟩) (by rfl) _ rfl rfl (fun w' h => load32m_run h.2.2.range HL.out.1)) (by exact hs) ?_
    try simp only [Act.put, List.setIfInBounds_toArray, List.set_cons_zero, List.set_cons_succ]
    refine wpAnyU_take (i := 10) (v := ?_) (by simp only [List.getElem?_toArray, List.getElem?_cons_succ, List.getElem?_cons_zero]; rfl) (by kernel_rfl) (by kernel_rfl) (by kernel_rfl) (by decide) (by kernel_rfl) (by kernel_rfl) (by exact fun _ _ _ h => h) (Or.inl ⟨by rfl, ?_⟩) (by exact hs) ?_
    rotate_left
    · intro wq hSw
      clear hSw
      go_simp
      all_goals (with_reducible rfl)
    try simp only [Act.put, List.setIfInBounds_toArray, List.set_cons_zero, List.set_cons_succ]
    refine wpAnyU_take (i := 11) (by simp only [List.getElem?_toArray, List.getElem?_cons_succ, List.getElem?_cons_zero]; rfl) (by kernel_rfl) (by kernel_rfl) (by kernel_rfl) (by decide) (by kernel_rfl) (by kernel_rfl) (by exact fun _ _ _ h => h) (yields_buildE (by rfl) _ _ _ rfl ⟨t.last + 1, av, al, p⟩ HL.out.1 rfl rfl rfl) (by exact hs) ?_
    try simp only [Act.put, List.setIfInBounds_toArray, List.set_cons_zero, List.set_cons_succ]
    refine wpAnyU_ready (rs := [12]) (by kernel_rfl) (by simp) ?_
    refine ReadyU.cons (by simp only [List.getElem?_toArray, List.getElem?_cons_succ, List.getElem?_cons_zero]; rfl) (fun K hK => ?_) ReadyU.nil
    refine step_buildS rfl _ rfl ⟨t.last + 1, av, al, p⟩ rfl HL.out.1 (fun gb w6 hgb hbx haw => ?_)
    have hs1 : w6.cell? ⟨g, 2, none⟩ = some (.slice la n lc) ∧ w6.cell? ⟨g, 1, none⟩ = some (.int .i64 (t.last + 1)) ∧ BoxA w6 g4 av al := ⟨haw.cell (by simp) hs.1, haw.cell (by simp) hs.2.1, hs.2.2.on haw (by simp)⟩
    have HBN := Lib.hid hbx
    replace HBX := Lib.hid (haw.keep (by simp) HBX.out)
    replace HLS := Lib.hid (HLS.out.on haw)
    replace HA4 := Lib.hid (HA4.out.next haw (by simp))
    clear hs hbx haw
    refine hK.out _ _ (fun _ => by exact hs1) ?_
    clear hK K
    try simp only [Act.put, List.setIfInBounds_toArray, List.set_cons_zero, List.set_cons_succ]
    refine wpAnyU_ready (rs := [13]) (by kernel_rfl) (by simp) ?_
    refine ReadyU.cons (by simp only [List.getElem?_toArray, List.getElem?_cons_succ, List.getElem?_cons_zero]; rfl) (fun K hK => ?_) ReadyU.nil
    refine step_appS rfl _ _ rfl (.slice la n lc) t.bs gb 1 ⟨t.last + 1, av, al, p⟩ rfl rfl HLS.out HBN.out HL.out.1 (by rw [← HN.out]; omega) (fun v' w7 hl hgr hmv => ?_)
    have hgo : g ∉ (Value.slice la n lc).ownBlock.toList := fun hc => H.out.ne g (by simpa using hc) rfl
    have hg4o : g4 ∉ (Value.slice la n lc).ownBlock.toList := fun hc => by
      have h1 := H.out.lst.lt g4 (by simpa using hc)
      omega
    have haw : Away (Value.slice la n lc).ownBlock.toList w6 w7 := Away.grow hgr
    have hs : w7.cell? ⟨g, 2, none⟩ = some (.slice la n lc) ∧ w7.cell? ⟨g, 1, none⟩ = some (.int .i64 (t.last + 1)) ∧ BoxA w7 g4 av al := ⟨haw.cell hgo hs1.1, haw.cell hgo hs1.2.1, hs1.2.2.on haw hg4o⟩
    have HB7 := Lib.hid (haw.keep hgo HBX.out)
    have HL7 := Lib.hid hl
    have hsz := HA4.out.size
    have HMV : Hid (Moved w (.slice la n lc) v') := fun k hk => by
      rcases hmv k hk with h1 | h1
      · exact .inl h1
      · exact .inr (by omega)
    have HVG : Hid (∀ k, v'.ownBlock = some k → k ≠ g) := fun k hk => by
      rcases HMV.out k hk with h1 | h1
      · exact H.out.ne k h1
      · omega
    have HA7 : Hid (Away (fp g (.slice la n lc)) w w7) := (HA4.out.mono (by simp [fp])).next haw (fun x hx => .inl (by simp [fp]; exact .inr (by simpa using hx)))
    obtain ⟨va, vn, vc, hv2⟩ : ∃ a n c, v' = .slice a n c := by obtain ⟨a, c, h1, -⟩ := hl.sl; exact ⟨a, _, c, h1⟩
    subst hv2
    clear hs1 hl hgr hmv haw hgo hg4o HLS HBX HBN hsz
    refine hK.out _ _ (fun _ => by exact hs) ?_
    clear hK K
    try simp only [Act.put, List.setIfInBounds_toArray, List.set_cons_zero, List.set_cons_succ]
    refine wpAnyU_ready (rs := [14]) (by kernel_rfl) (by simp) ?_
    refine ReadyU.cons (by simp only [List.getElem?_toArray, List.getElem?_cons_succ, List.getElem?_cons_zero]; rfl) (fun K hK => ?_) ReadyU.nil
    go_simp
    refine hK.out _ _ (fun _ => by exact hs) ?_
    clear hK K
    try simp only [Act.put, List.setIfInBounds_toArray, List.set_cons_zero, List.set_cons_succ]
    refine wpAnyU_ready (rs := [15]) (by kernel_rfl) (by simp) ?_
    refine ReadyU.cons (by simp only [List.getElem?_toArray, List.getElem?_cons_succ, List.getElem?_cons_zero]; rfl) (fun K hK => ?_) ReadyU.nil
    go_simp
    refine hK.out _ _ (fun _ => by exact hs) ?_
    clear hK K
    try simp only [Act.put, List.setIfInBounds_toArray, List.set_cons_zero, List.set_cons_succ]
    have c2 := cell_of_block HB7.out 2
    have f2 := free_of_block HB7.out 2
    simp at c2
    refine wpAnyU_ready (rs := [16]) (by kernel_rfl) (by simp) ?_
    refine ReadyU.cons (by simp only [List.getElem?_toArray, List.getElem?_cons_succ, List.getElem?_cons_zero]; rfl) (fun K hK => ?_) ReadyU.nil
    go_simp
    refine hK.out _ _ (fun h => absurd h (by decide)) ?_
    clear hK K hs
    refine wpAnyU_done (by kernel_rfl) ?_ _
    have haw := (Away.refl [g] w7).setCell (p := ⟨g, 2, none⟩) (.inl (by simp)) (.slice va vn vc)
    have HB8 : Hid ((w7.setCell ⟨g, 2, none⟩ (.slice va vn vc)).heap[g]? = some (.cells #[.int .i64 t.most, .int .i64 (t.last + 1), .slice va vn vc] 74 (0, 0))) := by show _ = _; rw [block_set HB7.out]; rfl
    have HL8 := Lib.hid (HL7.out.away haw (fun k hk => by simp; exact HVG.out k hk))
    have HA8 : Hid (Away (fp g (.slice la n lc)) w (w7.setCell ⟨g, 2, none⟩ (.slice va vn vc))) := HA7.out.trans (haw.mono (by simp [fp]))
    clear haw c2 f2 HB7 HL7 HA7
    generalize w7.setCell ⟨g, 2, none⟩ (.slice va vn vc) = w8 at *
    have c1 := cell_of_block HB8.out 1
    simp at c1
    go_wp2_with fail
    go_ret3
    rw [HE2.out]
    exact ⟨rfl, _, ⟨HB8.out, HL8.out, HVG.out, HWF.out⟩, by rw [← HN.out]; exact HA8.out, by rw [← HN.out]; exact HMV.out⟩
def RCOut (w : World) (g : Nat) (v : Value) (r : Int × Tb) (E : Ending) (w' : World) : Prop := E = .returned (.int .i64 r.1) ∧ ∃ v', KS.Tm w' g v' r.2 ∧ Away (KS.fp g v) w w' ∧ Moved w v v'
end Go.Proofs.Ytemdgggpfadecaa
