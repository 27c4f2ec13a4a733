/-
  SpanSets.
-/
import Derived.Test.YtckiiidigajhpaaSets
import Derived.Deep.RegionWith
import Derived.Deep.RegionHeld3
import Derived.Deep.CutBlock
import Derived.Deep.DeepCutAuto
namespace Go.Proofs.Ytckiiidigajhpaa
open Go.ChangeShapes Go.WideShapes Go.ChangeAt Go.RowKit Go.Deep
set_option linter.unusedVariables false
set_option maxRecDepth 100000

set_option maxHeartbeats 16000000 in
theorem walk (a : Option Addr) (l : List Sp) (cap : Nat) (s : Sp) (n : Int) (W : World) (hsl : Sl W a cap l) (hl : l.length ≤ 8796093021952) (hok : OkS s) (hn0 : (Lit.int .i64 n).wf = true) :
    Calls Try.prog 6 #[.slice a l.length cap, valS s, .int .i64 n] W fun e w' => e = .returned (.bool true) ∧ Below W.heap.size W w' := by
  have HL : Hid (Sl (W.alloc (.cells #[.int .i64 s.1, .int .i64 s.2] 29)) a cap l) := hsl.on ((Away.refl [] W).alloc _)
  have HW : Hid (Away [] W (W.alloc (.cells #[.int .i64 s.1, .int .i64 s.2] 29))) := (Away.refl _ _).alloc _
  have HX : Hid (BoxS (W.alloc (.cells #[.int .i64 s.1, .int .i64 s.2] 29)) W.heap.size s) := block_new _ _
  have HN : Hid (I64 n) := bounds_i64 hn0
  clear hsl hn0
  unfold valS
  go_enter Try.func6, Try.ntmps6
  go_wp2_with fail
  refine (alive_c _).mono ?_
  rintro E w2 ⟨rfl, haw⟩
  replace HW := hidI (HW.out.trans haw)
  replace HL := hidI (HL.out.on haw)
  replace HX := hidI (HX.out.on haw (by simp))
  clear haw
  go_wp2_with fail
  refine (own_s (by exact HL.out) rfl).mono ?_
  rintro E w2 ⟨aO, cO, rfl, hsO, -, haw⟩
  replace HW := hidI (HW.out.trans haw)
  replace HL := hidI (HL.out.on haw)
  replace HX := hidI (HX.out.on haw (by simp))
  have HO := hidI hsO
  clear hsO
  clear haw
  go_wp2_with fail
  refine (norm_s (by exact HO.out) rfl).mono ?_
  rintro E w2 (⟨hal, m, ⟨aM, cM, nM, rfl, hnM, hsM, haw⟩, hof⟩ | ⟨hal, rfl, haw⟩)
  · have HM := hidI hsM
    have NM := hidI hnM
    have HOF := hidI hof
    have HAL := hidI hal
    replace HW := hidI (HW.out.trans haw)
    replace HL := hidI (HL.out.on haw)
    replace HX := hidI (HX.out.on haw (by simp))
    clear hal hsM hnM hof haw HO
    go_wp2_with fail
    refine (risingS (z := true) (by exact HM.out) NM.out HOF.out.right).mono ?_
    rintro E w2 ⟨rfl, haw⟩
    replace HW := hidI (HW.out.trans haw)
    replace HL := hidI (HL.out.on haw)
    replace HX := hidI (HX.out.on haw (by simp))
    replace HM := hidI (HM.out.on haw)
    clear haw
    go_wp2_with fail
    refine (spansS (z := true) (by exact HL.out) rfl HAL.out).mono ?_
    rintro E w2 ⟨rfl, haw⟩
    replace HW := hidI (HW.out.trans haw)
    replace HL := hidI (HL.out.on haw)
    replace HX := hidI (HX.out.on haw (by simp))
    replace HM := hidI (HM.out.on haw)
    clear haw
    cases hs : isB s
    · have HSN : Hid ((rightP m && isB s) = false) := by show _ = _; rw [hs]; simp
      generalize hW0 : w2 = W0 at *
      clear hW0
      go_upto_region 9 with fail
      go_cut [10, 11] (fun v er wc => v = .slice none 0 0 ∧ er = .int .i64 1 ∧ Away [] W0 wc)
      case first =>
        as_aux_lemma =>
          have k1 := HX.out.c0
          have k2 := HX.out.c1
          go_region_with (first | (go_at_call 10; refine (own_s (by exact HM.out.on ((Away.refl [] _).drewN _)) NM.out).mono ?_; rintro E w3 ⟨aP, cP, rfl, hsP, hoo, haw⟩; have k3 := haw.cell (by simp) k1; have k4 := haw.cell (by simp) k2) | (go_at_call 13; refine (addN (l := m) s (by exact hsP) NM.out hoo HSN.out).mono ?_; rintro E w4 ⟨rfl, haw2⟩))
          all_goals (go_wp2_with fail; go_meet; exact ⟨rfl, rfl, (((Away.refl [] W0).drew).trans haw).trans haw2⟩)
      case rest =>
        obtain ⟨rfl, rfl, haw⟩ := hcut
        generalize wc = w2 at *
        replace HW := hidI (HW.out.trans haw)
        replace HX := hidI (HX.out.on haw (by simp))
        replace HM := hidI (HM.out.on haw)
        clear haw
        generalize hW0 : w2 = W0 at *
        clear hW0
        go_upto_region 10 with fail
        go_cut [12, 13] (fun v er wc => v = .slice none 0 0 ∧ er = .int .i64 1 ∧ Away [] W0 wc)
        case first =>
          as_aux_lemma =>
            have k1 := HX.out.c0
            have k2 := HX.out.c1
            go_region_with (first | (go_at_call 10; refine (own_s (by exact HM.out.on ((Away.refl [] _).drewN _)) NM.out).mono ?_; rintro E w3 ⟨aP, cP, rfl, hsP, hoo, haw⟩; have k3 := haw.cell (by simp) k1; have k4 := haw.cell (by simp) k2) | (go_at_call 14; refine (cutN (l := m) s (by exact hsP) NM.out HSN.out).mono ?_; rintro E w4 ⟨rfl, haw2⟩))
            all_goals (go_wp2_with fail; go_meet; exact ⟨rfl, rfl, (((Away.refl [] W0).drew).trans haw).trans haw2⟩)
        case rest =>
          obtain ⟨rfl, rfl, haw⟩ := hcut
          generalize wc = w2 at *
          replace HW := hidI (HW.out.trans haw)
          replace HX := hidI (HX.out.on haw (by simp))
          replace HM := hidI (HM.out.on haw)
          clear haw
          have k1 := HX.out.c0
          have k2 := HX.out.c1
          have haw := (Away.refl [] w2).alloc (.cells #[.int .i64 s.1, .int .i64 s.2] 29)
          have H1 : Hid (Sl (w2.alloc (.cells #[.int .i64 s.1, .int .i64 s.2] 29)) (some ⟨w2.heap.size, 0, none⟩) 1 [s]) := lit_row w2 [s] (by simp) (by intro x hx; simp at hx; subst hx; exact hok)
          replace HW := hidI (HW.out.trans haw)
          replace HX := hidI (HX.out.on haw (by simp))
          replace HM := hidI (HM.out.on haw)
          clear haw
          go_wp2_with fail
          refine (spansS (z := false) (l := [s]) (by exact H1.out) rfl (by simp [allIs, hs])).mono ?_
          rintro E w2 ⟨rfl, haw⟩
          replace HW := hidI (HW.out.trans haw)
          replace HX := hidI (HX.out.on haw (by simp))
          replace HM := hidI (HM.out.on haw)
          clear haw
          clear k1 k2
          have k1 := HX.out.c0
          have k2 := HX.out.c1
          go_wp2_with fail
          refine (hasS (z := false) (l := m) s (by exact HM.out) NM.out (by rw [hs]; simp)).mono ?_
          rintro E w2 ⟨rfl, haw⟩
          replace HW := hidI (HW.out.trans haw)
          replace HX := hidI (HX.out.on haw (by simp))
          replace HM := hidI (HM.out.on haw)
          clear haw
          clear k1 k2
          have k1 := HX.out.c0
          have k2 := HX.out.c1
          go_wp2_with fail
          refine (meetsS (z := false) (l := m) s (by exact HM.out) NM.out (by rw [hs]; simp)).mono ?_
          rintro E w2 ⟨rfl, haw⟩
          replace HW := hidI (HW.out.trans haw)
          clear haw
          go_wp2_with fail
          go_ret
          exact ⟨rfl, HW.out.to_below⟩
    · have HS := hidI hs
      have HIS : Hid (Is s) := isB_iff.1 hs
      clear hs
      generalize hW0 : w2 = W0 at *
      clear hW0
      go_upto_region 9 with fail
      go_cut [10, 11] (fun v er wc => ∃ (a' : Option Addr) (c' n' : Nat), v = .slice a' n' c' ∧ er = .int .i64 0 ∧ ((addP m s)).length = n' ∧ Sl wc a' c' (addP m s) ∧ Away [] W0 wc)
      case first =>
        as_aux_lemma =>
          have k1 := HX.out.c0
          have k2 := HX.out.c1
          go_region_with (first | (go_at_call 10; refine (own_s (by exact HM.out.on ((Away.refl [] _).drewN _)) NM.out).mono ?_; rintro E w3 ⟨aP, cP, rfl, hsP, hoo, haw⟩; have k3 := haw.cell (by simp) k1; have k4 := haw.cell (by simp) k2) | (go_at_call 13; refine (addY (l := m) s (addP m s) (by exact hsP) NM.out hoo HOF.out.right HS.out rfl).mono ?_; rintro E w4 ⟨aQ, cQ, nQ, rfl, hnQ, hsQ, haw2⟩))
          all_goals (go_wp2_with fail; go_meet; exact ⟨aQ, cQ, nQ, rfl, rfl, hnQ, hsQ, (((Away.refl [] W0).drew).trans haw).trans haw2⟩)
      case rest =>
        obtain ⟨aA, cA, nA, rfl, rfl, hn, hs, haw⟩ := hcut
        generalize wc = w2 at *
        replace HW := hidI (HW.out.trans haw)
        replace HX := hidI (HX.out.on haw (by simp))
        replace HM := hidI (HM.out.on haw)
        replace HL := hidI (HL.out.on haw)
        have HA := hidI hs
        have NA := hidI hn
        clear hs hn haw
        generalize hW0 : w2 = W0 at *
        clear hW0
        go_upto_region 10 with fail
        go_cut [12, 13] (fun v er wc => ∃ (a' : Option Addr) (c' n' : Nat), v = .slice a' n' c' ∧ er = .int .i64 0 ∧ ((cutP m s)).length = n' ∧ Sl wc a' c' (cutP m s) ∧ Away [] W0 wc)
        case first =>
          as_aux_lemma =>
            have k1 := HX.out.c0
            have k2 := HX.out.c1
            go_region_with (first | (go_at_call 10; refine (own_s (by exact HM.out.on ((Away.refl [] _).drewN _)) NM.out).mono ?_; rintro E w3 ⟨aP, cP, rfl, hsP, hoo, haw⟩; have k3 := haw.cell (by simp) k1; have k4 := haw.cell (by simp) k2) | (go_at_call 14; refine (cutY (l := m) s (cutP m s) (by exact hsP) NM.out HOF.out.right HS.out rfl).mono ?_; rintro E w4 ⟨aQ, cQ, nQ, rfl, hnQ, hsQ, haw2⟩))
            all_goals (go_wp2_with fail; go_meet; exact ⟨aQ, cQ, nQ, rfl, rfl, hnQ, hsQ, (((Away.refl [] W0).drew).trans haw).trans haw2⟩)
        case rest =>
          obtain ⟨aC, cC, nC, rfl, rfl, hn, hs, haw⟩ := hcut
          generalize wc = w2 at *
          replace HW := hidI (HW.out.trans haw)
          replace HX := hidI (HX.out.on haw (by simp))
          replace HM := hidI (HM.out.on haw)
          replace HL := hidI (HL.out.on haw)
          replace HA := hidI (HA.out.on haw)
          have HC := hidI hs
          have NC := hidI hn
          clear hs hn haw
          have k1 := HX.out.c0
          have k2 := HX.out.c1
          have haw := (Away.refl [] w2).alloc (.cells #[.int .i64 s.1, .int .i64 s.2] 29)
          have H1 : Hid (Sl (w2.alloc (.cells #[.int .i64 s.1, .int .i64 s.2] 29)) (some ⟨w2.heap.size, 0, none⟩) 1 [s]) := lit_row w2 [s] (by simp) (by intro x hx; simp at hx; subst hx; exact hok)
          replace HW := hidI (HW.out.trans haw)
          replace HX := hidI (HX.out.on haw (by simp))
          replace HM := hidI (HM.out.on haw)
          replace HL := hidI (HL.out.on haw)
          replace HA := hidI (HA.out.on haw)
          replace HC := hidI (HC.out.on haw)
          clear haw
          go_wp2_with fail
          refine (spansS (z := true) (l := [s]) (by exact H1.out) rfl (by simp [allIs, HS.out])).mono ?_
          rintro E w2 ⟨rfl, haw⟩
          replace HW := hidI (HW.out.trans haw)
          replace HX := hidI (HX.out.on haw (by simp))
          replace HM := hidI (HM.out.on haw)
          replace HL := hidI (HL.out.on haw)
          replace HA := hidI (HA.out.on haw)
          replace HC := hidI (HC.out.on haw)
          clear haw
          clear k1 k2 H1
          go_wp2_with fail
          refine (risingS (z := true) (by exact HA.out) NA.out (add_of HOF.out.right HIS.out).right).mono ?_
          rintro E w2 ⟨rfl, haw⟩
          replace HW := hidI (HW.out.trans haw)
          replace HX := hidI (HX.out.on haw (by simp))
          replace HM := hidI (HM.out.on haw)
          replace HL := hidI (HL.out.on haw)
          replace HA := hidI (HA.out.on haw)
          replace HC := hidI (HC.out.on haw)
          clear haw
          go_wp2_with fail
          refine (risingS (z := true) (by exact HC.out) NC.out (cut_of HOF.out.right HIS.out).right).mono ?_
          rintro E w2 ⟨rfl, haw⟩
          replace HW := hidI (HW.out.trans haw)
          replace HX := hidI (HX.out.on haw (by simp))
          replace HM := hidI (HM.out.on haw)
          replace HL := hidI (HL.out.on haw)
          replace HA := hidI (HA.out.on haw)
          replace HC := hidI (HC.out.on haw)
          clear haw
          have k1 := HX.out.c0
          have k2 := HX.out.c1
          go_wp2_with fail
          refine (near_c a l s n l.length cap _ rfl (by exact HL.out.row) (allIs_iff.1 HAL.out) (by have := HIS.out; unfold Is at this; omega) HN.out).mono ?_
          rintro E w2 ⟨aZ, cZ, nZ, z, rfl, hnZ, hZ, haw⟩
          replace HW := hidI (HW.out.trans haw)
          replace HX := hidI (HX.out.on haw (by simp))
          replace HM := hidI (HM.out.on haw)
          replace HL := hidI (HL.out.on haw)
          replace HA := hidI (HA.out.on haw)
          replace HC := hidI (HC.out.on haw)
          have HZ := hidI hZ
          have hzl := hZ.1
          subst hnZ
          clear haw hZ k1 k2
          have k1 := HX.out.c0
          have k2 := HX.out.c1
          have haw := (Away.refl [] w2).alloc (.cells #[.int .i64 s.1, .int .i64 s.2] 29)
          have H1 : Hid (Sl (w2.alloc (.cells #[.int .i64 s.1, .int .i64 s.2] 29)) (some ⟨w2.heap.size, 0, none⟩) 1 [s]) := lit_row w2 [s] (by simp) (by intro x hx; simp at hx; subst hx; exact hok)
          replace HW := hidI (HW.out.trans haw)
          replace HX := hidI (HX.out.on haw (by simp))
          replace HM := hidI (HM.out.on haw)
          replace HL := hidI (HL.out.on haw)
          replace HA := hidI (HA.out.on haw)
          replace HC := hidI (HC.out.on haw)
          replace HZ := hidI (HZ.out.on haw)
          clear haw
          go_wp2_with fail
          generalize w2.alloc (.cells #[.int .i64 s.1, .int .i64 s.2] 29) = W1 at *
          generalize (some ⟨w2.heap.size, 0, none⟩ : Option Addr) = a1 at *
          clear k1 k2
          go_loopw [16] (fun i wr => ∃ j : Nat, j ≤ z.length ∧ i = .int .i64 (j : Int) ∧ wr = W1) (fun i _ => z.length - (intOf i).toNat)
          case atStart => exact ⟨0, by omega, rfl, rfl⟩
          case round =>
            obtain ⟨j, hj, rfl, rfl⟩ := hrel
            by_cases hlt : j < z.length
            · obtain ⟨q, hq⟩ : ∃ q, z[j]? = some q := ⟨z[j], by simp [hlt]⟩
              obtain ⟨b, off, hbo, c1⟩ : ∃ b off, aZ = some ⟨b, off, none⟩ ∧ wr.cell? ⟨b, off + j, none⟩ = some (.int .i64 q) := by
                rcases HZ.out.2.2 with h0 | ⟨b, off, h0, hc⟩
                · rw [h0] at hlt; simp at hlt
                · exact ⟨b, off, h0, hc j q hq⟩
              subst hbo
              clear hq
              have HI1 : Hid (inB m q = inB l q) := HOF.out.has q
              have HI2 : Hid (inB (addP m s) q = (inB m q || inS s q)) := (add_of HOF.out.right HIS.out).has q
              have HI3 : Hid (inB (cutP m s) q = (inB m q && !inS s q)) := (cut_of HOF.out.right HIS.out).has q
              have HI4 : Hid (inB [s] q = inS s q) := by show _ = _; simp [inB]
              cases hlq : inB l q
              · cases hsq : inS s q
                · as_aux_lemma =>
                    go_wp2_with fail
                    refine (inS_s (z := false) (l := l) q (by exact HL.out) rfl hlq).mono ?_
                    rintro E w3 ⟨rfl, rfl⟩
                    go_wp2_with fail
                    refine (inS_s (z := false) (l := [s]) q (by exact H1.out) rfl (by rw [HI4.out, hsq])).mono ?_
                    rintro E w3 ⟨rfl, rfl⟩
                    go_wp2_with fail
                    refine (inS_s (z := false) (l := m) q (by exact HM.out) NM.out (by rw [HI1.out, hlq])).mono ?_
                    rintro E w3 ⟨rfl, rfl⟩
                    go_wp2_with fail
                    refine (inS_s (z := false) (l := (addP m s)) q (by exact HA.out) NA.out (by rw [HI2.out, HI1.out, hlq, hsq]; rfl)).mono ?_
                    rintro E w3 ⟨rfl, rfl⟩
                    go_wp2_with fail
                    refine (inS_s (z := false) (l := (cutP m s)) q (by exact HC.out) NC.out (by rw [HI3.out, HI1.out, hlq, hsq]; rfl)).mono ?_
                    rintro E w3 ⟨rfl, rfl⟩
                    go_wp2_with fail
                    go_roundw
                    case rel => exact ⟨j + 1, by omega, by go_num, by trivial⟩
                    case measure => simp [intOf]; omega
                · as_aux_lemma =>
                    go_wp2_with fail
                    refine (inS_s (z := false) (l := l) q (by exact HL.out) rfl hlq).mono ?_
                    rintro E w3 ⟨rfl, rfl⟩
                    go_wp2_with fail
                    refine (inS_s (z := true) (l := [s]) q (by exact H1.out) rfl (by rw [HI4.out, hsq])).mono ?_
                    rintro E w3 ⟨rfl, rfl⟩
                    go_wp2_with fail
                    refine (inS_s (z := false) (l := m) q (by exact HM.out) NM.out (by rw [HI1.out, hlq])).mono ?_
                    rintro E w3 ⟨rfl, rfl⟩
                    go_wp2_with fail
                    refine (inS_s (z := true) (l := (addP m s)) q (by exact HA.out) NA.out (by rw [HI2.out, HI1.out, hlq, hsq]; rfl)).mono ?_
                    rintro E w3 ⟨rfl, rfl⟩
                    go_wp2_with fail
                    refine (inS_s (z := false) (l := (cutP m s)) q (by exact HC.out) NC.out (by rw [HI3.out, HI1.out, hlq, hsq]; rfl)).mono ?_
                    rintro E w3 ⟨rfl, rfl⟩
                    go_wp2_with fail
                    go_roundw
                    case rel => exact ⟨j + 1, by omega, by go_num, by trivial⟩
                    case measure => simp [intOf]; omega
              · cases hsq : inS s q
                · as_aux_lemma =>
                    go_wp2_with fail
                    refine (inS_s (z := true) (l := l) q (by exact HL.out) rfl hlq).mono ?_
                    rintro E w3 ⟨rfl, rfl⟩
                    go_wp2_with fail
                    refine (inS_s (z := false) (l := [s]) q (by exact H1.out) rfl (by rw [HI4.out, hsq])).mono ?_
                    rintro E w3 ⟨rfl, rfl⟩
                    go_wp2_with fail
                    refine (inS_s (z := true) (l := m) q (by exact HM.out) NM.out (by rw [HI1.out, hlq])).mono ?_
                    rintro E w3 ⟨rfl, rfl⟩
                    go_wp2_with fail
                    refine (inS_s (z := true) (l := (addP m s)) q (by exact HA.out) NA.out (by rw [HI2.out, HI1.out, hlq, hsq]; rfl)).mono ?_
                    rintro E w3 ⟨rfl, rfl⟩
                    go_wp2_with fail
                    refine (inS_s (z := true) (l := (cutP m s)) q (by exact HC.out) NC.out (by rw [HI3.out, HI1.out, hlq, hsq]; rfl)).mono ?_
                    rintro E w3 ⟨rfl, rfl⟩
                    go_wp2_with fail
                    go_roundw
                    case rel => exact ⟨j + 1, by omega, by go_num, by trivial⟩
                    case measure => simp [intOf]; omega
                · as_aux_lemma =>
                    go_wp2_with fail
                    refine (inS_s (z := true) (l := l) q (by exact HL.out) rfl hlq).mono ?_
                    rintro E w3 ⟨rfl, rfl⟩
                    go_wp2_with fail
                    refine (inS_s (z := true) (l := [s]) q (by exact H1.out) rfl (by rw [HI4.out, hsq])).mono ?_
                    rintro E w3 ⟨rfl, rfl⟩
                    go_wp2_with fail
                    refine (inS_s (z := true) (l := m) q (by exact HM.out) NM.out (by rw [HI1.out, hlq])).mono ?_
                    rintro E w3 ⟨rfl, rfl⟩
                    go_wp2_with fail
                    refine (inS_s (z := true) (l := (addP m s)) q (by exact HA.out) NA.out (by rw [HI2.out, HI1.out, hlq, hsq]; rfl)).mono ?_
                    rintro E w3 ⟨rfl, rfl⟩
                    go_wp2_with fail
                    refine (inS_s (z := false) (l := (cutP m s)) q (by exact HC.out) NC.out (by rw [HI3.out, HI1.out, hlq, hsq]; rfl)).mono ?_
                    rintro E w3 ⟨rfl, rfl⟩
                    go_wp2_with fail
                    go_roundw
                    case rel => exact ⟨j + 1, by omega, by go_num, by trivial⟩
                    case measure => simp [intOf]; omega
            · clear HZ HL
              go_wp2_with fail
              refine (own_s (l := [s]) (by exact H1.out) rfl).mono ?_
              rintro E w2 ⟨aF, cF, rfl, hsF, -, haw⟩
              replace HW := hidI (HW.out.trans haw)
              replace HX := hidI (HX.out.on haw (by simp))
              replace HM := hidI (HM.out.on haw)
              replace HA := hidI (HA.out.on haw)
              replace HC := hidI (HC.out.on haw)
              have HF := hidI hsF
              clear hsF haw H1
              go_wp2_with fail
              generalize hW2 : w2 = W2 at *
              clear hW2
              have hmlen := right_short HOF.out.right
              have hm1 := NM.out
              go_loopw [20, 21] (fun v i wr => ∃ (j : Nat) (aG : Option Addr) (cG nG : Nat), j ≤ m.length ∧ i = .int .i64 (j : Int) ∧ v = .slice aG nG cG ∧ (leftP s (m.take j)).length = nG ∧ Sl wr aG cG (leftP s (m.take j)) ∧ Away [] W2 wr) (fun _ i _ => m.length - (intOf i).toNat)
              case atStart => exact ⟨0, aF, cF, 1, by omega, rfl, rfl, rfl, HF.out, Away.refl _ _⟩
              case round =>
                obtain ⟨j, aG, cG, nG, hj, rfl, rfl, hnG, hsG, haw⟩ := hrel
                have HG := hidI hsG
                have NG := hidI hnG
                replace HW := hidI (HW.out.trans haw)
                replace HX := hidI (HX.out.on haw (by simp))
                replace HM := hidI (HM.out.on haw)
                replace HA := hidI (HA.out.on haw)
                replace HC := hidI (HC.out.on haw)
                have HA2 := hidI haw
                clear haw hsG hnG
                subst hm1
                by_cases hlt : j < m.length
                · obtain ⟨x, hx, hxm⟩ := get_of hlt
                  obtain ⟨b, off, hbo, c1, c2, -⟩ := HM.out.row.at hx
                  have HXI : Hid (isB x = true) := isB_iff.2 (rf_is HOF.out.right x hxm).1
                  have HT : Hid (leftP s (m.take (j + 1)) = cutP (leftP s (m.take j)) x) := left_snoc hx
                  have HRT : Hid (rightP (leftP s (m.take j)) = true) := (left_s HIS.out (right_take HOF.out.right j)).right
                  subst hbo
                  clear hx hxm
                  generalize leftP s (m.take j) = y at *
                  obtain ⟨x1, x2⟩ := x
                  simp only at c1 c2
                  go_wp2_with fail
                  refine (cutY (l := y) (x1, x2) (cutP y (x1, x2)) (by exact HG.out) NG.out HRT.out HXI.out rfl).mono ?_
                  rintro E w3 ⟨aH, cH, nH, rfl, hnH, hsH, haw⟩
                  go_wp2_with fail
                  go_roundw
                  case rel => exact ⟨j + 1, aH, cH, nH, by omega, by go_num, rfl, by rw [HT.out]; exact hnH, by rw [HT.out]; exact hsH, HA2.out.trans haw⟩
                  case measure => simp [intOf]; omega
                · have e : m.take j = m := List.take_of_length_le (by omega)
                  rw [e] at HG NG
                  clear e
                  have HH1 : Hid (hasP m s = decide ((leftP s m).length = 0)) := has_left HIS.out HOF.out.right
                  have HH2 : Hid (meetsP m s = !decide (cutP m s = m)) := meets_cut HIS.out HOF.out.right
                  have HB1 := hidI (size_bound (left_s HIS.out HOF.out.right).right)
                  have HB2 := hidI (size_bound HOF.out.right)
                  obtain ⟨x1, hx1⟩ : ∃ x1, sizeP m = x1 := ⟨_, rfl⟩
                  obtain ⟨x2, hx2⟩ : ∃ x2, sizeP (leftP s m) = x2 := ⟨_, rfl⟩
                  have HS0 : Hid (sizeP (addP m s) = x1 + x2) := by show _ = _; rw [add_size HIS.out HOF.out.right, hx1, hx2]
                  have HS1 := hidI hx1
                  have HS2 := hidI hx2
                  have b1 := HB1.out
                  have b2 := HB2.out
                  rw [hx2] at b1
                  rw [hx1] at b2
                  obtain ⟨b3, b4⟩ := b1
                  obtain ⟨b5, b6⟩ := b2
                  clear hx1 hx2 HB1 HB2 HA2
                  go_upto_region 33 with fail
                  as_aux_lemma =>
                    obtain ⟨zb, hzb⟩ : ∃ b, b = decide (nG = 0) := ⟨_, rfl⟩
                    obtain ⟨sb, hsb⟩ : ∃ b, b = decide (cutP m s = m) := ⟨_, rfl⟩
                    have HHZ : Hid ((rightP m && isB s && hasP m s) = zb) := by show _ = _; rw [HOF.out.right, HS.out, HH1.out, NG.out, hzb]; rfl
                    have HCZ : Hid (decide (cutP m s = m) = sb) := hsb.symm
                    have HMZ : Hid ((rightP m && isB s && meetsP m s) = (!sb)) := by show _ = _; rw [HOF.out.right, HS.out, HH2.out, HCZ.out]; rfl
                    have e0 : decide (nG = 0) = zb := hzb.symm
                    have e1 : decide ((nG : Int) = 0) = zb := by rw [hzb]; simp
                    have e2 : ((nG : Int) == 0) = zb := by rw [hzb]; rw [Bool.eq_iff_iff]; simp
                    have e3 : IntKind.i64.wrap (x1 + x2) = x1 + x2 := by rw [IntKind.wrap_i64]; omega
                    clear hzb hsb
                    refine wp_region_held_drew (S := (fun w' => Away [] wr w')) (by kernel_rfl) ((Away.refl [] wr).drew) (fun hHeld => ?_)
                    refine wpAnyH_take (i := 0) (v := ?_) (by simp only [List.getElem?_toArray, List.getElem?_cons_zero]; rfl) (by kernel_rfl) (by kernel_rfl) (by kernel_rfl) (by exact fun _ _ _ h => h) (Or.inl ⟨by rfl, ?_⟩) (by assumption) ?_
                    rotate_left
                    · intro wq hSw
                      (try dsimp only at hSw)
                      go_simp
                      all_goals (with_reducible rfl)
                    try simp only [Act.put, List.setIfInBounds_toArray, List.set_cons_zero, List.set_cons_succ]
                    refine wpAnyH_take (i := 2) (v := .agg #[.int .i64 s.1, .int .i64 s.2]) (by simp only [List.getElem?_toArray, List.getElem?_cons_succ, List.getElem?_cons_zero]; rfl) (by kernel_rfl) (by kernel_rfl) (by kernel_rfl) (by exact fun _ _ _ h => h) (Or.inl ⟨by rfl, ?_⟩) (by assumption) ?_
                    · intro wq hSw
                      have k1 := (HX.out.on hSw (by simp)).c0
                      have k2 := (HX.out.on hSw (by simp)).c1
                      go_simp
                    try simp only [Act.put, List.setIfInBounds_toArray, List.set_cons_zero, List.set_cons_succ]
                    refine wpAnyH_take (i := 4) (v := ?_) (by simp only [List.getElem?_toArray, List.getElem?_cons_succ, List.getElem?_cons_zero]; rfl) (by kernel_rfl) (by kernel_rfl) (by kernel_rfl) (by exact fun _ _ _ h => h) (Or.inl ⟨by rfl, ?_⟩) (by assumption) ?_
                    rotate_left
                    · intro wq hSw
                      (try dsimp only at hSw)
                      go_simp
                      all_goals (with_reducible rfl)
                    try simp only [Act.put, List.setIfInBounds_toArray, List.set_cons_zero, List.set_cons_succ]
                    refine wpAnyH_take (i := 5) (v := ?_) (by simp only [List.getElem?_toArray, List.getElem?_cons_succ, List.getElem?_cons_zero]; rfl) (by kernel_rfl) (by kernel_rfl) (by kernel_rfl) (by exact fun _ _ _ h => h) (Or.inl ⟨by rfl, ?_⟩) (by assumption) ?_
                    rotate_left
                    · intro wq hSw
                      (try dsimp only at hSw)
                      go_simp
                      all_goals (with_reducible rfl)
                    try simp only [Act.put, List.setIfInBounds_toArray, List.set_cons_zero, List.set_cons_succ]
                    refine wpAnyH_take (i := 6) (v := ?_) (by simp only [List.getElem?_toArray, List.getElem?_cons_succ, List.getElem?_cons_zero]; rfl) (by kernel_rfl) (by kernel_rfl) (by kernel_rfl) (by exact fun _ _ _ h => h) (Or.inl ⟨by rfl, ?_⟩) (by assumption) ?_
                    rotate_left
                    · intro wq hSw
                      (try dsimp only at hSw)
                      go_simp
                      all_goals (with_reducible rfl)
                    try simp only [Act.put, List.setIfInBounds_toArray, List.set_cons_zero, List.set_cons_succ]
                    refine wpAnyH_ready (rs := [1]) (by kernel_rfl) (by simp) ?_
                    refine AllReadyH.cons (by simp only [List.getElem?_toArray, List.getElem?_cons_succ, List.getElem?_cons_zero]; rfl) (fun K hK => ?_) AllReadyH.nil
                    go_simp
                    refine (own_s (by exact HM.out.on hHeld) rfl).mono ?_
                    rintro E y6 ⟨aP, cP, rfl, hsP, hoo, haw⟩
                    have hS := Away.trans hHeld haw
                    clear hoo
                    clear haw
                    go_wp2_with fail
                    refine hK.out _ _ hS (fun hHeld => ?_)
                    clear hK K
                    try simp only [Act.put, List.setIfInBounds_toArray, List.set_cons_zero, List.set_cons_succ]
                    refine wpAnyH_ready (rs := [3]) (by kernel_rfl) (by simp) ?_
                    refine AllReadyH.cons (by simp only [List.getElem?_toArray, List.getElem?_cons_succ, List.getElem?_cons_zero]; rfl) (fun K hK => ?_) AllReadyH.nil
                    go_simp
                    refine (hasS (z := zb) (l := m) s (by exact hsP) rfl HHZ.out).mono ?_
                    rintro E y7 ⟨rfl, haw⟩
                    have hS := Away.trans hHeld haw
                    clear hsP
                    clear haw
                    go_wp2_with fail
                    refine hK.out _ _ hS (fun hHeld => ?_)
                    clear hK K
                    try simp only [Act.put, List.setIfInBounds_toArray, List.set_cons_zero, List.set_cons_succ]
                    refine wpAnyH_take (i := 7) (v := .bool true) (by simp only [List.getElem?_toArray, List.getElem?_cons_succ, List.getElem?_cons_zero]; rfl) (by kernel_rfl) (by kernel_rfl) (by kernel_rfl) (by exact fun _ _ _ h => h) (Or.inl ⟨by rfl, ?_⟩) (by assumption) ?_
                    · intro wq hSw
                      go_simp
                      all_goals (first | rfl | simp [e1, e2])
                    try simp only [Act.put, List.setIfInBounds_toArray, List.set_cons_zero, List.set_cons_succ]
                    refine wpAnyH_take (i := 8) (v := ?_) (by simp only [List.getElem?_toArray, List.getElem?_cons_succ, List.getElem?_cons_zero]; rfl) (by kernel_rfl) (by kernel_rfl) (by kernel_rfl) (by exact fun _ _ _ h => h) (Or.inl ⟨by rfl, ?_⟩) (by assumption) ?_
                    rotate_left
                    · intro wq hSw
                      (try dsimp only at hSw)
                      go_simp
                      all_goals (with_reducible rfl)
                    try simp only [Act.put, List.setIfInBounds_toArray, List.set_cons_zero, List.set_cons_succ]
                    refine wpAnyH_take (i := 9) (v := ?_) (by simp only [List.getElem?_toArray, List.getElem?_cons_succ, List.getElem?_cons_zero]; rfl) (by kernel_rfl) (by kernel_rfl) (by kernel_rfl) (by exact fun _ _ _ h => h) (Or.inl ⟨by rfl, ?_⟩) (by assumption) ?_
                    rotate_left
                    · intro wq hSw
                      (try dsimp only at hSw)
                      go_simp
                      all_goals (with_reducible rfl)
                    try simp only [Act.put, List.setIfInBounds_toArray, List.set_cons_zero, List.set_cons_succ]
                    refine wpAnyH_take (i := 11) (v := .agg #[.int .i64 s.1, .int .i64 s.2]) (by simp only [List.getElem?_toArray, List.getElem?_cons_succ, List.getElem?_cons_zero]; rfl) (by kernel_rfl) (by kernel_rfl) (by kernel_rfl) (by exact fun _ _ _ h => h) (Or.inl ⟨by rfl, ?_⟩) (by assumption) ?_
                    · intro wq hSw
                      have k1 := (HX.out.on hSw (by simp)).c0
                      have k2 := (HX.out.on hSw (by simp)).c1
                      go_simp
                    try simp only [Act.put, List.setIfInBounds_toArray, List.set_cons_zero, List.set_cons_succ]
                    refine wpAnyH_take (i := 13) (v := ?_) (by simp only [List.getElem?_toArray, List.getElem?_cons_succ, List.getElem?_cons_zero]; rfl) (by kernel_rfl) (by kernel_rfl) (by kernel_rfl) (by exact fun _ _ _ h => h) (Or.inl ⟨by rfl, ?_⟩) (by assumption) ?_
                    rotate_left
                    · intro wq hSw
                      (try dsimp only at hSw)
                      go_simp
                      all_goals (with_reducible rfl)
                    try simp only [Act.put, List.setIfInBounds_toArray, List.set_cons_zero, List.set_cons_succ]
                    refine wpAnyH_take (i := 14) (v := ?_) (by simp only [List.getElem?_toArray, List.getElem?_cons_succ, List.getElem?_cons_zero]; rfl) (by kernel_rfl) (by kernel_rfl) (by kernel_rfl) (by exact fun _ _ _ h => h) (Or.inl ⟨by rfl, ?_⟩) (by assumption) ?_
                    rotate_left
                    · intro wq hSw
                      (try dsimp only at hSw)
                      go_simp
                      all_goals (with_reducible rfl)
                    try simp only [Act.put, List.setIfInBounds_toArray, List.set_cons_zero, List.set_cons_succ]
                    refine wpAnyH_ready (rs := [10]) (by kernel_rfl) (by simp) ?_
                    refine AllReadyH.cons (by simp only [List.getElem?_toArray, List.getElem?_cons_succ, List.getElem?_cons_zero]; rfl) (fun K hK => ?_) AllReadyH.nil
                    go_simp
                    refine (own_s (by exact HM.out.on hHeld) rfl).mono ?_
                    rintro E y8 ⟨aP, cP, rfl, hsP, hoo, haw⟩
                    have hS := Away.trans hHeld haw
                    clear hoo
                    clear haw
                    go_wp2_with fail
                    refine hK.out _ _ hS (fun hHeld => ?_)
                    clear hK K
                    try simp only [Act.put, List.setIfInBounds_toArray, List.set_cons_zero, List.set_cons_succ]
                    refine wpAnyH_ready (rs := [12]) (by kernel_rfl) (by simp) ?_
                    refine AllReadyH.cons (by simp only [List.getElem?_toArray, List.getElem?_cons_succ, List.getElem?_cons_zero]; rfl) (fun K hK => ?_) AllReadyH.nil
                    go_simp
                    refine (meetsS (z := (!sb)) (l := m) s (by exact hsP) rfl HMZ.out).mono ?_
                    rintro E y9 ⟨rfl, haw⟩
                    have hS := Away.trans hHeld haw
                    clear hsP
                    clear haw
                    go_wp2_with fail
                    refine hK.out _ _ hS (fun hHeld => ?_)
                    clear hK K
                    try simp only [Act.put, List.setIfInBounds_toArray, List.set_cons_zero, List.set_cons_succ]
                    refine wpAnyH_ready (rs := [15]) (by kernel_rfl) (by simp) ?_
                    refine AllReadyH.cons (by simp only [List.getElem?_toArray, List.getElem?_cons_succ, List.getElem?_cons_zero]; rfl) (fun K hK => ?_) AllReadyH.nil
                    go_simp
                    refine (same_s (z := sb) (l := cutP m s) (m := m) (by exact HC.out.on hHeld) (by exact HM.out.on hHeld) NC.out rfl HCZ.out).mono ?_
                    rintro E y10 ⟨rfl, haw⟩
                    have hS := Away.trans hHeld haw
                    clear haw
                    go_wp2_with fail
                    refine hK.out _ _ hS (fun hHeld => ?_)
                    clear hK K
                    try simp only [Act.put, List.setIfInBounds_toArray, List.set_cons_zero, List.set_cons_succ]
                    refine wpAnyH_take (i := 16) (v := ?_) (by simp only [List.getElem?_toArray, List.getElem?_cons_succ, List.getElem?_cons_zero]; rfl) (by kernel_rfl) (by kernel_rfl) (by kernel_rfl) (by exact fun _ _ _ h => h) (Or.inl ⟨by rfl, ?_⟩) (by assumption) ?_
                    rotate_left
                    · intro wq hSw
                      (try dsimp only at hSw)
                      go_simp
                      all_goals (with_reducible rfl)
                    try simp only [Act.put, List.setIfInBounds_toArray, List.set_cons_zero, List.set_cons_succ]
                    refine wpAnyH_take (i := 17) (v := .bool true) (by simp only [List.getElem?_toArray, List.getElem?_cons_succ, List.getElem?_cons_zero]; rfl) (by kernel_rfl) (by kernel_rfl) (by kernel_rfl) (by exact fun _ _ _ h => h) (Or.inl ⟨by rfl, ?_⟩) (by assumption) ?_
                    · intro wq hSw
                      go_simp
                      all_goals (first | rfl | simp [e1, e2])
                    try simp only [Act.put, List.setIfInBounds_toArray, List.set_cons_zero, List.set_cons_succ]
                    refine wpAnyH_take (i := 18) (v := ?_) (by simp only [List.getElem?_toArray, List.getElem?_cons_succ, List.getElem?_cons_zero]; rfl) (by kernel_rfl) (by kernel_rfl) (by kernel_rfl) (by exact fun _ _ _ h => h) (Or.inl ⟨by rfl, ?_⟩) (by assumption) ?_
                    rotate_left
                    · intro wq hSw
                      (try dsimp only at hSw)
                      go_simp
                      all_goals (with_reducible rfl)
                    try simp only [Act.put, List.setIfInBounds_toArray, List.set_cons_zero, List.set_cons_succ]
                    refine wpAnyH_take (i := 19) (v := ?_) (by simp only [List.getElem?_toArray, List.getElem?_cons_succ, List.getElem?_cons_zero]; rfl) (by kernel_rfl) (by kernel_rfl) (by kernel_rfl) (by exact fun _ _ _ h => h) (Or.inl ⟨by rfl, ?_⟩) (by assumption) ?_
                    rotate_left
                    · intro wq hSw
                      (try dsimp only at hSw)
                      go_simp
                      all_goals (with_reducible rfl)
                    try simp only [Act.put, List.setIfInBounds_toArray, List.set_cons_zero, List.set_cons_succ]
                    refine wpAnyH_take (i := 20) (v := ?_) (by simp only [List.getElem?_toArray, List.getElem?_cons_succ, List.getElem?_cons_zero]; rfl) (by kernel_rfl) (by kernel_rfl) (by kernel_rfl) (by exact fun _ _ _ h => h) (Or.inl ⟨by rfl, ?_⟩) (by assumption) ?_
                    rotate_left
                    · intro wq hSw
                      (try dsimp only at hSw)
                      go_simp
                      all_goals (with_reducible rfl)
                    try simp only [Act.put, List.setIfInBounds_toArray, List.set_cons_zero, List.set_cons_succ]
                    refine wpAnyH_take (i := 22) (v := ?_) (by simp only [List.getElem?_toArray, List.getElem?_cons_succ, List.getElem?_cons_zero]; rfl) (by kernel_rfl) (by kernel_rfl) (by kernel_rfl) (by exact fun _ _ _ h => h) (Or.inl ⟨by rfl, ?_⟩) (by assumption) ?_
                    rotate_left
                    · intro wq hSw
                      (try dsimp only at hSw)
                      go_simp
                      all_goals (with_reducible rfl)
                    try simp only [Act.put, List.setIfInBounds_toArray, List.set_cons_zero, List.set_cons_succ]
                    refine wpAnyH_take (i := 24) (v := ?_) (by simp only [List.getElem?_toArray, List.getElem?_cons_succ, List.getElem?_cons_zero]; rfl) (by kernel_rfl) (by kernel_rfl) (by kernel_rfl) (by exact fun _ _ _ h => h) (Or.inl ⟨by rfl, ?_⟩) (by assumption) ?_
                    rotate_left
                    · intro wq hSw
                      (try dsimp only at hSw)
                      go_simp
                      all_goals (with_reducible rfl)
                    try simp only [Act.put, List.setIfInBounds_toArray, List.set_cons_zero, List.set_cons_succ]
                    refine wpAnyH_ready (rs := [21]) (by kernel_rfl) (by simp) ?_
                    refine AllReadyH.cons (by simp only [List.getElem?_toArray, List.getElem?_cons_succ, List.getElem?_cons_zero]; rfl) (fun K hK => ?_) AllReadyH.nil
                    go_simp
                    refine (sizeS (z := x1 + x2) (l := addP m s) (by exact HA.out.on hHeld) NA.out HS0.out).mono ?_
                    rintro E y11 ⟨rfl, haw⟩
                    have hS := Away.trans hHeld haw
                    clear haw
                    go_wp2_with fail
                    refine hK.out _ _ hS (fun hHeld => ?_)
                    clear hK K
                    try simp only [Act.put, List.setIfInBounds_toArray, List.set_cons_zero, List.set_cons_succ]
                    refine wpAnyH_ready (rs := [23]) (by kernel_rfl) (by simp) ?_
                    refine AllReadyH.cons (by simp only [List.getElem?_toArray, List.getElem?_cons_succ, List.getElem?_cons_zero]; rfl) (fun K hK => ?_) AllReadyH.nil
                    go_simp
                    refine (sizeS (z := x1) (l := m) (by exact HM.out.on hHeld) rfl HS1.out).mono ?_
                    rintro E y12 ⟨rfl, haw⟩
                    have hS := Away.trans hHeld haw
                    clear haw
                    go_wp2_with fail
                    refine hK.out _ _ hS (fun hHeld => ?_)
                    clear hK K
                    try simp only [Act.put, List.setIfInBounds_toArray, List.set_cons_zero, List.set_cons_succ]
                    refine wpAnyH_ready (rs := [25]) (by kernel_rfl) (by simp) ?_
                    refine AllReadyH.cons (by simp only [List.getElem?_toArray, List.getElem?_cons_succ, List.getElem?_cons_zero]; rfl) (fun K hK => ?_) AllReadyH.nil
                    go_simp
                    refine (sizeS (z := x2) (l := leftP s m) (by exact HG.out.on hHeld) NG.out HS2.out).mono ?_
                    rintro E y13 ⟨rfl, haw⟩
                    have hS := Away.trans hHeld haw
                    clear haw
                    go_wp2_with fail
                    refine hK.out _ _ hS (fun hHeld => ?_)
                    clear hK K
                    try simp only [Act.put, List.setIfInBounds_toArray, List.set_cons_zero, List.set_cons_succ]
                    refine wpAnyH_take (i := 26) (v := ?_) (by simp only [List.getElem?_toArray, List.getElem?_cons_succ, List.getElem?_cons_zero]; rfl) (by kernel_rfl) (by kernel_rfl) (by kernel_rfl) (by exact fun _ _ _ h => h) (Or.inl ⟨by rfl, ?_⟩) (by assumption) ?_
                    rotate_left
                    · intro wq hSw
                      (try dsimp only at hSw)
                      go_simp
                      all_goals (with_reducible rfl)
                    try simp only [Act.put, List.setIfInBounds_toArray, List.set_cons_zero, List.set_cons_succ]
                    refine wpAnyH_take (i := 27) (v := .bool true) (by simp only [List.getElem?_toArray, List.getElem?_cons_succ, List.getElem?_cons_zero]; rfl) (by kernel_rfl) (by kernel_rfl) (by kernel_rfl) (by exact fun _ _ _ h => h) (Or.inl ⟨by rfl, ?_⟩) (by assumption) ?_
                    · intro wq hSw
                      go_simp
                      all_goals (first | rfl | simp [e1, e2])
                    try simp only [Act.put, List.setIfInBounds_toArray, List.set_cons_zero, List.set_cons_succ]
                    refine wpAnyH_take (i := 28) (v := ?_) (by simp only [List.getElem?_toArray, List.getElem?_cons_succ, List.getElem?_cons_zero]; rfl) (by kernel_rfl) (by kernel_rfl) (by kernel_rfl) (by exact fun _ _ _ h => h) (Or.inl ⟨by rfl, ?_⟩) (by assumption) ?_
                    rotate_left
                    · intro wq hSw
                      (try dsimp only at hSw)
                      go_simp
                      all_goals (with_reducible rfl)
                    try simp only [Act.put, List.setIfInBounds_toArray, List.set_cons_zero, List.set_cons_succ]
                    refine wpAnyH_take (i := 29) (v := ?_) (by simp only [List.getElem?_toArray, List.getElem?_cons_succ, List.getElem?_cons_zero]; rfl) (by kernel_rfl) (by kernel_rfl) (by kernel_rfl) (by exact fun _ _ _ h => h) (Or.inl ⟨by rfl, ?_⟩) (by assumption) ?_
                    rotate_left
                    · intro wq hSw
                      (try dsimp only at hSw)
                      go_simp
                      all_goals (with_reducible rfl)
                    try simp only [Act.put]
                    refine wpAnyH_done (by kernel_rfl) ?_ _
                    have HE := hidI (HW.out.trans hHeld)
                    clear hHeld
                    go_wp2_with fail
                    go_ret
                    exact ⟨rfl, HE.out.to_below⟩
  · have HAL := hidI hal
    replace HW := hidI (HW.out.trans haw)
    replace HL := hidI (HL.out.on haw)
    clear hal haw HO
    go_wp2_with fail
    refine (spansS (z := false) (by exact HL.out) rfl HAL.out).mono ?_
    rintro E w2 ⟨rfl, haw⟩
    replace HW := hidI (HW.out.trans haw)
    clear haw
    go_wp2_with fail
    go_ret
    exact ⟨rfl, HW.out.to_below⟩
namespace spanSets
theorem lifted (os : Os) (started : os.Started) (H : Type) (enc : TypeId × Value → H) :
    ReturnsInHanded {} Try.checked os 6 .any (Rows.spanSetsSpec.pre6 enc Try.prog Try.f6 Rows.spanSetsRow.domain false) (Rows.spanSetsSpec.post enc Try.prog Try.f6 false true false false) := by
  refine returnsInHanded_of_change_sized (C := Try.checked) ownKn started (by kernel_rfl) Try.func6
    (ChangeSpec.witness6 (enc := enc) (C := Try.checked) false ⟨#[], #[.slice none 0 0, .agg #[.int .i64 0, .int .i64 0], .int .i64 0], []⟩ 8 (by kernel_rfl) (by kernel_rfl) (by kernel_rfl) (by kernel_rfl)) ?_
  intro W base args ds gs before hval0 hW _ hsz0 _
  have hsz : (DataW.weightsEach Try.prog (Try.f6.params.toList ++ Rows.spanSetsSpec.plain.varTypes Try.prog) (ds ++ gs)).all (· ≤ reachBytes) = true := hsz0
  clear hsz0
  have hval : ∀ (j : Nat) t v, Try.f6.params[j]? = some t → args[j]? = some v → Value.okWide Try.prog W .any base t v := hval0
  have hW' := hW
  obtain ⟨p, q, hA0, hV, rfl, hfz, hnd⟩ := hW
  have hA : DataW.TrodAll enc Try.prog W 0 (fun _ => true) true Try.f6.params.toList args.toList ds p := hA0
  rw [Try.params6] at hA hval hsz
  obtain ⟨v0, vs0, d0, ds0, p0, q0, hargs, rfl, rfl, h0, r0⟩ := trodAll_cons hA
  obtain ⟨v1, vs1, d1, ds1, p1, q1, rfl, rfl, rfl, h1, r1⟩ := trodAll_cons r0
  obtain ⟨v2, vs2, d2, ds2, p2, q2, rfl, rfl, rfl, h2, r2⟩ := trodAll_cons r1
  obtain ⟨rfl, rfl, rfl⟩ := trodAll_nil r2
  obtain rfl : args = #[v0, v1, v2] := by cases args; simp_all
  have hV2 : DataW.TrodVars enc Try.prog W (fun _ => true) Rows.spanSetsSpec.vars gs q := hV
  obtain ⟨rfl, rfl⟩ := trodVars_none hV2
  have k0 := h0
  have lt0 : ∀ x ∈ p0, x.block < W.heap.size := by obtain ⟨m, hm⟩ := k0; exact DataW.trod_lt m _ _ _ hm
  have z0 : ∀ m ∈ d0.weights Try.prog 22, m ≤ reachBytes := fun m hm => by
    have := List.all_eq_true.1 hsz m (DataW.weights_mem_each (j := 0) (t := 22) rfl rfl m hm)
    simpa using this
  obtain ⟨a0, len0, cap0, rfl⟩ := okWide_slice Try.underlying22 (hval 0 22 v0 rfl rfl)
  obtain ⟨l0, rfl, w0, u0, b0⟩ := open_spans h0 z0 lt0
  have k1 := h1
  have lt1 : ∀ x ∈ p1, x.block < W.heap.size := by obtain ⟨m, hm⟩ := k1; exact DataW.trod_lt m _ _ _ hm
  have z1 : ∀ m ∈ d1.weights Try.prog 29, m ≤ reachBytes := fun m hm => by
    have := List.all_eq_true.1 hsz m (DataW.weights_mem_each (j := 1) (t := 29) rfl rfl m hm)
    simpa using this
  obtain ⟨x1, rfl, w1⟩ := open_sp (hval 1 29 v1 rfl rfl) h1
  obtain ⟨a2, rfl, rfl, rfl, w2⟩ := open_int Try.underlying3 (hval 2 3 v2 rfl rfl) h2
  clear hA0 hval0
  refine (walk a0 l0 cap0 x1 a2 W w0 b0 w1 w2).mono fun e W' ⟨he, bel⟩ => ?_
  subst he
  exact ⟨_, rfl, _, _, _, [], _, [], hW', trodAll_mk1 (shut_bool Try.underlying4 _), (trodAll_cons_mk (Below.trod laidOut (by kernel_rfl) (of_decide_eq_true (by kernel_rfl)) k0 bel lt0) (trodAll_cons_mk (Below.trod laidOut (by kernel_rfl) (of_decide_eq_true (by kernel_rfl)) k1 bel lt1) (trodAll_cons_mk (shut_int Try.underlying3 w2) trodAll_mk0))), rfl, bel.frame _, fun h => by cases h⟩
theorem over : Rows.spanSetsRow.holds Try.pinned (OpenSpec.ofChange Rows.spanSetsSpec) :=
  OpenClaim.holds_of_wide 6 Try.f6 rfl rfl rfl rfl rfl rfl rfl ⟨rfl, rfl, rfl, rfl, rfl⟩ rfl rfl rfl rfl rfl (by kernel_rfl) Try.func6 (by kernel_rfl)
    (of_decide_eq_true (by kernel_rfl)) (by unfold Func.isWrapper; first | (rw [if_pos (by decide +kernel)]; kernel_rfl) | (rw [if_neg (by decide +kernel)]; exact ⟨rfl, rfl⟩))
    (fun os started H enc _ => lifted os started H enc)
end spanSets
theorem spanSets_holds : Rows.SpanSetsSaid := spanSets.over
#print axioms spanSets_holds
end Go.Proofs.Ytckiiidigajhpaa
