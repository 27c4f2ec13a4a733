/-
  SpanHoles.
-/
import Derived.Test.YtckiiidigajhpaaNear
namespace Go.Proofs.Ytckiiidigajhpaa
open Go.ChangeShapes Go.WideShapes Go.ChangeAt Go.RowKit Go.Deep
set_option linter.unusedVariables false
set_option maxRecDepth 100000

/-- What a list holds below an end. -/
def underP (m : List Sp) (to : Int) : List Sp := if to < 65535 then cutP m (to, 65535) else m
theorem under_of {m : List Sp} {to : Int} (hm : rightP m = true) (h0 : 0 ≤ to) (h1 : to ≤ 65535) : Of (underP m to) (fun n => inB m n && decide (n < to)) := by
  unfold underP
  split
  · have := cut_of (s := (to, 65535)) hm ⟨h0, by assumption, Int.le_refl _⟩
    refine ⟨this.right, fun n => ?_⟩
    rw [this.has]
    cases hb : inB m n
    · rfl
    · obtain ⟨s, hs, k1, k2⟩ := inB_iff.1 hb
      have := (rf_is hm s hs).1
      unfold Is at this
      rw [Bool.eq_iff_iff]
      simp only [inS, Bool.true_and, Bool.not_eq_true', decide_eq_false_iff_not, decide_eq_true_eq]
      omega
  · refine ⟨hm, fun n => ?_⟩
    cases hb : inB m n
    · rfl
    · obtain ⟨s, hs, k1, k2⟩ := inB_iff.1 hb
      have := (rf_is hm s hs).1
      unfold Is at this
      rw [decide_eq_true (by omega)]; rfl
theorem holes_twice {m : List Sp} {to : Int} (hm : rightP m = true) (h0 : 0 ≤ to) (h1 : to ≤ 65535) : holesP (holesP m to) to = underP m to := by
  have a := holes_of hm h1
  have b := holes_of a.right h1
  refine Of.uniq (f := fun n => inB m n && decide (n < to)) ⟨b.right, fun n => ?_⟩ (under_of hm h0 h1)
  rw [b.has, a.has]
  cases hb : inB m n
  · cases hd : decide (0 ≤ n ∧ n < to) <;> rfl
  · obtain ⟨s, hs, k1, k2⟩ := inB_iff.1 hb
    have := (rf_is hm s hs).1
    unfold Is at this
    rw [Bool.eq_iff_iff]
    simp
    omega
theorem cnt_below (to : Nat) : ∀ N : Nat, cnt (fun n => decide (0 ≤ n ∧ n < (to : Int))) N = ((min N to : Nat) : Int)
  | 0 => by simp [cnt]
  | N + 1 => by
    unfold cnt
    rw [cnt_below to N]
    by_cases h : N < to
    · rw [decide_eq_true (by omega), if_pos rfl]; omega
    · rw [decide_eq_false (by omega), if_neg (by simp)]; omega
theorem holes_size {m : List Sp} {to : Int} (hm : rightP m = true) (h0 : 0 ≤ to) (h1 : to ≤ 65535) : sizeP (holesP m to) + sizeP (underP m to) = to := by
  have a := holes_of hm h1
  have b := under_of hm h0 h1
  rw [size_cnt a.right, size_cnt b.right]
  have e := cnt_or (inB (holesP m to)) (inB (underP m to)) 65535 (fun n hn => by
    rw [a.has] at hn
    rw [b.has]
    cases hb : inB m n
    · rfl
    · rw [hb] at hn; simp at hn)
  rw [← e]
  obtain ⟨t, rfl⟩ : ∃ t : Nat, to = t := ⟨to.toNat, by omega⟩
  rw [cnt_congr (g := fun n => decide (0 ≤ n ∧ n < (t : Int))) (fun n hn => ?_), cnt_below]
  · omega
  · rw [a.has, b.has]
    cases hb : inB m n
    · simp
    · simp
theorem size_bound {l : List Sp} (h : rightP l = true) : 0 ≤ sizeP l ∧ sizeP l ≤ 65535 := by
  rw [size_cnt h]
  have : ∀ (f : Int → Bool) (N : Nat), 0 ≤ cnt f N ∧ cnt f N ≤ N := by
    intro f N
    induction N with
    | zero => simp [cnt]
    | succ N ih => unfold cnt; split <;> omega
  have := this (inB l) 65535
  omega
set_option maxHeartbeats 16000000 in
theorem walk (a : Option Addr) (l : List Sp) (cap : Nat) (to n : Int) (W : World) (hsl : Sl W a cap l) (hl : l.length ≤ 8796093021952) (hto0 : (Lit.int .i64 to).wf = true) (hn0 : (Lit.int .i64 n).wf = true) :
    Calls Try.prog 5 #[.slice a l.length cap, .int .i64 to, .int .i64 n] W fun e w' => e = .returned (.bool true) ∧ Below W.heap.size W w' := by
  have HL : Hid (Sl W a cap l) := hsl
  have HW : Hid (Away [] W W) := Away.refl _ _
  have HN : Hid (I64 n) := bounds_i64 hn0
  clear hsl hto0 hn0
  go_enter Try.func5, Try.ntmps5
  go_wp2_with fail
  refine (alive_c _).mono ?_
  rintro E w2 ⟨rfl, haw⟩
  replace HW := hidI (HW.out.trans haw)
  replace HL := hidI (HL.out.on haw)
  clear haw
  go_wp2_with fail
  refine (own_s (by exact HL.out) rfl).mono ?_
  rintro E w2 ⟨aO, cO, rfl, hsO, -, haw⟩
  replace HW := hidI (HW.out.trans haw)
  replace HL := hidI (HL.out.on haw)
  have HO := hidI hsO
  clear hsO
  clear haw
  go_wp2_with fail
  refine (norm_s (by exact HO.out) rfl).mono ?_
  rintro E w2 (⟨hal, m, ⟨aM, cM, nM, rfl, hnM, hsM, haw⟩, hof⟩ | ⟨hal, rfl, haw⟩)
  · have HM := hidI hsM
    have NM := hidI hnM
    have HOF := hidI hof
    replace HW := hidI (HW.out.trans haw)
    clear hal hsM hnM hof haw HO HL
    by_cases h0 : to < 0
    · go_wp2_with fail
      refine (own_s (by exact HM.out) NM.out).mono ?_
      rintro E w2 ⟨aP, cP, rfl, hsP, -, haw⟩
      replace HW := hidI (HW.out.trans haw)
      replace HM := hidI (HM.out.on haw)
      have HP := hidI hsP
      clear hsP
      clear haw
      go_wp2_with fail
      refine (holesN (l := m) to (by exact HP.out) NM.out (by rw [decide_eq_false (by omega)]; simp)).mono ?_
      rintro E w2 ⟨rfl, haw⟩
      replace HW := hidI (HW.out.trans haw)
      clear haw
      go_wp2_with fail
      go_ret
      exact ⟨rfl, HW.out.to_below⟩
    · by_cases h1 : 65535 < to
      · go_wp2_with fail
        refine (own_s (by exact HM.out) NM.out).mono ?_
        rintro E w2 ⟨aP, cP, rfl, hsP, -, haw⟩
        replace HW := hidI (HW.out.trans haw)
        replace HM := hidI (HM.out.on haw)
        have HP := hidI hsP
        clear hsP
        clear haw
        go_wp2_with fail
        refine (holesN (l := m) to (by exact HP.out) NM.out (by rw [decide_eq_false (by omega)]; simp)).mono ?_
        rintro E w2 ⟨rfl, haw⟩
        replace HW := hidI (HW.out.trans haw)
        clear haw
        go_wp2_with fail
        go_ret
        exact ⟨rfl, HW.out.to_below⟩
      · have HTO : Hid (0 ≤ to ∧ to ≤ 65535) := ⟨by omega, by omega⟩
        obtain ⟨h, hh⟩ : ∃ h, h = holesP m to := ⟨_, rfl⟩
        obtain ⟨u, hu⟩ : ∃ u, u = underP m to := ⟨_, rfl⟩
        have HHP : Hid (holesP m to = h) := hh.symm
        have HOH : Hid (Of h (fun n => decide (0 ≤ n ∧ n < to) && !inB m n)) := by rw [hh]; exact holes_of HOF.out.right HTO.out.2
        have HBK : Hid (holesP h to = u) := by rw [hh, hu]; exact holes_twice HOF.out.right HTO.out.1 HTO.out.2
        have HSM : Hid (sizeP h + sizeP u = to) := by rw [hh, hu]; exact holes_size HOF.out.right HTO.out.1 HTO.out.2
        have HSB : Hid (0 ≤ sizeP h ∧ sizeP h ≤ 65535) := size_bound HOH.out.right
        have HSB2 : Hid (0 ≤ sizeP u ∧ sizeP u ≤ 65535) := by rw [hu]; exact size_bound (under_of HOF.out.right HTO.out.1 HTO.out.2).right
        have HUC : Hid (to < 65535 → cutP m (to, 65535) = u) := fun h => by rw [hu]; unfold underP; rw [if_pos h]
        have HUF : Hid (¬ to < 65535 → u = m) := fun h => by rw [hu]; unfold underP; rw [if_neg h]
        clear hh hu
        go_wp2_with fail
        refine (own_s (by exact HM.out) NM.out).mono ?_
        rintro E w2 ⟨aP, cP, rfl, hsP, -, haw⟩
        replace HW := hidI (HW.out.trans haw)
        replace HM := hidI (HM.out.on haw)
        have HP := hidI hsP
        clear hsP
        clear haw
        go_wp2_with fail
        refine (holesY (l := m) to h (by exact HP.out) NM.out HOF.out.right HTO.out HHP.out).mono ?_
        rintro E w2 ⟨aH, cH, nH, rfl, hnH, hsH, haw⟩
        replace HW := hidI (HW.out.trans haw)
        replace HM := hidI (HM.out.on haw)
        have HH := hidI hsH
        have NH := hidI hnH
        clear hsH hnH
        clear haw
        go_wp2_with fail
        refine (risingS (z := true) (by exact HH.out) NH.out HOH.out.right).mono ?_
        rintro E w2 ⟨rfl, haw⟩
        replace HW := hidI (HW.out.trans haw)
        replace HM := hidI (HM.out.on haw)
        replace HH := hidI (HH.out.on haw)
        clear haw
        go_wp2_with fail
        refine (near_c aM m (0, to) n nM cM _ NM.out (by exact HM.out.row) (fun x hx => (rf_is HOF.out.right x hx).1) ⟨by show (0 : Int) ≤ 0; omega, by show (0 : Int) ≤ 65535; omega, HTO.out.1, HTO.out.2⟩ HN.out).mono ?_
        rintro E w2 ⟨aZ, cZ, nZ, z, rfl, hnZ, hZ, haw⟩
        replace HW := hidI (HW.out.trans haw)
        replace HM := hidI (HM.out.on haw)
        replace HH := hidI (HH.out.on haw)
        have HZ := hidI hZ
        have hzl := hZ.1
        subst hnZ
        clear haw hZ
        generalize hW1 : w2 = W1 at *
        clear hW1
        go_wp2_with fail
        go_loopw [13] (fun i wr => ∃ j : Nat, j ≤ z.length ∧ i = .int .i64 (j : Int) ∧ wr = W1) (fun i _ => z.length - (intOf i).toNat)
        case atStart => exact ⟨0, by omega, rfl, rfl⟩
        case round =>
          obtain ⟨j, hj, rfl, rfl⟩ := hrel
          by_cases hlt : j < z.length
          · obtain ⟨q, hq⟩ : ∃ q, z[j]? = some q := ⟨z[j], by simp [hlt]⟩
            obtain ⟨b, off, hbo, c1⟩ : ∃ b off, aZ = some ⟨b, off, none⟩ ∧ wr.cell? ⟨b, off + j, none⟩ = some (.int .i64 q) := by
              rcases HZ.out.2.2 with h0 | ⟨b, off, h0, hc⟩
              · rw [h0] at hlt; simp at hlt
              · exact ⟨b, off, h0, hc j q hq⟩
            subst hbo
            clear hq
            have HIN : Hid (inB h q = (decide (0 ≤ q ∧ q < to) && !inB m q)) := HOH.out.has q
            by_cases hb0 : 0 ≤ q
            · by_cases hb1 : q < to
              · have HI2 : Hid (inB h q = !inB m q) := by show _ = _; rw [HIN.out, decide_eq_true ⟨hb0, hb1⟩]; rfl
                cases hmq : inB m q
                · go_wp2_with fail
                  refine (inS_s (z := true) q (by exact HH.out) NH.out (by rw [HI2.out, hmq]; rfl)).mono ?_
                  rintro E w2 ⟨rfl, rfl⟩
                  go_wp2_with fail
                  refine (inS_s (z := false) q (by exact HM.out) NM.out hmq).mono ?_
                  rintro E w2 ⟨rfl, rfl⟩
                  go_wp2_with fail
                  go_roundw
                  case rel => exact ⟨j + 1, by omega, by go_num, by trivial⟩
                  case measure => simp [intOf]; omega
                · go_wp2_with fail
                  refine (inS_s (z := false) q (by exact HH.out) NH.out (by rw [HI2.out, hmq]; rfl)).mono ?_
                  rintro E w2 ⟨rfl, rfl⟩
                  go_wp2_with fail
                  refine (inS_s (z := true) q (by exact HM.out) NM.out hmq).mono ?_
                  rintro E w2 ⟨rfl, rfl⟩
                  go_wp2_with fail
                  go_roundw
                  case rel => exact ⟨j + 1, by omega, by go_num, by trivial⟩
                  case measure => simp [intOf]; omega
              · have HI2 : Hid (inB h q = false) := by show _ = _; rw [HIN.out, decide_eq_false (by omega)]; rfl
                go_wp2_with fail
                refine (inS_s (z := false) q (by exact HH.out) NH.out HI2.out).mono ?_
                rintro E w2 ⟨rfl, rfl⟩
                go_wp2_with fail
                go_roundw
                case rel => exact ⟨j + 1, by omega, by go_num, by trivial⟩
                case measure => simp [intOf]; omega
            · have HI2 : Hid (inB h q = false) := by show _ = _; rw [HIN.out, decide_eq_false (by omega)]; rfl
              go_wp2_with fail
              refine (inS_s (z := false) q (by exact HH.out) NH.out HI2.out).mono ?_
              rintro E w2 ⟨rfl, rfl⟩
              go_wp2_with fail
              go_roundw
              case rel => exact ⟨j + 1, by omega, by go_num, by trivial⟩
              case measure => simp [intOf]; omega
          · clear HZ
            go_wp2_with fail
            refine (own_s (by exact HH.out) NH.out).mono ?_
            rintro E w2 ⟨aX, cX, rfl, hsX, -, haw⟩
            replace HW := hidI (HW.out.trans haw)
            replace HM := hidI (HM.out.on haw)
            replace HH := hidI (HH.out.on haw)
            have HX := hidI hsX
            clear hsX
            clear haw
            go_wp2_with fail
            refine (holesY (l := h) to u (by exact HX.out) NH.out HOH.out.right HTO.out HBK.out).mono ?_
            rintro E w2 ⟨aB, cB, nB, rfl, hnB, hsB, haw⟩
            replace HW := hidI (HW.out.trans haw)
            replace HM := hidI (HM.out.on haw)
            replace HH := hidI (HH.out.on haw)
            have HB := hidI hsB
            have NB := hidI hnB
            clear hsB hnB
            clear haw
            go_wp2_with fail
            refine (own_s (by exact HM.out) NM.out).mono ?_
            rintro E w2 ⟨aU, cU, rfl, hsU, -, haw⟩
            replace HW := hidI (HW.out.trans haw)
            replace HM := hidI (HM.out.on haw)
            replace HH := hidI (HH.out.on haw)
            replace HB := hidI (HB.out.on haw)
            have HU := hidI hsU
            clear hsU
            clear haw
            by_cases hto : to < 65535
            · go_wp2_with fail
              refine (cutY (l := m) (to, 65535) u (by exact HU.out) NM.out HOF.out.right (by simp [isB, Is]; omega) (HUC.out (by omega))).mono ?_
              rintro E w2 ⟨aV, cV, nV, rfl, hnV, hsV, haw⟩
              replace HW := hidI (HW.out.trans haw)
              replace HH := hidI (HH.out.on haw)
              replace HB := hidI (HB.out.on haw)
              have HV := hidI hsV
              have NV := hidI hnV
              clear hsV hnV
              clear haw
              go_wp2_with fail
              refine (same_s (z := true) (l := u) (m := u) (by exact HB.out) (by exact HV.out) NB.out NV.out (by simp)).mono ?_
              rintro E w2 ⟨rfl, haw⟩
              replace HW := hidI (HW.out.trans haw)
              replace HH := hidI (HH.out.on haw)
              replace HV := hidI (HV.out.on haw)
              clear haw
              go_wp2_with fail
              refine (sizeS (by exact HH.out) NH.out rfl).mono ?_
              rintro E w2 ⟨rfl, haw⟩
              replace HW := hidI (HW.out.trans haw)
              replace HV := hidI (HV.out.on haw)
              clear haw
              go_wp2_with fail
              refine (sizeS (by exact HV.out) NV.out rfl).mono ?_
              rintro E w2 ⟨rfl, haw⟩
              replace HW := hidI (HW.out.trans haw)
              clear haw
              have b1 := HSB.out.1
              have b2 := HSB.out.2
              have b3 := HSB2.out
              have e := HSM.out
              generalize sizeP h = x1 at *
              generalize sizeP u = x2 at *
              subst e
              go_wp2_with fail
              go_ret
              exact ⟨rfl, HW.out.to_below⟩
            · have HU2 := HU
              have NU : Hid (m.length = nM) := NM.out
              have HUM : Hid (u = m) := HUF.out (by omega)
              go_wp2_with fail
              refine (same_s (z := true) (l := u) (m := m) (by exact HB.out) (by exact HU2.out) NB.out NM.out (by rw [HUM.out]; simp)).mono ?_
              rintro E w2 ⟨rfl, haw⟩
              replace HW := hidI (HW.out.trans haw)
              replace HH := hidI (HH.out.on haw)
              replace HU2 := hidI (HU2.out.on haw)
              clear haw
              go_wp2_with fail
              refine (sizeS (by exact HH.out) NH.out rfl).mono ?_
              rintro E w2 ⟨rfl, haw⟩
              replace HW := hidI (HW.out.trans haw)
              replace HU2 := hidI (HU2.out.on haw)
              clear haw
              go_wp2_with fail
              refine (sizeS (by exact HU2.out) NM.out rfl).mono ?_
              rintro E w2 ⟨rfl, haw⟩
              replace HW := hidI (HW.out.trans haw)
              clear haw
              have HSZ : Hid (sizeP h + sizeP m = to) := by show _ = _; rw [← HUM.out]; exact HSM.out
              have b1 := HSB.out.1
              have b2 := HSB.out.2
              have b3 : 0 ≤ sizeP m ∧ sizeP m ≤ 65535 := by rw [← HUM.out]; exact HSB2.out
              generalize sizeP h = x1 at *
              generalize sizeP m = x2 at *
              have e := HSZ.out
              subst e
              go_wp2_with fail
              go_ret
              exact ⟨rfl, HW.out.to_below⟩
  · replace HW := hidI (HW.out.trans haw)
    go_wp2_with fail
    go_ret
    exact ⟨rfl, HW.out.to_below⟩
namespace spanHoles
theorem lifted (os : Os) (started : os.Started) (H : Type) (enc : TypeId × Value → H) :
    ReturnsInHanded {} Try.checked os 5 .any (Rows.spanHolesSpec.pre6 enc Try.prog Try.f5 Rows.spanHolesRow.domain false) (Rows.spanHolesSpec.post enc Try.prog Try.f5 false true false false) := by
  refine returnsInHanded_of_change_sized (C := Try.checked) ownKn started (by kernel_rfl) Try.func5
    (ChangeSpec.witness6 (enc := enc) (C := Try.checked) false ⟨#[], #[.slice none 0 0, .int .i64 0, .int .i64 0], []⟩ 8 (by kernel_rfl) (by kernel_rfl) (by kernel_rfl) (by kernel_rfl)) ?_
  intro W base args ds gs before hval0 hW _ hsz0 _
  have hsz : (DataW.weightsEach Try.prog (Try.f5.params.toList ++ Rows.spanHolesSpec.plain.varTypes Try.prog) (ds ++ gs)).all (· ≤ reachBytes) = true := hsz0
  clear hsz0
  have hval : ∀ (j : Nat) t v, Try.f5.params[j]? = some t → args[j]? = some v → Value.okWide Try.prog W .any base t v := hval0
  have hW' := hW
  obtain ⟨p, q, hA0, hV, rfl, hfz, hnd⟩ := hW
  have hA : DataW.TrodAll enc Try.prog W 0 (fun _ => true) true Try.f5.params.toList args.toList ds p := hA0
  rw [Try.params5] at hA hval hsz
  obtain ⟨v0, vs0, d0, ds0, p0, q0, hargs, rfl, rfl, h0, r0⟩ := trodAll_cons hA
  obtain ⟨v1, vs1, d1, ds1, p1, q1, rfl, rfl, rfl, h1, r1⟩ := trodAll_cons r0
  obtain ⟨v2, vs2, d2, ds2, p2, q2, rfl, rfl, rfl, h2, r2⟩ := trodAll_cons r1
  obtain ⟨rfl, rfl, rfl⟩ := trodAll_nil r2
  obtain rfl : args = #[v0, v1, v2] := by cases args; simp_all
  have hV2 : DataW.TrodVars enc Try.prog W (fun _ => true) Rows.spanHolesSpec.vars gs q := hV
  obtain ⟨rfl, rfl⟩ := trodVars_none hV2
  have k0 := h0
  have lt0 : ∀ x ∈ p0, x.block < W.heap.size := by obtain ⟨m, hm⟩ := k0; exact DataW.trod_lt m _ _ _ hm
  have z0 : ∀ m ∈ d0.weights Try.prog 22, m ≤ reachBytes := fun m hm => by
    have := List.all_eq_true.1 hsz m (DataW.weights_mem_each (j := 0) (t := 22) rfl rfl m hm)
    simpa using this
  obtain ⟨a0, len0, cap0, rfl⟩ := okWide_slice Try.underlying22 (hval 0 22 v0 rfl rfl)
  obtain ⟨l0, rfl, w0, u0, b0⟩ := open_spans h0 z0 lt0
  obtain ⟨a1, rfl, rfl, rfl, w1⟩ := open_int Try.underlying3 (hval 1 3 v1 rfl rfl) h1
  obtain ⟨a2, rfl, rfl, rfl, w2⟩ := open_int Try.underlying3 (hval 2 3 v2 rfl rfl) h2
  clear hA0 hval0
  refine (walk a0 l0 cap0 a1 a2 W w0 b0 w1 w2).mono fun e W' ⟨he, bel⟩ => ?_
  subst he
  exact ⟨_, rfl, _, _, _, [], _, [], hW', trodAll_mk1 (shut_bool Try.underlying4 _), (trodAll_cons_mk (Below.trod laidOut (by kernel_rfl) (of_decide_eq_true (by kernel_rfl)) k0 bel lt0) (trodAll_cons_mk (shut_int Try.underlying3 w1) (trodAll_cons_mk (shut_int Try.underlying3 w2) trodAll_mk0))), rfl, bel.frame _, fun h => by cases h⟩
theorem over : Rows.spanHolesRow.holds Try.pinned (OpenSpec.ofChange Rows.spanHolesSpec) :=
  OpenClaim.holds_of_wide 5 Try.f5 rfl rfl rfl rfl rfl rfl rfl ⟨rfl, rfl, rfl, rfl, rfl⟩ rfl rfl rfl rfl rfl (by kernel_rfl) Try.func5 (by kernel_rfl)
    (of_decide_eq_true (by kernel_rfl)) (by unfold Func.isWrapper; first | (rw [if_pos (by decide +kernel)]; kernel_rfl) | (rw [if_neg (by decide +kernel)]; exact ⟨rfl, rfl⟩))
    (fun os started H enc _ => lifted os started H enc)
end spanHoles
theorem spanHoles_holds : Rows.SpanHolesSaid := spanHoles.over
#print axioms spanHoles_holds
end Go.Proofs.Ytckiiidigajhpaa
