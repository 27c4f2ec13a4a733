/-
  QueueNews.
-/
import Derived.Test.YtdgkkbiodhbmeaaRkit
import Derived.Test.YtdgkkbiodhbmeaaKTO
namespace Go.Proofs.Ytdgkkbiodhbmeaa
open Go.ChangeShapes Go.WideShapes Go.ChangeAt Go.RowKit Go.Deep
set_option linter.unusedVariables false
set_option linter.unusedSimpArgs false
set_option maxRecDepth 100000
set_option maxHeartbeats 8000000

namespace queueNews
theorem walk (c b : Int) (w : World) (hc0 : (Lit.int .i64 c).wf = true) (hb0 : (Lit.int .i64 b).wf = true) : Calls Try.prog 3 #[.int .i64 c, .int .i64 b] w fun E w' => E = .returned (.bool true) ∧ Below w.heap.size w w' := by
  have hc := bounds_i64 hc0
  have hb := bounds_i64 hb0
  clear hc0 hb0
  obtain ⟨o0, ho⟩ : ∃ o, Out o w w := ⟨_, Out.start w⟩
  have HO := Lib.hid ho
  clear ho
  by_cases hm : 0 ≤ c ∧ c ≤ 64 ∧ 0 ≤ b
  · have HM : Hid (mayP c b = true) := decide_eq_true hm
    obtain ⟨m1, m2, m3⟩ := hm
    have hcc := hc
    clear hc
    go_enter Try.func3, Try.ntmps3
    go_wp2_with fail
    refine (KI.new_o o0 1 c b 9 _ m1 m2 m3 (by omega)).mono ?_
    rintro E w1 ⟨g, rfl, hq, hc⟩
    replace HO := Lib.hid (HO.out.keep hc (by decide))
    have HQ := Lib.hid hq
    clear hq hc
    generalize give o0 w 1 = o1 at *
    go_wp2_with fail
    refine (KT.new_nil c b _).mono ?_
    rintro E w9 ⟨rfl, h9⟩
    replace h9 := h9.symm
    subst h9
    go_wp2_with fail
    refine (known_c _).mono ?_
    rintro E w2 ⟨rfl, haw⟩
    have hc := Chg.on (o := o1) 9 haw
    clear haw
    replace HO := Lib.hid (HO.out.keep hc (by decide))
    replace HQ := Lib.hid (HQ.out.keep hc (by decide))
    clear hc
    generalize give o1 w1 9 = o2 at *
    go_wp2_with fail
    refine (may_c c b _).mono ?_
    rw [HM.out]
    rintro E w9 ⟨rfl, h9⟩
    replace h9 := h9.symm
    subst h9
    go_wp2_with fail
    refine (KI.len_o HQ.out).mono ?_
    rintro E w9 ⟨rfl, h9⟩
    replace h9 := h9.symm
    subst h9
    go_wp2_with fail
    refine (KI.bytes_o HQ.out).mono ?_
    rintro E w9 ⟨rfl, h9⟩
    replace h9 := h9.symm
    subst h9
    go_wp2_with fail
    refine (KI.pop_n (by exact HQ.out)).mono ?_
    rintro E w3 ⟨rfl, hq, hc⟩
    replace HO := Lib.hid (HO.out.keep hc (by decide))
    replace HQ := Lib.hid hq
    clear hq hc
    generalize give o2 w2 1 = o3 at *
    go_wp2_with fail
    by_cases hz : 0 < c
    · have k1 : decide (0 < c) = true := decide_eq_true hz
      refine (KI.push9_y 0 0 HQ.out (by decide) (by decide) (by unfold roomP; simp [sumT]; omega)).mono ?_
      rintro E w4 ⟨rfl, hq, hc⟩
      replace HO := Lib.hid (HO.out.keep hc (by decide))
      replace HQ := Lib.hid hq
      clear hq hc
      generalize give o3 w3 1 = o4 at *
      clear hz
      go_wp2_with fail
      go_ret
      exact ⟨rfl, HO.out.below⟩
    · have k1 : decide (0 < c) = false := decide_eq_false hz
      refine (KI.push9_x 0 0 HQ.out (by decide) (by decide) (by unfold roomP; simp [sumT]; omega)).mono ?_
      rintro E w4 ⟨rfl, hq, hc⟩
      replace HO := Lib.hid (HO.out.keep hc (by decide))
      replace HQ := Lib.hid hq
      clear hq hc
      generalize give o3 w3 1 = o4 at *
      clear hz
      go_wp2_with fail
      go_ret
      exact ⟨rfl, HO.out.below⟩
  · have HM : Hid (mayP c b = false) := decide_eq_false hm
    have HN := Lib.hid hm
    clear hm
    go_enter Try.func3, Try.ntmps3
    go_wp2_with fail
    refine (KI.new_no c b 9 _ HN.out).mono ?_
    rintro E w9 ⟨rfl, h9⟩
    replace h9 := h9.symm
    subst h9
    go_wp2_with fail
    refine (KT.new_nil c b _).mono ?_
    rintro E w9 ⟨rfl, h9⟩
    replace h9 := h9.symm
    subst h9
    go_wp2_with fail
    refine (known_c _).mono ?_
    rintro E w1 ⟨rfl, haw⟩
    have hc := Chg.on (o := o0) 9 haw
    clear haw
    replace HO := Lib.hid (HO.out.keep hc (by decide))
    clear hc
    generalize give o0 w 9 = o1 at *
    go_wp2_with fail
    refine (may_c c b _).mono ?_
    rw [HM.out]
    rintro E w9 ⟨rfl, h9⟩
    replace h9 := h9.symm
    subst h9
    go_wp2_with fail
    go_ret
    exact ⟨rfl, HO.out.below⟩
end queueNews
namespace queueNews
theorem lifted (os : Os) (started : os.Started) (H : Type) (enc : TypeId × Value → H) :
    ReturnsInHanded {} Try.checked os 3 .any (Rows.queueNewsSpec.pre6 enc Try.prog Try.f3 Rows.queueNewsRow.domain false) (Rows.queueNewsSpec.post enc Try.prog Try.f3 false true false false) := by
  refine returnsInHanded_of_change_sized (C := Try.checked) ownKn started (by kernel_rfl) Try.func3
    (ChangeSpec.witness6 (enc := enc) (C := Try.checked) false ⟨#[], #[.int .i64 0, .int .i64 0], []⟩ 8 (by kernel_rfl) (by kernel_rfl) (by kernel_rfl) (by kernel_rfl)) ?_
  intro W base args ds gs before hval0 hW _ hsz0 _
  have hsz : (DataW.weightsEach Try.prog (Try.f3.params.toList ++ Rows.queueNewsSpec.plain.varTypes Try.prog) (ds ++ gs)).all (· ≤ reachBytes) = true := hsz0
  clear hsz0
  have hval : ∀ (j : Nat) t v, Try.f3.params[j]? = some t → args[j]? = some v → Value.okWide Try.prog W .any base t v := hval0
  have hW' := hW
  obtain ⟨p, q, hA0, hV, rfl, hfz, hnd⟩ := hW
  have hA : DataW.TrodAll enc Try.prog W 0 (fun _ => true) true Try.f3.params.toList args.toList ds p := hA0
  rw [Try.params3] at hA hval hsz
  obtain ⟨v0, vs0, d0, ds0, p0, q0, hargs, rfl, rfl, h0, r0⟩ := trodAll_cons hA
  obtain ⟨v1, vs1, d1, ds1, p1, q1, rfl, rfl, rfl, h1, r1⟩ := trodAll_cons r0
  obtain ⟨rfl, rfl, rfl⟩ := trodAll_nil r1
  obtain rfl : args = #[v0, v1] := by cases args; simp_all
  have hV2 : DataW.TrodVars enc Try.prog W (fun _ => true) Rows.queueNewsSpec.vars gs q := hV
  obtain ⟨rfl, rfl⟩ := trodVars_none hV2
  obtain ⟨a0, rfl, rfl, rfl, w0⟩ := open_int Try.underlying3 (hval 0 3 v0 rfl rfl) h0
  obtain ⟨a1, rfl, rfl, rfl, w1⟩ := open_int Try.underlying3 (hval 1 3 v1 rfl rfl) h1
  clear hA0 hval0
  refine (walk a0 a1 W w0 w1).mono fun e W' ⟨he, bel⟩ => ?_
  subst he
  exact ⟨_, rfl, _, _, _, [], _, [], hW', trodAll_mk1 (shut_bool Try.underlying4 _), (trodAll_cons_mk (shut_int Try.underlying3 w0) (trodAll_cons_mk (shut_int Try.underlying3 w1) trodAll_mk0)), rfl, bel.frame _, fun h => by cases h⟩
theorem over : Rows.queueNewsRow.holds Try.pinned (OpenSpec.ofChange Rows.queueNewsSpec) :=
  OpenClaim.holds_of_wide 3 Try.f3 rfl rfl rfl rfl rfl rfl rfl ⟨rfl, rfl, rfl, rfl, rfl⟩ rfl rfl rfl rfl rfl (by kernel_rfl) Try.func3 (by kernel_rfl)
    (of_decide_eq_true (by kernel_rfl)) (by unfold Func.isWrapper; first | (rw [if_pos (by decide +kernel)]; kernel_rfl) | (rw [if_neg (by decide +kernel)]; exact ⟨rfl, rfl⟩))
    (fun os started H enc _ => lifted os started H enc)
end queueNews
theorem queueNews_holds : Rows.QueueNewsSaid := queueNews.over
#print axioms queueNews_holds
end Go.Proofs.Ytdgkkbiodhbmeaa
