/-
  SumAdds: the walk, and the row's step.
-/
import Derived.Test.YtbjnhjdbnliofaaKit
namespace Go.Proofs.Ytbjnhjdbnliofaa.sumAdds
open Go.ChangeShapes Go.WideShapes Go.ChangeAt Go.RowKit Num
set_option linter.unusedVariables false

set_option maxHeartbeats 1000000 in
theorem walk (a b c : Int) (w : World) (w0 : (Lit.int .u16 a).wf = true) (w1 : (Lit.int .u16 b).wf = true) (w2 : (Lit.int .u16 c).wf = true) :
    Calls Try.prog 3 #[.int .u16 a, .int .u16 b, .int .u16 c] w fun e w' => e = .returned (.bool true) ∧ Below w.heap.size w w' := by
  obtain ⟨a0, a1⟩ := bounds_u16 w0
  obtain ⟨b0, b1⟩ := bounds_u16 w1
  obtain ⟨c0, c1⟩ := bounds_u16 w2
  have d1 := @add_bd a b a0 b0
  have d2 := @add_bd b c b0 c0
  have z := @add_zero_iff a b
  have e1 : (add a b != add b a) = false := by rw [add_comm]; simp
  have e2 : (add (add a b) c != add a (add b c)) = false := by rw [add_assoc a0 b0 c0]; simp
  have e3 : (add a 0 != a) = false := by rw [add_nought a0 a1]; simp
  have e4 : (add a (65535 - a) != 65535) = false := by rw [add_lack a0 a1]; simp
  have e5 : (add 0 65535 != 65535) = false := by decide
  clear w0 w1 w2
  by_cases hp : 0 < a
  · have e6 : (add a 65535 != a) = false := by rw [add_ones hp a1]; simp
    have e8 : (a == 0) = false := by simp; omega
    have e9 : (add a b == 0) = false := by simp; omega
    clear z
    go_enter Try.func3, Try.ntmps3
    go_wp2_with (first | (go_at_call 9; refine (known_any _).mono ?_; rintro e w' ⟨rfl, hbel⟩) | (go_at_call 10; refine (add_any _ _ (by omega) (by omega) (by omega) (by omega) _).mono ?_; rintro e w' ⟨rfl, rfl⟩))
    go_ret
    exact ⟨rfl, hbel⟩
  · have ha : a = 0 := by omega
    subst ha
    by_cases hb : 0 < b
    · have e8 : (b == 0) = false := by simp; omega
      have e9 : (add 0 b == 0) = false := by simp; omega
      clear z
      go_enter Try.func3, Try.ntmps3
      go_wp2_with (first | (go_at_call 9; refine (known_any _).mono ?_; rintro e w' ⟨rfl, hbel⟩) | (go_at_call 10; refine (add_any _ _ (by omega) (by omega) (by omega) (by omega) _).mono ?_; rintro e w' ⟨rfl, rfl⟩))
      go_ret
      exact ⟨rfl, hbel⟩
    · have hb : b = 0 := by omega
      subst hb
      have e9 : (add 0 0 == 0) = true := by decide
      clear z
      go_enter Try.func3, Try.ntmps3
      go_wp2_with (first | (go_at_call 9; refine (known_any _).mono ?_; rintro e w' ⟨rfl, hbel⟩) | (go_at_call 10; refine (add_any _ _ (by omega) (by omega) (by omega) (by omega) _).mono ?_; rintro e w' ⟨rfl, rfl⟩))
      go_ret
      exact ⟨rfl, hbel⟩
set_option maxRecDepth 100000 in
theorem lifted (os : Os) (started : os.Started) (H : Type) (enc : TypeId × Value → H) :
    ReturnsInHanded {} Try.checked os 3 .any (Rows.sumAddsSpec.pre6 enc Try.prog Try.f3 Rows.sumAddsRow.domain false) (Rows.sumAddsSpec.post enc Try.prog Try.f3 false true false false) := by
  refine returnsInHanded_of_change_sized (C := Try.checked) ownKn started (by kernel_rfl) Try.func3
    (ChangeSpec.witness6 (enc := enc) (C := Try.checked) false ⟨#[], #[.int .u16 0, .int .u16 0, .int .u16 0], []⟩ 8 (by kernel_rfl) (by kernel_rfl) (by kernel_rfl) (by kernel_rfl)) ?_
  intro W base args ds gs before hval0 hW _ hsz0 _
  have hsz : (DataW.weightsEach Try.prog (Try.f3.params.toList ++ Rows.sumAddsSpec.plain.varTypes Try.prog) (ds ++ gs)).all (· ≤ reachBytes) = true := hsz0
  clear hsz0
  have hval : ∀ (j : Nat) t v, Try.f3.params[j]? = some t → args[j]? = some v → Value.okWide Try.prog W .any base t v := hval0
  have hW' := hW
  obtain ⟨p, q, hA0, hV, rfl, hfz, hnd⟩ := hW
  have hA : DataW.TrodAll enc Try.prog W 0 (fun _ => true) true Try.f3.params.toList args.toList ds p := hA0
  rw [Try.params3] at hA hval hsz
  obtain ⟨v0, vs0, d0, ds0, p0, q0, hargs, rfl, rfl, h0, r0⟩ := trodAll_cons hA
  obtain ⟨v1, vs1, d1, ds1, p1, q1, rfl, rfl, rfl, h1, r1⟩ := trodAll_cons r0
  obtain ⟨v2, vs2, d2, ds2, p2, q2, rfl, rfl, rfl, h2, r2⟩ := trodAll_cons r1
  obtain ⟨rfl, rfl, rfl⟩ := trodAll_nil r2
  obtain rfl : args = #[v0, v1, v2] := by cases args; simp_all
  obtain ⟨rfl, rfl⟩ := trodVars_none hV
  obtain ⟨a0, rfl, rfl, rfl, w0⟩ := open_int Try.underlying22 (hval 0 22 v0 rfl rfl) h0
  obtain ⟨a1, rfl, rfl, rfl, w1⟩ := open_int Try.underlying22 (hval 1 22 v1 rfl rfl) h1
  obtain ⟨a2, rfl, rfl, rfl, w2⟩ := open_int Try.underlying22 (hval 2 22 v2 rfl rfl) h2
  clear hA0 hval0
  refine (walk a0 a1 a2 W w0 w1 w2).mono fun e W' ⟨he, bel⟩ => ?_
  subst he
  exact ⟨_, rfl, _, _, _, [], _, [], hW', trodAll_mk1 (shut_bool Try.underlying4 _), (trodAll_cons_mk (shut_int Try.underlying22 w0) (trodAll_cons_mk (shut_int Try.underlying22 w1) (trodAll_cons_mk (shut_int Try.underlying22 w2) trodAll_mk0))), rfl, bel.frame _, fun h => by cases h⟩

theorem over : Rows.sumAddsRow.holds Try.pinned (OpenSpec.ofChange Rows.sumAddsSpec) :=
  OpenClaim.holds_of_wide 3 Try.f3 rfl rfl rfl rfl rfl rfl rfl ⟨rfl, rfl, rfl, rfl, rfl⟩ rfl rfl rfl rfl rfl (by kernel_rfl) Try.func3 (by kernel_rfl)
    (of_decide_eq_true (by kernel_rfl)) (by unfold Func.isWrapper; first | (rw [if_pos (by decide +kernel)]; kernel_rfl) | (rw [if_neg (by decide +kernel)]; exact ⟨rfl, rfl⟩))
    (fun os started H enc _ => lifted os started H enc)

end Go.Proofs.Ytbjnhjdbnliofaa.sumAdds
namespace Go.Proofs.Ytbjnhjdbnliofaa
theorem sumAdds_holds : Rows.SumAddsSaid := sumAdds.over
#print axioms sumAdds_holds
end Go.Proofs.Ytbjnhjdbnliofaa

