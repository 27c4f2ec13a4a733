/-
  The chapter's first example; May.
-/
import Derived.Test.YtdgkkbiodhbmeaaKIO
namespace Go.Proofs.Ytdgkkbiodhbmeaa
open Go.ChangeShapes Go.WideShapes Go.ChangeAt Go.RowKit
set_option linter.unusedVariables false
set_option linter.unusedSimpArgs false
set_option maxRecDepth 100000
set_option maxHeartbeats 8000000

theorem known_c (w : World) : Calls Try.prog 11 #[] w fun E w' => E = .returned (.bool true) ∧ Away [] w w' := by
  obtain ⟨o0, ho⟩ : ∃ o, Out o w w := ⟨_, Out.start w⟩
  have HO := Lib.hid ho
  clear ho
  go_enter Try.func11, Try.ntmps11
  go_wp2_with fail
  refine (KI.new_o o0 1 2 10 9 _ (by decide) (by decide) (by decide) (by decide)).mono ?_
  rintro E w1 ⟨g, rfl, hq, hc⟩
  replace HO := Lib.hid (HO.out.keep hc (by decide))
  have HQ := Lib.hid hq
  clear hq hc
  generalize give o0 w 1 = o1 at *
  go_wp2_with fail
  refine (KI.push9_y 4 4 HQ.out (by decide) (by decide) (by decide)).mono ?_
  rintro E w2 ⟨rfl, hq, hc⟩
  replace HO := Lib.hid (HO.out.keep hc (by decide))
  replace HQ := Lib.hid hq
  clear hq hc
  generalize give o1 w1 1 = o2 at *
  go_wp2_with fail
  refine (KI.push9_x 7 7 HQ.out (by decide) (by decide) (by decide)).mono ?_
  rintro E w3 ⟨rfl, hq, hc⟩
  replace HO := Lib.hid (HO.out.keep hc (by decide))
  replace HQ := Lib.hid hq
  clear hq hc
  generalize give o2 w2 1 = o3 at *
  go_wp2_with fail
  refine (KI.push9_y 6 6 HQ.out (by decide) (by decide) (by decide)).mono ?_
  rintro E w4 ⟨rfl, hq, hc⟩
  replace HO := Lib.hid (HO.out.keep hc (by decide))
  replace HQ := Lib.hid hq
  clear hq hc
  generalize give o3 w3 1 = o4 at *
  go_wp2_with fail
  refine (KI.push9_x 0 0 HQ.out (by decide) (by decide) (by decide)).mono ?_
  rintro E w5 ⟨rfl, hq, hc⟩
  replace HO := Lib.hid (HO.out.keep hc (by decide))
  replace HQ := Lib.hid hq
  clear hq hc
  generalize give o4 w4 1 = o5 at *
  go_wp2_with fail
  refine (KI.len_o HQ.out).mono ?_
  rintro E w9 ⟨rfl, h9⟩
  replace h9 := h9.symm
  subst h9
  go_wp2_with fail
  refine (KI.bytes_o HQ.out).mono ?_
  rintro E w9 ⟨rfl, h9⟩
  replace h9 := h9.symm
  subst h9
  go_wp2_with fail
  refine (KI.pop_s 4 4 (by exact HQ.out)).mono ?_
  rintro E w6 ⟨rfl, hq, hc⟩
  replace HO := Lib.hid (HO.out.keep hc (by decide))
  replace HQ := Lib.hid hq
  clear hq hc
  generalize give o5 w5 1 = o6 at *
  go_wp2_with fail
  refine (KI.pop_s 6 6 (by exact HQ.out)).mono ?_
  rintro E w7 ⟨rfl, hq, hc⟩
  replace HO := Lib.hid (HO.out.keep hc (by decide))
  replace HQ := Lib.hid hq
  clear hq hc
  generalize give o6 w6 1 = o7 at *
  go_wp2_with fail
  refine (KI.pop_n (by exact HQ.out)).mono ?_
  rintro E w8 ⟨rfl, hq, hc⟩
  replace HO := Lib.hid (HO.out.keep hc (by decide))
  replace HQ := Lib.hid hq
  clear hq hc
  generalize give o7 w7 1 = o8 at *
  go_wp2_with fail
  go_ret
  exact ⟨rfl, HO.out.1⟩
def mayP (c b : Int) : Bool := decide (0 ≤ c ∧ c ≤ 64 ∧ 0 ≤ b)
theorem may_c (c b : Int) (w : World) : Calls Try.prog 12 #[.int .i64 c, .int .i64 b] w fun E w' => E = .returned (.bool (mayP c b)) ∧ w' = w := by
  by_cases h1 : 0 ≤ c
  · have k1 : decide (0 ≤ c) = true := decide_eq_true h1
    by_cases h2 : c ≤ 64
    · have k2 : decide (c ≤ 64) = true := decide_eq_true h2
      by_cases h3 : 0 ≤ b
      · have k3 : decide (0 ≤ b) = true := decide_eq_true h3
        have HZ : Hid (mayP c b = true) := decide_eq_true ⟨h1, h2, h3⟩
        clear h1 h2 h3
        go_enter Try.func12, Try.ntmps12
        go_wp2_with fail
        go_ret
        exact ⟨by rw [HZ.out]; rfl, rfl⟩
      · have k3 : decide (0 ≤ b) = false := decide_eq_false h3
        have HZ : Hid (mayP c b = false) := decide_eq_false (by omega)
        clear h1 h2 h3
        go_enter Try.func12, Try.ntmps12
        go_wp2_with fail
        go_ret
        exact ⟨by rw [HZ.out]; rfl, rfl⟩
    · have k2 : decide (c ≤ 64) = false := decide_eq_false h2
      have HZ : Hid (mayP c b = false) := decide_eq_false (by omega)
      clear h1 h2
      go_enter Try.func12, Try.ntmps12
      go_wp2_with fail
      go_ret
      exact ⟨by rw [HZ.out]; rfl, rfl⟩
  · have k1 : decide (0 ≤ c) = false := decide_eq_false h1
    have HZ : Hid (mayP c b = false) := decide_eq_false (by omega)
    clear h1
    go_enter Try.func12, Try.ntmps12
    go_wp2_with fail
    go_ret
    exact ⟨by rw [HZ.out]; rfl, rfl⟩
end Go.Proofs.Ytdgkkbiodhbmeaa
