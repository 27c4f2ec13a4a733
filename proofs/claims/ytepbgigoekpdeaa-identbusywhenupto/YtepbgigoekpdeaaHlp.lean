/-
  The law's own step, made.
-/
import Derived.Test.YtepbgigoekpdeaaNext
namespace Go.Proofs.Ytepbgigoekpdeaa
open Go.ChangeShapes Go.WideShapes Go.ChangeAt Go.RowKit
set_option linter.unusedVariables false

def up (x : Int) : Int := if x < 0 then -1 - x else x
theorem up_pos (x : Int) : 0 ≤ up x := by unfold up; split <;> omega
def waitP (x : Int) : Int := up x % 8589934592
theorem waitP_bd (x : Int) : 0 ≤ waitP x ∧ waitP x ≤ 8589934591 := by unfold waitP; have := up_pos x; omega
theorem upm (x m : Int) (hm : 0 < m) : (up x).tmod m = up x % m := Int.tmod_eq_emod_of_nonneg (up_pos x)
set_option maxHeartbeats 2000000 in
theorem step_c (now x : Int) (w : World) (hx : I64 x) : Calls Try.prog 13 #[.int .i64 now, .int .i64 x] w fun E w' => E = .returned (.int .i64 (wrap64 (now + waitP x))) ∧ w' = w := by
  obtain ⟨r, hr⟩ : ∃ r, r = waitP x := ⟨_, rfl⟩
  rw [← hr]
  obtain ⟨hx1, hx2⟩ := hx
  by_cases h : x < 0
  · have e : (-1 - x).tmod 8589934592 = r := by
      have := upm x 8589934592 (by omega)
      unfold up at this
      rw [if_pos h] at this
      rw [this, hr]; unfold waitP up; rw [if_pos h]
    clear hr
    go_enter Try.func13, Try.ntmps13
    go_wp2
    go_ret
    exact ⟨rfl, rfl⟩
  · have e : x.tmod 8589934592 = r := by
      have := upm x 8589934592 (by omega)
      unfold up at this
      rw [if_neg h] at this
      rw [this, hr]; unfold waitP up; rw [if_neg h]
    clear hr
    go_enter Try.func13, Try.ntmps13
    go_wp2
    go_ret
    exact ⟨rfl, rfl⟩
def spP (x : Int) : Int := 1 + up x % 4294967296
def liP (x : Int) : Int := up x % 4294967297
theorem spP_bd (x : Int) : 1 ≤ spP x ∧ spP x ≤ 4294967296 := by unfold spP; have := up_pos x; omega
theorem liP_bd (x : Int) : 0 ≤ liP x ∧ liP x ≤ 4294967296 := by unfold liP; have := up_pos x; omega
theorem liP_liP (x : Int) : liP (liP x) = liP x := by
  have h := liP_bd x
  generalize liP x = y at *
  unfold liP up
  rw [if_neg (by omega)]
  omega
set_option maxHeartbeats 4000000 in
theorem made_c (s l : Int) (w : World) (hs : I64 s) (hl : I64 l) : Calls Try.prog 12 #[.int .i64 s, .int .i64 l] w fun E w' => ∃ g c, E = .returned (.tuple #[.pointer (some ⟨g, 0, none⟩), .int .i64 (spP s), .int .i64 (liP l)]) ∧ Fresh w w' g c (spP s) (liP l) := by
  obtain ⟨S, hS⟩ : ∃ r, r = up s % 4294967296 := ⟨_, rfl⟩
  obtain ⟨L, hL⟩ : ∃ r, r = liP l := ⟨_, rfl⟩
  have hs1 := spP_bd s
  have hl1 := liP_bd l
  have eS : spP s = 1 + S := by unfold spP; rw [hS]
  rw [eS] at hs1
  rw [← hL] at hl1
  rw [eS, ← hL]
  obtain ⟨a1, a2⟩ := hs
  obtain ⟨b1, b2⟩ := hl
  have HN : Hid (∀ w, Calls Try.prog 9 #[.int .i64 (1 + S), .int .i64 L] w fun E w' => ∃ g c, E = .returned (.tuple #[.pointer (some ⟨g, 0, none⟩), .int .i64 0]) ∧ Fresh w w' g c (1 + S) L) := fun w => new_yes (1 + S) L w hs1.1 hs1.2 hl1.1 hl1.2
  by_cases h : s < 0
  · have e1 : (-1 - s).tmod 4294967296 = S := by
      have := upm s 4294967296 (by omega)
      unfold up at this
      rw [if_pos h] at this
      rw [this, hS]; unfold up; rw [if_pos h]
    by_cases k : l < 0
    · have e2 : (-1 - l).tmod 4294967297 = L := by
        have := upm l 4294967297 (by omega)
        unfold up at this
        rw [if_pos k] at this
        rw [this, hL]; unfold liP up; rw [if_pos k]
      clear hS hL eS
      go_enter Try.func12, Try.ntmps12
      go_wp2_with fail
      refine (HN.out _).mono ?_
      rintro E w2 ⟨g, c, rfl, hf⟩
      go_wp2_with fail
      go_ret3
      exact ⟨g, c, rfl, hf⟩
    · have e2 : l.tmod 4294967297 = L := by
        have := upm l 4294967297 (by omega)
        unfold up at this
        rw [if_neg k] at this
        rw [this, hL]; unfold liP up; rw [if_neg k]
      clear hS hL eS
      go_enter Try.func12, Try.ntmps12
      go_wp2_with fail
      refine (HN.out _).mono ?_
      rintro E w2 ⟨g, c, rfl, hf⟩
      go_wp2_with fail
      go_ret3
      exact ⟨g, c, rfl, hf⟩
  · have e1 : s.tmod 4294967296 = S := by
      have := upm s 4294967296 (by omega)
      unfold up at this
      rw [if_neg h] at this
      rw [this, hS]; unfold up; rw [if_neg h]
    by_cases k : l < 0
    · have e2 : (-1 - l).tmod 4294967297 = L := by
        have := upm l 4294967297 (by omega)
        unfold up at this
        rw [if_pos k] at this
        rw [this, hL]; unfold liP up; rw [if_pos k]
      clear hS hL eS
      go_enter Try.func12, Try.ntmps12
      go_wp2_with fail
      refine (HN.out _).mono ?_
      rintro E w2 ⟨g, c, rfl, hf⟩
      go_wp2_with fail
      go_ret3
      exact ⟨g, c, rfl, hf⟩
    · have e2 : l.tmod 4294967297 = L := by
        have := upm l 4294967297 (by omega)
        unfold up at this
        rw [if_neg k] at this
        rw [this, hL]; unfold liP up; rw [if_neg k]
      clear hS hL eS
      go_enter Try.func12, Try.ntmps12
      go_wp2_with fail
      refine (HN.out _).mono ?_
      rintro E w2 ⟨g, c, rfl, hf⟩
      go_wp2_with fail
      go_ret3
      exact ⟨g, c, rfl, hf⟩
end Go.Proofs.Ytepbgigoekpdeaa
