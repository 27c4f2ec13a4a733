/-
  Contracts of the functions that only reckon.
-/
import Derived.Test.YtbjnhjdbnliofaaChecked
import Derived.Test.YtbjnhjdbnliofaaNum
import Derived.WalkKit
import Derived.OpenShut
import Derived.Laws.BitsAllLaws
namespace Go.Proofs.Ytbjnhjdbnliofaa
open Go.RowKit Num
set_option linter.unusedVariables false

theorem ret_int {k : IntKind} {a b : Int} (h : a = b) : Ending.returned (.int k a) = .returned (.int k b) := by rw [h]

set_option maxHeartbeats 400000 in
theorem fold_any (n : Int) (h0 : 0 ≤ n) (h1 : n ≤ 9223372036854775807) (w : World) :
    Calls Try.prog 18 #[.int .u64 n] w fun e w' => e = .returned (.int .u16 (fold n)) ∧ w' = w := by
  by_cases hz : n = 0
  · subst hz
    go_enter Try.func18, Try.ntmps18
    go_wp2
    go_ret
    exact ⟨rfl, rfl⟩
  · have hn : (n == 0) = false := by simp [hz]
    have hp : 1 ≤ n := by omega
    have e1 : fold n = (n - 1) % 65535 + 1 := by unfold fold; rw [if_neg hz]
    have E : Hid (fold n = (n - 1) % 65535 + 1) := e1
    clear e1 hz
    go_enter Try.func18, Try.ntmps18
    go_wp2
    go_ret
    exact ⟨ret_int E.out.symm, rfl⟩

set_option maxHeartbeats 400000 in
theorem add_any (a b : Int) (ha : 0 ≤ a) (ha' : a ≤ 65535) (hb : 0 ≤ b) (hb' : b ≤ 65535) (w : World) :
    Calls Try.prog 10 #[.int .u16 a, .int .u16 b] w fun e w' => e = .returned (.int .u16 (add a b)) ∧ w' = w := by
  go_enter Try.func10, Try.ntmps10
  go_wp2_with (go_at_call 18; refine (fold_any _ (by omega) (by omega) _).mono ?_; rintro e w' ⟨rfl, rfl⟩)
  go_ret
  exact ⟨rfl, rfl⟩

set_option maxHeartbeats 400000 in
theorem patch_any (s a b : Int) (hs : 0 ≤ s) (hs' : s ≤ 65535) (ha : 0 ≤ a) (ha' : a ≤ 65535) (hb : 0 ≤ b) (hb' : b ≤ 65535) (w : World) :
    Calls Try.prog 17 #[.int .u16 s, .int .u16 a, .int .u16 b] w fun e w' => e = .returned (.int .u16 (patch s a b)) ∧ w' = w := by
  have h1 := @add_bd (65535 - s) (65535 - a) (by omega) (by omega)
  have h2 := @add_bd (add (65535 - s) (65535 - a)) b (by omega) (by omega)
  go_enter Try.func17, Try.ntmps17
  go_wp2_with fail
  refine (add_any _ _ (by omega) (by omega) (by omega) (by omega) _).mono ?_
  rintro e w' ⟨rfl, rfl⟩
  go_wp2_with fail
  refine (add_any _ _ (by omega) (by omega) (by omega) (by omega) _).mono ?_
  rintro e w' ⟨rfl, rfl⟩
  go_wp2_with fail
  go_ret
  exact ⟨rfl, rfl⟩

theorem tmod_gt (n m : Int) (h : 0 < m) : -m < n.tmod m := by
  rcases Int.le_total 0 n with hn | hn
  · have := Int.tmod_nonneg m hn; omega
  · have h1 := Int.neg_tmod (-n) m
    have h2 := Int.tmod_lt_of_pos (-n) h
    rw [Int.neg_neg] at h1
    omega
set_option maxHeartbeats 400000 in
theorem rest_any (n m : Int) (hn : -9223372036854775808 ≤ n) (hn' : n ≤ 9223372036854775807) (hm : 0 ≤ m) (hm' : m ≤ 1152921504606846976) (w : World) :
    Calls Try.prog 12 #[.int .i64 n, .int .i64 m] w fun e w' => (∃ k : Int, e = .returned (.int .i64 k) ∧ 0 ≤ k ∧ k ≤ m) ∧ w' = w := by
  have h1 : n.tmod (m + 1) < m + 1 := Int.tmod_lt_of_pos _ (by omega)
  have h2 : -(m + 1) < n.tmod (m + 1) := tmod_gt _ _ (by omega)
  by_cases hp : 0 ≤ n
  · rw [Int.tmod_eq_emod_of_nonneg hp] at h1 h2
    have h3 : ¬ n % (m + 1) < 0 := by have := Int.emod_nonneg n (b := m + 1) (by omega); omega
    go_enter Try.func12, Try.ntmps12
    go_wp2
    go_ret
    exact ⟨⟨_, rfl, by omega, by omega⟩, rfl⟩
  · by_cases hz : n.tmod (m + 1) < 0
    · go_enter Try.func12, Try.ntmps12
      go_wp2
      go_ret
      exact ⟨⟨_, rfl, by omega, by omega⟩, rfl⟩
    · go_enter Try.func12, Try.ntmps12
      go_wp2
      go_ret
      exact ⟨⟨_, rfl, by omega, by omega⟩, rfl⟩

theorem or_swap {b : Int} (h : 0 ≤ b) (h' : b ≤ 65535) : bits .or .u16 (IntKind.u16.wrap (b * 256)) (b / 256) = swap b := by
  rw [IntKind.wrap_u16]
  rw [u16_or _ _ (by omega) (by omega) (by omega) (by omega)]
  have e : (b * 256 % 65536).toNat = 2 ^ 8 * (b % 256).toNat := by omega
  rw [e, ← Nat.two_pow_add_eq_or_of_lt (by omega)]
  unfold swap
  omega
theorem even_iff (n : Int) : n.tmod 2 = 0 ↔ n % 2 = 0 := by
  rcases Int.le_total 0 n with hn | hn
  · rw [Int.tmod_eq_emod_of_nonneg hn]
  · have h1 := Int.neg_tmod (-n) 2
    have h2 := Int.tmod_eq_emod_of_nonneg (a := -n) (b := 2) (by omega)
    rw [Int.neg_neg, h2] at h1
    rw [h1]
    omega

set_option maxHeartbeats 400000 in
theorem join_any (a n b : Int) (ha : 0 ≤ a) (ha' : a ≤ 65535) (hb : 0 ≤ b) (hb' : b ≤ 65535) (hn : -9223372036854775808 ≤ n) (hn' : n ≤ 9223372036854775807) (w : World) :
    Calls Try.prog 13 #[.int .u16 a, .int .i64 n, .int .u16 b] w fun e w' => e = .returned (.int .u16 (join a n b)) ∧ w' = w := by
  by_cases hz : n.tmod 2 = 0
  · have HJ : Hid (join a n b = add a b) := by show join a n b = _; unfold join; rw [if_pos ((even_iff n).mp hz)]
    have h2 : (n.tmod 2 == 0) = true := by simp [hz]
    clear hz
    go_enter Try.func13, Try.ntmps13
    go_wp2_with fail
    refine (add_any _ _ ha ha' hb hb' _).mono ?_
    rintro e w' ⟨rfl, rfl⟩
    go_wp2_with fail
    go_ret
    exact ⟨ret_int HJ.out.symm, rfl⟩
  · have HJ : Hid (join a n b = add a (swap b)) := by show join a n b = _; unfold join; rw [if_neg (fun h => hz ((even_iff n).mpr h))]
    have HS := or_swap hb hb'
    have hs := swap_bd hb hb'
    have h2 : (n.tmod 2 == 0) = false := by simp [hz]
    clear hz
    go_enter Try.func13, Try.ntmps13
    go_wp2_with fail
    refine (add_any _ _ ha ha' hs.1 hs.2 _).mono ?_
    rintro e w' ⟨rfl, rfl⟩
    go_wp2_with fail
    go_ret
    exact ⟨ret_int HJ.out.symm, rfl⟩
end Go.Proofs.Ytbjnhjdbnliofaa
