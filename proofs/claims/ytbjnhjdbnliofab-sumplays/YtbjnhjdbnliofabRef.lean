/-
  The document's answers, by their contracts.
-/
import Derived.Test.YtbjnhjdbnliofabKit
namespace Go.Proofs.Ytbjnhjdbnliofab
open Go.RowKit Num
set_option linter.unusedVariables false

theorem fold_cases {n : Int} (h : 0 < n) : fold n = if n % 65535 = 0 then 65535 else n % 65535 := by
  unfold fold; rw [if_neg (by omega)]; split <;> omega
set_option maxHeartbeats 400000 in
theorem rrest_any (n : Int) (h0 : 0 ≤ n) (h1 : n ≤ 9223372036854775807) (w : World) :
    Calls Try.prog 16 #[.int .i64 n] w fun e w' => e = .returned (.int .i64 (fold n)) ∧ w' = w := by
  by_cases hz : n = 0
  · subst hz
    go_enter Try.func16, Try.ntmps16
    go_wp2
    go_ret
    exact ⟨rfl, rfl⟩
  · have hn : (n == 0) = false := by simp [hz]
    have hf := fold_cases (n := n) (by omega)
    by_cases hm : n % 65535 = 0
    · rw [if_pos hm] at hf
      have E : Hid (fold n = 65535) := hf
      have hm' : (n % 65535 == 0) = true := by rw [hm]; rfl
      clear hf hz hm
      go_enter Try.func16, Try.ntmps16
      go_wp2
      go_ret
      exact ⟨ret_int E.out.symm, rfl⟩
    · rw [if_neg hm] at hf
      have E : Hid (fold n = n % 65535) := hf
      have hm' : (n % 65535 == 0) = false := by simp [hm]
      clear hf hz hm
      go_enter Try.func16, Try.ntmps16
      go_wp2
      go_ret
      exact ⟨ret_int E.out.symm, rfl⟩
set_option maxHeartbeats 400000 in
theorem radd_any (a b : Int) (ha : 0 ≤ a) (ha' : a ≤ 65535) (hb : 0 ≤ b) (hb' : b ≤ 65535) (w : World) :
    Calls Try.prog 10 #[.int .i64 a, .int .i64 b] w fun e w' => e = .returned (.int .i64 (add a b)) ∧ w' = w := by
  go_enter Try.func10, Try.ntmps10
  go_wp2_with (go_at_call 16; refine (rrest_any _ (by omega) (by omega) _).mono ?_; rintro e w' ⟨rfl, rfl⟩)
  go_ret
  exact ⟨rfl, rfl⟩
set_option maxHeartbeats 400000 in
theorem rpatch_any (s a b : Int) (hs : 0 ≤ s) (hs' : s ≤ 65535) (ha : 0 ≤ a) (ha' : a ≤ 65535) (hb : 0 ≤ b) (hb' : b ≤ 65535) (w : World) :
    Calls Try.prog 14 #[.int .i64 s, .int .i64 a, .int .i64 b] w fun e w' => e = .returned (.int .i64 (patch s a b)) ∧ w' = w := by
  have h1 := @add_bd (65535 - s) (65535 - a) (by omega) (by omega)
  have h2 := @add_bd (add (65535 - s) (65535 - a)) b (by omega) (by omega)
  go_enter Try.func14, Try.ntmps14
  go_wp2_with fail
  refine (radd_any _ _ (by omega) (by omega) (by omega) (by omega) _).mono ?_
  rintro e w' ⟨rfl, rfl⟩
  go_wp2_with fail
  refine (radd_any _ _ (by omega) (by omega) (by omega) (by omega) _).mono ?_
  rintro e w' ⟨rfl, rfl⟩
  go_wp2_with fail
  go_ret
  exact ⟨rfl, rfl⟩
set_option maxHeartbeats 400000 in
theorem rjoin_any (a n b : Int) (ha : 0 ≤ a) (ha' : a ≤ 65535) (hb : 0 ≤ b) (hb' : b ≤ 65535) (hn : -9223372036854775808 ≤ n) (hn' : n ≤ 9223372036854775807) (w : World) :
    Calls Try.prog 12 #[.int .i64 a, .int .i64 n, .int .i64 b] w fun e w' => e = .returned (.int .i64 (join a n b)) ∧ w' = w := by
  by_cases hz : n.tmod 2 = 0
  · have HJ : Hid (join a n b = fold (a + b)) := by show join a n b = _; unfold join; rw [if_pos ((even_iff n).mp hz)]; rfl
    have h2 : (n.tmod 2 == 0) = true := by simp [hz]
    clear hz
    go_enter Try.func12, Try.ntmps12
    go_wp2_with (go_at_call 16; refine (rrest_any _ (by omega) (by omega) _).mono ?_; rintro e w' ⟨rfl, rfl⟩)
    go_ret
    exact ⟨ret_int HJ.out.symm, rfl⟩
  · have HJ : Hid (join a n b = fold (a + (b % 256 * 256 + b / 256))) := by show join a n b = _; unfold join; rw [if_neg (fun h => hz ((even_iff n).mpr h))]; rfl
    have hs : 0 ≤ b % 256 * 256 + b / 256 ∧ b % 256 * 256 + b / 256 ≤ 65535 := swap_bd hb hb'
    have h2 : (n.tmod 2 == 0) = false := by simp [hz]
    clear hz
    go_enter Try.func12, Try.ntmps12
    go_wp2_with (go_at_call 16; refine (rrest_any _ (by omega) (by omega) _).mono ?_; rintro e w' ⟨rfl, rfl⟩)
    go_ret
    exact ⟨ret_int HJ.out.symm, rfl⟩

theorem ws_drop (l : List Int) (k : Nat) (h : k < l.length) : ws (k % 2 == 0) (l.drop k) = (if k % 2 = 0 then 256 * (l[k]?.getD 0) else l[k]?.getD 0) + ws ((k + 1) % 2 == 0) (l.drop (k + 1)) := by
  rw [List.drop_eq_getElem_cons h, List.getElem?_eq_getElem h]
  rcases Nat.mod_two_eq_zero_or_one k with e | e
  · rw [e, show (k + 1) % 2 = 1 from by omega]; rfl
  · rw [e, show (k + 1) % 2 = 0 from by omega]; rfl

set_option maxHeartbeats 1000000 in
theorem rpart_any (a : Option Addr) (l : List Int) (cap : Nat) (w : World) (hr : Row w a l) :
    Calls Try.prog 6 #[.slice a l.length cap] w fun e w' => e = .returned (.int .i64 (pt l)) ∧ w' = w := by
  have hlen := hr.1
  have hwl := ws_bd true l hr.2.1
  rcases hr.2.2 with rfl | ⟨b, off, rfl, hcell⟩
  · go_enter Try.func6, Try.ntmps6
    go_wp2_with fail
    refine wp_loop_rounds 1 ?_
    rw [rounds_succ]
    go_wp2_with (go_at_call 16; refine (rrest_any _ (by omega) (by omega) _).mono ?_; rintro e w' ⟨rfl, rfl⟩)
    go_ret
    exact ⟨rfl, rfl⟩
  · have HW : Hid (ws true l ≤ 65280 * (l.length : Int)) := hwl.2
    have HC : Hid (∀ i, i < l.length → w.cell? ⟨b, off + i, none⟩ = some (.int .u8 (l[i]?.getD 0))) := hcell
    clear hwl hcell
    go_enter Try.func6, Try.ntmps6
    go_wp2_with fail
    go_loop [3, 4] (fun s i => ∃ (k : Nat) (q : Int), k ≤ l.length ∧ i = .int .i64 k ∧ s = .int .i64 q ∧ 0 ≤ q ∧ q + ws (k % 2 == 0) (l.drop k) = ws true l) (fun _ i => l.length - (intOf i).toNat)
    case atStart => exact ⟨0, 0, by omega, rfl, rfl, by omega, by simp⟩
    case round =>
      obtain ⟨k, q, hk, rfl, rfl, hq, hsum⟩ := hrel
      have hd := (ws_bd (k % 2 == 0) (l.drop k) (hr.2.1.drop k)).1
      have hq2 : q ≤ 9223372036854775807 - 65536 := by have := HW.out; omega
      have HS : Hid (q + ws (k % 2 == 0) (l.drop k) = ws true l) := hsum
      clear hsum hd
      by_cases hlt : k < l.length
      · have c0 := HC.out k hlt
        have bx := hr.2.1.getD k
        have HD : Hid _ := ws_drop l k hlt
        obtain ⟨x, hx⟩ : ∃ x, x = l[k]?.getD 0 := ⟨_, rfl⟩
        rw [← hx] at c0 bx
        have HX : Hid (x = l[k]?.getD 0) := hx
        clear hx
        by_cases hp : k % 2 = 0
        · have hp' : ((k : Int) % 2 == 0) = true := by simp; omega
          go_wp2
          go_round
          case rel =>
            have e1 := HD.out
            have e2 := HS.out
            rw [if_pos hp, ← HX.out] at e1
            exact ⟨k + 1, _, by omega, by go_num, rfl, by omega, by omega⟩
          case measure => simp [intOf]; omega
        · have hp' : ((k : Int) % 2 == 0) = false := by simp; omega
          go_wp2
          go_round
          case rel =>
            have e1 := HD.out
            have e2 := HS.out
            rw [if_neg hp, ← HX.out] at e1
            exact ⟨k + 1, _, by omega, by go_num, rfl, by omega, by omega⟩
          case measure => simp [intOf]; omega
      · obtain rfl : k = l.length := by omega
        have e : q = ws true l := by have := HS.out; rw [List.drop_length] at this; simp [ws] at this; exact this
        have E : Hid (q = ws true l) := e
        clear e HS
        go_wp2_with (go_at_call 16; refine (rrest_any _ (by omega) (by omega) _).mono ?_; rintro e w' ⟨rfl, rfl⟩)
        go_ret
        exact ⟨ret_int (by rw [E.out]; rfl), rfl⟩
set_option maxHeartbeats 400000 in
theorem rof_any (a : Option Addr) (l : List Int) (cap : Nat) (w : World) (hr : Row w a l) :
    Calls Try.prog 8 #[.slice a l.length cap] w fun e w' => e = .returned (.int .i64 (65535 - pt l)) ∧ w' = w := by
  have hb := pt_bd hr.2.1
  go_enter Try.func8, Try.ntmps8
  go_wp2_with fail
  refine (rpart_any a l cap _ hr).mono ?_
  rintro e w' ⟨rfl, rfl⟩
  go_wp2_with fail
  go_ret
  exact ⟨rfl, rfl⟩
end Go.Proofs.Ytbjnhjdbnliofab
