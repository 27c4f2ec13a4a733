/-
  The contracts of Part and Of of sum.
-/
import Derived.Test.YtbgpjhekohabiaaDoorSlc
namespace Go.Proofs.YtbgpjhekohabiaaDoor
open Go.ChangeShapes Go.WideShapes Go.ChangeAt Go.RowKit Num
set_option linter.unusedVariables false


set_option maxHeartbeats 400000 in
theorem fold_any (n : Int) (h0 : 0 ≤ n) (h1 : n ≤ 9223372036854775807) (w : World) :
    Calls Tryd.prog 85 #[.int .u64 n] w fun e w' => e = .returned (.int .u16 (fold n)) ∧ w' = w := by
  by_cases hz : n = 0
  · subst hz
    go_enter Tryd.func85, Tryd.ntmps85
    go_wp2
    go_ret
    exact ⟨rfl, rfl⟩
  · have hn : (n == 0) = false := by simp [hz]
    have hp : 1 ≤ n := by omega
    have e1 : fold n = (n - 1) % 65535 + 1 := by unfold fold; rw [if_neg hz]
    have E : Hid (fold n = (n - 1) % 65535 + 1) := e1
    clear e1 hz
    go_enter Tryd.func85, Tryd.ntmps85
    go_wp2
    go_ret
    exact ⟨ret_int E.out.symm, rfl⟩



/-- The length of a slice in a slot. -/
def lenOf : Value → Nat
  | .slice _ n _ => n
  | _ => 0

theorem two_of {l : List Int} (h : 2 ≤ l.length) : ∃ x y r, l = x :: y :: r := by
  match l, h with
  | x :: y :: r, _ => exact ⟨x, y, r, rfl⟩

set_option maxHeartbeats 1000000 in
theorem part_any (a : Option Addr) (l : List Int) (cap : Nat) (hcap : l.length ≤ cap) (w : World) (hr : Row w a l) :
    Calls Tryd.prog 67 #[.slice a l.length cap] w fun e w' => e = .returned (.int .u16 (pt l)) ∧ ∃ n, w' = w.drewN n := by
  go_enter Tryd.func67, Tryd.ntmps67
  go_wp2
  go_loopw [0, 3] (fun s p wr => ∃ (r : List Int) (a' : Option Addr) (c : Nat) (q : Int), s = .slice a' r.length c ∧ r.length ≤ c ∧ Row w a' r ∧ p = .int .u64 q ∧ 0 ≤ q ∧ q + ws true r = ws true l ∧ ∃ n, wr = w.drewN n)
    (fun s _ _ => lenOf s)
  case atStart => exact ⟨l, a, cap, 0, rfl, hcap, hr, rfl, by omega, by omega, 0, rfl⟩
  case round =>
    obtain ⟨r, a', c, q, rfl, hc, hrow, rfl, hq, hsum, n, rfl⟩ := hrel
    obtain ⟨hlen, hby, hcell⟩ := hrow
    by_cases h2 : 2 ≤ r.length
    · obtain ⟨x, y, r', rfl⟩ := two_of h2
      rcases hcell with hcell | ⟨b, off, rfl, hcell⟩
      · simp at hcell
      have c0 : w.cell? ⟨b, off, none⟩ = some (.int .u8 x) := hcell 0 (by simp)
      have c1 : w.cell? ⟨b, off + 1, none⟩ = some (.int .u8 y) := hcell 1 (by simp)
      have bx := hby.head
      have by' := hby.tail.head
      have hws : ws true (x :: y :: r') = 256 * x + (y + ws true r') := rfl
      have hb' := ws_bd true r' hby.tail.tail
      have HL : Hid (q + (256 * x + (y + ws true r')) = ws true l) := by rw [← hws]; exact hsum
      have hq2 : q ≤ 9223372036854775807 - 65536 := by
        have := ws_bd true l hr.2.1
        have := hr.1
        omega
      have HC : Hid (∀ i, i < r'.length → w.cell? ⟨b, off + 2 + i, none⟩ = some (.int .u8 (r'[i]?.getD 0))) := fun i hi => by
        have := hcell (i + 2) (by simp; omega)
        simpa [Nat.add_assoc, Nat.add_comm, Nat.add_left_comm] using this
      have hl2 : r'.length + 2 ≤ c := by simpa using hc
      have HB : Hid (Bytes r') := hby.tail.tail
      clear hcell hsum hws hby
      go_wp2
      go_quiet (fail)
      go_wp2
      go_roundw
      case rel =>
        refine ⟨r', _, _, _, rfl, by omega, ⟨by simp at hlen; omega, HB.out, ?_⟩, rfl, by omega, by have := HL.out; omega, _, rfl⟩
        by_cases hn : c = 2
        · left; exact List.eq_nil_of_length_eq_zero (by omega)
        · right; exact ⟨b, off + 2, if_neg hn, HC.out⟩
      case measure => simp [lenOf]; omega
    · by_cases h1 : r.length = 1
      · obtain ⟨x, rfl⟩ := List.length_eq_one_iff.mp h1
        rcases hcell with hcell | ⟨b, off, rfl, hcell⟩
        · simp at hcell
        have c0 : w.cell? ⟨b, off, none⟩ = some (.int .u8 x) := hcell 0 (by simp)
        have bx := hby.head
        have hws : ws true [x] = 256 * x := by simp [ws]
        have HL : Hid (q + x * 256 = ws true l) := by show q + x * 256 = ws true l; omega
        have hq2 : q ≤ 9223372036854775807 - 65536 := by
          have := ws_bd true l hr.2.1
          have := hr.1
          omega
        clear hcell hsum hws hby h1 h2 hlen hc
        go_wp2_with (go_at_call 85; refine (fold_any _ (by omega) (by omega) _).mono ?_; rintro e w' ⟨rfl, rfl⟩)
        go_ret
        exact ⟨ret_int (by rw [HL.out]; rfl), n, rfl⟩
      · have h0 : r = [] := List.eq_nil_of_length_eq_zero (by omega)
        subst h0
        have hws : ws true [] = 0 := rfl
        have HL : Hid (q = ws true l) := by show q = ws true l; omega
        have hq2 : q ≤ 9223372036854775807 := by
          have := ws_bd true l hr.2.1
          have := hr.1
          omega
        clear hcell hsum hws hby h1 h2 hlen hc
        go_wp2_with (go_at_call 85; refine (fold_any _ (by omega) (by omega) _).mono ?_; rintro e w' ⟨rfl, rfl⟩)
        go_ret
        exact ⟨ret_int (by rw [HL.out]; rfl), n, rfl⟩

set_option maxHeartbeats 400000 in
theorem of_any (a : Option Addr) (l : List Int) (cap : Nat) (hcap : l.length ≤ cap) (w : World) (hr : Row w a l) :
    Calls Tryd.prog 46 #[.slice a l.length cap] w fun e w' => e = .returned (.int .u16 (65535 - pt l)) ∧ ∃ n, w' = w.drewN n := by
  have hb := pt_bd hr.2.1
  go_enter Tryd.func46, Tryd.ntmps46
  go_wp2_with fail
  refine (part_any a l cap hcap _ hr).mono ?_
  rintro e w' ⟨rfl, n, rfl⟩
  go_wp2_with fail
  go_ret
  exact ⟨rfl, n, rfl⟩


end Go.Proofs.YtbgpjhekohabiaaDoor
