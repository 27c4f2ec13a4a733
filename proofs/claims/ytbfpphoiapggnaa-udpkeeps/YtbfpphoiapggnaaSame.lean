/-
  same of the law.
-/
import Derived.Test.YtbfpphoiapggnaaSlc
namespace Go.Proofs.Ytbfpphoiapggnaa
open Go.ChangeShapes Go.WideShapes Go.ChangeAt Go.RowKit Num
set_option linter.unusedVariables false

/-- It answered, and drew. -/
def Said (w : World) (b : Bool) (E : Ending) (w' : World) : Prop := E = .returned (.bool b) ∧ ∃ n, w' = w.drewN n
theorem cells_row {w : World} {a : Option Addr} {l : List Int} (h : Row w a l) {k : Nat} (hk : k < l.length) : ∃ b off, a = some ⟨b, off, none⟩ ∧ w.cell? ⟨b, off + k, none⟩ = some (.int .u8 (l[k]?.getD 0)) := by
  rcases h.2.2 with h0 | ⟨b, off, rfl, hc⟩
  · rw [h0] at hk; simp at hk
  · exact ⟨b, off, rfl, hc k hk⟩
theorem take_eq_step {l m : List Int} {k : Nat} (h : l.take k = m.take k) (hl : k < l.length) (hm : k < m.length) (he : l[k]?.getD 0 = m[k]?.getD 0) : l.take (k + 1) = m.take (k + 1) := by
  rw [List.take_succ_eq_append_getElem hl, List.take_succ_eq_append_getElem hm, h]
  rw [List.getElem?_eq_getElem hl, List.getElem?_eq_getElem hm, Option.getD_some, Option.getD_some] at he
  rw [he]
set_option maxHeartbeats 2000000 in
theorem same_c (a b : Option Addr) (l m : List Int) (n k cap cap' : Nat) (w : World) (hn : l.length = n) (hk : m.length = k) (hr : Row w a l) (hs : Row w b m) :
    Calls Try.prog 13 #[.slice a n cap, .slice b k cap'] w fun E w' => Said w (decide (l = m)) E w' := by
  subst hn; subst hk
  have hlen := hr.1
  have hlen' := hs.1
  obtain ⟨z, hz⟩ : ∃ z, z = decide (l = m) := ⟨_, rfl⟩
  rw [← hz]
  have HZ : Hid (z = decide (l = m)) := hz
  clear hz
  by_cases hd : l.length = m.length
  · rw [← hd]
    have HD : Hid (l.length = m.length) := hd
    clear hd
    go_enter Try.func13, Try.ntmps13
    go_wp2_with fail
    go_loopw [5] (fun i wr => ∃ (j n : Nat), j ≤ l.length ∧ i = .int .i64 (j : Int) ∧ l.take j = m.take j ∧ wr = w.drewN n) (fun i _ => l.length - (intOf i).toNat)
    case atStart => exact ⟨0, 0, by omega, rfl, rfl, rfl⟩
    case round =>
      obtain ⟨j, q, hj, rfl, ht, hW⟩ := hrel
      subst hW
      have HT : Hid (l.take j = m.take j) := ht
      clear ht
      by_cases hlt : j < l.length
      · obtain ⟨b1, o1, rfl, c1⟩ := cells_row hr hlt
        obtain ⟨b2, o2, rfl, c2⟩ := cells_row hs (show j < m.length by have := HD.out; omega)
        have t1 : decide ((j : Int) < (l.length : Int)) = true := by simp; omega
        have t2 : 0 ≤ (j : Int) := by omega
        have t3 : (j : Int) < (l.length : Int) := by omega
        have t4 : ((j : Int)).toNat = j := by omega
        have HX : Hid (l[j]?.getD 0 = m[j]?.getD 0 → l.take (j + 1) = m.take (j + 1)) := take_eq_step HT.out hlt (by have := HD.out; omega)
        have HY : Hid (l[j]?.getD 0 ≠ m[j]?.getD 0 → l ≠ m) := fun h e => h (by rw [e])
        generalize l[j]?.getD 0 = x at *
        generalize m[j]?.getD 0 = y at *
        by_cases hxy : x = y
        · subst hxy
          go_wp2_with fail
          go_region
          all_goals (go_wp2_with fail; go_roundw)
          case rel => exact ⟨j + 1, q + 1, by omega, by go_num, HX.out trivial, rfl⟩
          case measure => simp [intOf]; omega
        · have fb : decide (x = y) = false := by simp [hxy]
          obtain rfl : z = false := by rw [HZ.out]; simp [HY.out hxy]
          go_wp2_with fail
          go_region
          all_goals (go_wp2_with fail; go_ret)
          all_goals exact ⟨rfl, q + 1, rfl⟩
      · obtain rfl : z = true := by
          have h1 : l.take j = l := List.take_of_length_le (by omega)
          have h2 : m.take j = m := List.take_of_length_le (by have := HD.out; omega)
          rw [HZ.out, decide_eq_true_eq, ← h1, ← h2]; exact HT.out
        go_wp2_with fail
        go_ret
        exact ⟨rfl, q, rfl⟩
  · obtain rfl : z = false := by
      rw [HZ.out]
      simp; intro e; exact hd (by rw [e])
    have hd2 : ¬ ((l.length : Int) = (m.length : Int)) := by omega
    go_enter Try.func13, Try.ntmps13
    go_wp2_with fail
    go_ret
    exact ⟨rfl, 0, rfl⟩

end Go.Proofs.Ytbfpphoiapggnaa
