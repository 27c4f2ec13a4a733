/-
  The document's digit, number, has.
-/
import Derived.Test.YtclfhajapohogaaDoorDig
import Derived.Test.YtclfhajapohogaaDoorTxt
namespace Go.Proofs.YtclfhajapohogaaDoor
open Go.ChangeShapes Go.WideShapes Go.ChangeAt Go.RowKit
set_option linter.unusedVariables false
set_option maxHeartbeats 4000000
set_option maxRecDepth 100000

theorem rdigit_c (c : UInt8) (w : World) : Calls Tryd.prog 67 #[.int .u8 (c.toNat : Int)] w fun e w' => e = .returned (.int .i64 (dig c : Int)) ∧ w' = w := by
  have hc : c.toNat < 256 := c.toNat_lt
  obtain ⟨d, hd⟩ : ∃ d, d = dig c := ⟨_, rfl⟩
  rw [← hd]
  have HD : Hid (d = dig c) := hd
  clear hd
  unfold dig at HD
  generalize c.toNat = n at *
  by_cases h1 : 48 ≤ n ∧ n ≤ 57
  · obtain ⟨h1, h2⟩ := h1
    have e : d = n - 48 := by rw [HD.out, if_pos ⟨h1, h2⟩]
    have e2 : (d : Int) = (n : Int) - 48 := by omega
    rw [e2]
    have t1 : (48 : Int) ≤ n := by omega
    have t2 : (n : Int) ≤ 57 := by omega
    clear HD e e2
    go_enter Tryd.func67, Tryd.ntmps67
    go_wp2
    go_ret
    exact ⟨rfl, rfl⟩
  · by_cases h2 : 97 ≤ n ∧ n ≤ 102
    · obtain ⟨h3, h4⟩ := h2
      have e : d = n - 87 := by rw [HD.out, if_neg h1, if_pos ⟨h3, h4⟩]
      have e2 : (d : Int) = (n : Int) - 97 + 10 := by omega
      rw [e2]
      have t0 : (48 : Int) ≤ n := by omega
      have t00 : ¬ ((n : Int) ≤ 57) := by omega
      have t1 : (97 : Int) ≤ n := by omega
      have t2 : (n : Int) ≤ 102 := by omega
      clear HD e e2 h1
      go_enter Tryd.func67, Tryd.ntmps67
      go_wp2
      go_ret
      exact ⟨rfl, rfl⟩
    · by_cases h3 : 65 ≤ n ∧ n ≤ 70
      · obtain ⟨h4, h5⟩ := h3
        have e : d = n - 55 := by rw [HD.out, if_neg h1, if_neg h2, if_pos ⟨h4, h5⟩]
        have e2 : (d : Int) = (n : Int) - 65 + 10 := by omega
        rw [e2]
        have t0 : (48 : Int) ≤ n := by omega
        have t00 : ¬ ((n : Int) ≤ 57) := by omega
        have t1 : ¬ ((97 : Int) ≤ n) := by omega
        have t2 : (65 : Int) ≤ n := by omega
        have t3 : (n : Int) ≤ 70 := by omega
        clear HD e e2 h1 h2
        go_enter Tryd.func67, Tryd.ntmps67
        go_wp2
        go_ret
        exact ⟨rfl, rfl⟩
      · have e : d = 99 := by rw [HD.out, if_neg h1, if_neg h2, if_neg h3]
        subst e
        clear HD
        have f1 : (decide ((48 : Int) ≤ n) && decide ((n : Int) ≤ 57)) = false := by
          rw [Bool.and_eq_false_iff]; simp; omega
        have f2 : (decide ((97 : Int) ≤ n) && decide ((n : Int) ≤ 102)) = false := by
          rw [Bool.and_eq_false_iff]; simp; omega
        have f3 : (decide ((65 : Int) ≤ n) && decide ((n : Int) ≤ 70)) = false := by
          rw [Bool.and_eq_false_iff]; simp; omega
        go_enter Tryd.func67, Tryd.ntmps67
        by_cases p1 : (48 : Int) ≤ n
        · have p2 : ¬ ((n : Int) ≤ 57) := by omega
          by_cases p3 : (97 : Int) ≤ n
          · have p4 : ¬ ((n : Int) ≤ 102) := by omega
            have p5 : (65 : Int) ≤ n := by omega
            have p6 : ¬ ((n : Int) ≤ 70) := by omega
            clear f1 f2 f3 h1 h2 h3
            go_wp2
            go_ret
            exact ⟨rfl, rfl⟩
          · by_cases p5 : (65 : Int) ≤ n
            · have p6 : ¬ ((n : Int) ≤ 70) := by omega
              clear f1 f2 f3 h1 h2 h3
              go_wp2
              go_ret
              exact ⟨rfl, rfl⟩
            · clear f1 f2 f3 h1 h2 h3
              go_wp2
              go_ret
              exact ⟨rfl, rfl⟩
        · have p3 : ¬ ((97 : Int) ≤ n) := by omega
          have p5 : ¬ ((65 : Int) ≤ n) := by omega
          clear f1 f2 f3 h1 h2 h3
          go_wp2
          go_ret
          exact ⟨rfl, rfl⟩
/-! A byte and a run of a text. -/
theorem idx_eq (l : List UInt8) (i : Nat) (x : UInt8) (z : Int) (hz : z = i) (h : l[i]? = some x) (wx : World) : (Instr.index 9 (.string ⟨l.toArray⟩) (.int .i64 z)).run Tryd.prog wx = .ok (.int .u8 (x.toNat : Int)) wx := by
  subst hz
  have hi : i < l.length := (List.getElem?_eq_some_iff.1 h).1
  rw [run_index_string wx 9 _ .i64 _ Tryd.underlying9]
  have hs : (ByteArray.mk l.toArray).size = l.length := by simp [ByteArray.size]
  rw [dif_pos ⟨by omega, by rw [hs]; omega⟩]
  have e : l[i] = x := (List.getElem?_eq_some_iff.1 h).2
  subst e
  rfl
theorem bsize (l : List UInt8) : (ByteArray.mk l.toArray).size = l.length := by simp [ByteArray.size]
def numI (r : Option Nat) : Int := match r with | some n => (n : Int) | none => -1
theorem rnumber_c (l : List UInt8) (base most : Nat) (hb : 2 ≤ base) (hb16 : base ≤ 16) (hm : most ≤ 4) (hl : l.length ≤ 1048576) (w : World) :
    Calls Tryd.prog 58 #[.string ⟨l.toArray⟩, .int .i64 (base : Int), .int .i64 (most : Int)] w fun e w' => e = .returned (.int .i64 (numI (numOf base most l))) ∧ w' = w := by
  obtain ⟨r, hr⟩ : ∃ r, r = numI (numOf base most l) := ⟨_, rfl⟩
  rw [← hr]
  have HR : Hid (r = numI (numOf base most l)) := hr
  have hsz := bsize l
  clear hr
  by_cases h0 : l.length = 0
  · obtain rfl : r = -1 := by rw [HR.out, numOf, if_pos (.inl h0)]; rfl
    rw [h0] at hsz
    go_enter Tryd.func58, Tryd.ntmps58
    go_wp2
    go_ret
    exact ⟨rfl, rfl⟩
  · have h0' : ¬ ((l.length : Int) = 0) := by omega
    by_cases h1 : most < l.length
    · obtain rfl : r = -1 := by rw [HR.out, numOf, if_pos (.inr h1)]; rfl
      have h1' : (most : Int) < (l.length : Int) := by omega
      go_enter Tryd.func58, Tryd.ntmps58
      go_wp2
      go_ret
      exact ⟨rfl, rfl⟩
    · have h1' : ¬ ((most : Int) < (l.length : Int)) := by omega
      have HD : Hid (r = numI (digs base 0 l)) := by show _ = _; rw [HR.out, numOf, if_neg (by omega)]
      clear HR
      go_enter Tryd.func58, Tryd.ntmps58
      go_wp2_with fail
      go_loopw [7, 8] (fun nv iv wr => ∃ k n : Nat, k ≤ l.length ∧ iv = .int .i64 (k : Int) ∧ nv = .int .i64 (n : Int) ∧ n < 16 ^ k ∧ digs base 0 l = digs base n (l.drop k) ∧ wr = w) (fun _ iv _ => l.length - (intOf iv).toNat)
      case atStart => exact ⟨0, 0, by omega, rfl, rfl, by simp, by simp, rfl⟩
      case round =>
        obtain ⟨k, n, hk, rfl, rfl, hn, hd, hW⟩ := hrel
        subst hW
        have HDD : Hid (digs base 0 l = digs base n (l.drop k)) := hd
        clear hd
        have h16 : 16 ^ k ≤ 65536 := by
          have : 16 ^ k ≤ 16 ^ 4 := Nat.pow_le_pow_right (by decide) (by omega)
          omega
        by_cases hlt : k < l.length
        · obtain ⟨x, hx⟩ : ∃ x, l[k]? = some x := ⟨l[k], List.getElem?_eq_getElem hlt⟩
          have hix := idx_eq l k x (k : Int) rfl hx
          have hdrop : l.drop k = x :: l.drop (k + 1) := by
            rw [List.drop_eq_getElem_cons hlt, (List.getElem?_eq_some_iff.1 hx).2]
          have HS : Hid (digs base 0 l = if dig x < base then digs base (n * base + dig x) (l.drop (k + 1)) else none) := by
            show _ = _
            rw [HDD.out, hdrop]; rfl
          have hpow : Hid (16 ^ (k + 1) = 16 ^ k * 16) := Nat.pow_succ ..
          have hnb : n * base ≤ n * 16 := Nat.mul_le_mul_left n hb16
          have t1 : decide ((k : Int) < (l.length : Int)) = true := by simp; omega
          clear hx hdrop
          go_wp2_with fail
          refine (rdigit_c x _).mono ?_
          rintro E w' ⟨rfl, rfl⟩
          generalize dig x = d at *
          by_cases hdb : d < base
          · have hdb' : ¬ ((base : Int) ≤ (d : Int)) := by omega
            have HS2 : Hid (digs base 0 l = digs base (n * base + d) (l.drop (k + 1))) := by show _ = _; rw [HS.out, if_pos hdb]
            obtain ⟨P, hP⟩ : ∃ P, P = n * base := ⟨_, rfl⟩
            rw [← hP] at hnb HS2
            have hwm : IntKind.i64.wrap ((n : Int) * (base : Int)) = (P : Int) := by
              have : (n : Int) * (base : Int) = (P : Int) := by rw [hP]; simp
              rw [this]
              simp [IntKind.wrap, IntKind.bits, IntKind.signed]; omega
            clear hP
            go_wp2_with fail
            go_roundw
            case rel => exact ⟨k + 1, P + d, by omega, by go_num, by go_num, by have := hpow.out; omega, HS2.out, by trivial⟩
            case measure => simp [intOf]; omega
          · have hdb' : (base : Int) ≤ (d : Int) := by omega
            obtain rfl : r = -1 := by rw [HD.out, HS.out, if_neg hdb]; rfl
            go_wp2_with fail
            go_ret
            exact ⟨rfl, rfl⟩
        · have t1 : decide ((k : Int) < (l.length : Int)) = false := by simp; omega
          obtain rfl : r = (n : Int) := by rw [HD.out, HDD.out, List.drop_eq_nil_of_le (by omega)]; rfl
          go_wp2_with fail
          go_ret
          exact ⟨rfl, rfl⟩
theorem rhas_c (l : List UInt8) (c : UInt8) (hl : l.length ≤ 1048576) (w : World) :
    Calls Tryd.prog 38 #[.string ⟨l.toArray⟩, .int .u8 (c.toNat : Int)] w fun e w' => e = .returned (.bool (decide (c ∈ l))) ∧ w' = w := by
  obtain ⟨r, hr⟩ : ∃ r, r = decide (c ∈ l) := ⟨_, rfl⟩
  rw [← hr]
  have HR : Hid (r = decide (c ∈ l)) := hr
  have hsz := bsize l
  clear hr
  go_enter Tryd.func38, Tryd.ntmps38
  go_wp2_with fail
  go_loopw [5] (fun iv wr => ∃ k : Nat, k ≤ l.length ∧ iv = .int .i64 (k : Int) ∧ (c ∈ l ↔ c ∈ l.drop k) ∧ wr = w) (fun iv _ => l.length - (intOf iv).toNat)
  case atStart => exact ⟨0, by omega, rfl, by simp, rfl⟩
  case round =>
    obtain ⟨k, hk, rfl, hm, hW⟩ := hrel
    subst hW
    have HM : Hid (c ∈ l ↔ c ∈ l.drop k) := hm
    clear hm
    by_cases hlt : k < l.length
    · obtain ⟨x, hx⟩ : ∃ x, l[k]? = some x := ⟨l[k], List.getElem?_eq_getElem hlt⟩
      have hix := idx_eq l k x (k : Int) rfl hx
      have hdrop : l.drop k = x :: l.drop (k + 1) := by
        rw [List.drop_eq_getElem_cons hlt, (List.getElem?_eq_some_iff.1 hx).2]
      have t1 : decide ((k : Int) < (l.length : Int)) = true := by simp; omega
      by_cases hc : x = c
      · subst hc
        obtain rfl : r = true := by rw [HR.out, decide_eq_true_eq, HM.out, hdrop]; simp
        clear hdrop hx
        go_wp2_with fail
        go_ret
        exact ⟨rfl, rfl⟩
      · have hne : ¬ ((x.toNat : Int) = (c.toNat : Int)) := fun e => hc (UInt8.toNat_inj.1 (by omega))
        have HM2 : Hid (c ∈ l ↔ c ∈ l.drop (k + 1)) := by
          show _ ↔ _
          rw [HM.out, hdrop, List.mem_cons]
          exact ⟨fun h => h.elim (fun e => absurd e.symm hc) id, .inr⟩
        generalize x.toNat = xn at *
        generalize c.toNat = cn at *
        clear hdrop hx
        go_wp2_with fail
        go_roundw
        case rel => exact ⟨k + 1, by omega, by go_num, HM2.out, by trivial⟩
        case measure => simp [intOf]; omega
    · have t1 : decide ((k : Int) < (l.length : Int)) = false := by simp; omega
      obtain rfl : r = false := by rw [HR.out, decide_eq_false_iff_not, HM.out, List.drop_eq_nil_of_le (by omega)]; simp
      go_wp2_with fail
      go_ret
      exact ⟨rfl, rfl⟩
#print axioms rhas_c
end Go.Proofs.YtclfhajapohogaaDoor
