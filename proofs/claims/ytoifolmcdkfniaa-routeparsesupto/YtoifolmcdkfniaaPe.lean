/-
  The document's place, number, line, Parse.
-/
import Derived.Test.YtoifolmcdkfniaaPd
import Derived.Test.YtoifolmcdkfniaaMy
import Derived.Test.YtoifolmcdkfniaaRtxZ
namespace Go.Proofs.Ytoifolmcdkfniaa
open Go.ChangeShapes Go.WideShapes Go.ChangeAt Go.RowKit
set_option linter.unusedVariables false
set_option linter.unusedSimpArgs false
set_option maxRecDepth 100000

set_option maxHeartbeats 4000000 in
theorem place_c (l : List UInt8) (hl : l.length ≤ 1048576) (c : UInt8) (w : World) : Calls Try.prog 31 #[.string ⟨l.toArray⟩, .int .u8 (c.toNat : Int)] w fun E w' => E = .returned (.int .i64 (Lib.index l [c])) ∧ w' = w := by
  obtain ⟨r, hr⟩ : ∃ r, r = Lib.index l [c] := ⟨_, rfl⟩
  rw [← hr]
  have HR := Lib.hid hr
  have hsz := bsz l
  obtain ⟨cn, hcn⟩ : ∃ cn, cn = c.toNat := ⟨_, rfl⟩
  rw [← hcn]
  have HCN := Lib.hid hcn
  clear hr hcn
  go_enter Try.func31, Try.ntmps31
  go_wp2_with fail
  go_loopw [5] (fun iv wr => ∃ k : Nat, iv = .int .i64 (k : Int) ∧ k ≤ l.length ∧ (∀ (j : Nat) (y : UInt8), j < k → l[j]? = some y → y ≠ c) ∧ wr = w) (fun iv _ => l.length - (intOf iv).toNat)
  case atStart => exact ⟨0, rfl, Nat.zero_le _, fun j y hj => by omega, rfl⟩
  case round =>
    obtain ⟨k, rfl, hk, hno, hW⟩ := hrel
    subst hW
    have HNO := Lib.hid hno
    clear hno
    by_cases hlt : k < l.length
    · obtain ⟨x, hx⟩ : ∃ x, l[k]? = some x := ⟨l[k], List.getElem?_eq_getElem hlt⟩
      have hix := ixs l k x (k : Int) rfl hx
      have HX := Lib.hid hx
      have t1 : decide (k < l.length) = true := by simp; omega
      have t2 : (k : Int) < (l.length : Int) := by omega
      obtain ⟨xn, hxn⟩ : ∃ xn, xn = x.toNat := ⟨_, rfl⟩
      rw [← hxn] at hix
      have HXN := Lib.hid hxn
      clear hx hxn hlt
      by_cases he : xn = cn
      · have HE : Hid (x = c) := by
          show _ = _
          apply UInt8.toNat_inj.1
          rw [← HXN.out, ← HCN.out]; exact he
        have heb : ((xn : Int) == (cn : Int)) = true := by simp [he]
        obtain rfl : r = (k : Int) := by rw [HR.out]; exact idx_at c l k HNO.out (by rw [HX.out, HE.out])
        subst he
        go_wp2_with fail
        go_ret
        exact ⟨rfl, rfl⟩
      · have HE : Hid (x ≠ c) := fun e => he (by rw [HXN.out, HCN.out, e])
        have heb : ((xn : Int) == (cn : Int)) = false := by simp; omega
        go_wp2_with fail
        go_roundw
        case rel => exact ⟨k + 1, by go_num, by omega, fun j y hj hy => by
          rcases Nat.lt_or_ge j k with h1 | h1
          · exact HNO.out j y h1 hy
          · rw [show j = k from by omega, HX.out] at hy
            simp only [Option.some.injEq] at hy
            rw [← hy]; exact HE.out, by trivial⟩
        case measure => simp [intOf]; omega
    · have t1 : decide (k < l.length) = false := by simp; omega
      have t2 : ¬ ((k : Int) < (l.length : Int)) := by omega
      obtain rfl : r = -1 := by
        rw [HR.out]
        refine idx_no c l fun j y hy => HNO.out j y ?_ hy
        have := (List.getElem?_eq_some_iff.1 hy).1
        omega
      go_wp2_with fail
      go_ret
      exact ⟨rfl, rfl⟩
set_option maxHeartbeats 4000000 in
theorem dnumber_c (l : List UInt8) (hl : l.length ≤ 1048576) (w : World) : Calls Try.prog 48 #[.string ⟨l.toArray⟩] w fun E w' => E = .returned (.int .i64 (numI (numR l))) ∧ w' = w := by
  obtain ⟨r, hr⟩ : ∃ r, r = numR l := ⟨_, rfl⟩
  rw [← hr]
  have HR := Lib.hid hr
  have hsz := bsz l
  clear hr
  by_cases h0 : l.length = 0
  · obtain rfl : r = none := by rw [HR.out]; exact numR_bad (.inl h0)
    rw [h0] at hsz
    go_enter Try.func48, Try.ntmps48
    go_wp2_with fail
    go_ret
    exact ⟨rfl, rfl⟩
  have h0' : ¬ ((l.length : Int) < 1) := by omega
  by_cases h3 : 3 < l.length
  · obtain rfl : r = none := by rw [HR.out]; exact numR_bad (.inr h3)
    have h3' : (l.length : Int) > 3 := by omega
    go_enter Try.func48, Try.ntmps48
    go_wp2_with fail
    go_ret
    exact ⟨rfl, rfl⟩
  have h3' : ¬ ((l.length : Int) > 3) := by omega
  obtain ⟨x0, hx0⟩ : ∃ x, l[0]? = some x := ⟨l[0], List.getElem?_eq_getElem (by omega)⟩
  have hix0 := ixs l 0 x0 0 rfl hx0
  have hhd : l.head? = some x0 := by rw [List.head?_eq_getElem?]; exact hx0
  clear hx0
  by_cases hz : 1 < l.length ∧ l.head? = some 48
  · obtain rfl : r = none := by rw [HR.out, numR, if_pos hz]
    have hx : x0 = 48 := by rw [hhd] at hz; simpa using hz.2
    subst hx
    have h1' : (l.length : Int) > 1 := by omega
    clear hz hhd
    go_enter Try.func48, Try.ntmps48
    go_wp2_with fail
    go_ret
    exact ⟨rfl, rfl⟩
  · have HD : Hid (r = digs 10 0 l) := by show _ = _; rw [HR.out, numR, if_neg hz, numOf, if_neg (by omega)]
    have HW : Hid (Calls Try.prog 48 #[.string ⟨l.toArray⟩] w fun E w' => E = .returned (.int .i64 (numI r)) ∧ w' = w) := by
      clear HR
      by_cases h1 : 1 < l.length
      · have hxne : ¬ ((x0.toNat : Int) = 48) := by
          intro e
          apply hz
          refine ⟨h1, ?_⟩
          rw [hhd]
          congr 1
          apply UInt8.toNat_inj.1
          show x0.toNat = 48
          omega
        have h1' : (l.length : Int) > 1 := by omega
        clear hz hhd
        go_enter Try.func48, Try.ntmps48
        go_wp2_with fail
        clear hix0
        go_loopw [3, 4] (fun nv iv wr => ∃ k n : Nat, k ≤ l.length ∧ iv = .int .i64 (k : Int) ∧ nv = .int .i64 (n : Int) ∧ n < 10 ^ k ∧ digs 10 0 l = digs 10 n (l.drop k) ∧ wr = w) (fun _ iv _ => l.length - (intOf iv).toNat)
        case atStart => exact ⟨0, 0, by omega, rfl, rfl, by simp, by simp, rfl⟩
        case round =>
          obtain ⟨k, n, hk, rfl, rfl, hn, hd, hW⟩ := hrel
          subst hW
          have HDD : Hid (digs 10 0 l = digs 10 n (l.drop k)) := hd
          clear hd
          have h10 : 10 ^ k ≤ 1000 := by
            have : 10 ^ k ≤ 10 ^ 3 := Nat.pow_le_pow_right (by decide) (by omega)
            omega
          by_cases hlt : k < l.length
          · obtain ⟨x, hx⟩ : ∃ x, l[k]? = some x := ⟨l[k], List.getElem?_eq_getElem hlt⟩
            have hix := ixs l k x (k : Int) rfl hx
            have hdrop : l.drop k = x :: l.drop (k + 1) := by
              rw [List.drop_eq_getElem_cons hlt, (List.getElem?_eq_some_iff.1 hx).2]
            have HS : Hid (digs 10 0 l = if dig x < 10 then digs 10 (n * 10 + dig x) (l.drop (k + 1)) else none) := by
              show _ = _
              rw [HDD.out, hdrop]; rfl
            have hpow : Hid (10 ^ (k + 1) = 10 ^ k * 10) := Nat.pow_succ ..
            have t1 : decide (k < l.length) = true := by simp; omega
            have t2 : (k : Int) < (l.length : Int) := by omega
            have hd10 := dig10 x
            have hd10v := dig10v x
            have hx256 : x.toNat < 256 := x.toNat_lt
            obtain ⟨d, hd⟩ : ∃ d, d = dig x := ⟨_, rfl⟩
            rw [← hd] at HS hd10 hd10v
            obtain ⟨y, hy⟩ : ∃ y, y = x.toNat := ⟨_, rfl⟩
            rw [← hy] at hix hd10 hd10v hx256
            have HD10 := Lib.hid hd10
            have HD10V := Lib.hid hd10v
            clear hx hdrop hd hy hd10 hd10v
            by_cases ha : (y : Int) < 48
            · obtain rfl : r = none := by rw [HD.out, HS.out, if_neg (fun h => by have := HD10.out.1 h; omega)]
              go_wp2_with fail
              go_ret
              exact ⟨rfl, rfl⟩
            · by_cases hb : (y : Int) > 57
              · obtain rfl : r = none := by rw [HD.out, HS.out, if_neg (fun h => by have := HD10.out.1 h; omega)]
                go_wp2_with fail
                go_ret
                exact ⟨rfl, rfl⟩
              · have hdl : d < 10 := HD10.out.2 (by omega)
                have hdv := HD10V.out hdl
                have HS2 : Hid (digs 10 0 l = digs 10 (n * 10 + d) (l.drop (k + 1))) := by show _ = _; rw [HS.out, if_pos hdl]
                have hsub : ((y : Int) - 48) % 256 = (d : Int) := by omega
                go_wp2_with fail
                go_roundw
                case rel => exact ⟨k + 1, n * 10 + d, by omega, by go_num, by go_num, by have := hpow.out; omega, HS2.out, by trivial⟩
                case measure => simp [intOf]; omega
          · have t1 : decide (k < l.length) = false := by simp; omega
            have t2 : ¬ ((k : Int) < (l.length : Int)) := by omega
            obtain rfl : r = some n := by rw [HD.out, HDD.out, List.drop_eq_nil_of_le (by omega)]; rfl
            go_wp2_with fail
            go_ret
            exact ⟨rfl, rfl⟩
      · have h1' : ¬ ((l.length : Int) > 1) := by omega
        clear hz hhd
        by_cases h48 : (x0.toNat : Int) = 48
        · have h48b : ((x0.toNat : Int) == 48) = true := by simpa using h48
          go_enter Try.func48, Try.ntmps48
          go_wp2_with fail
          clear hix0
          go_loopw [3, 4] (fun nv iv wr => ∃ k n : Nat, k ≤ l.length ∧ iv = .int .i64 (k : Int) ∧ nv = .int .i64 (n : Int) ∧ n < 10 ^ k ∧ digs 10 0 l = digs 10 n (l.drop k) ∧ wr = w) (fun _ iv _ => l.length - (intOf iv).toNat)
          case atStart => exact ⟨0, 0, by omega, rfl, rfl, by simp, by simp, rfl⟩
          case round =>
            obtain ⟨k, n, hk, rfl, rfl, hn, hd, hW⟩ := hrel
            subst hW
            have HDD : Hid (digs 10 0 l = digs 10 n (l.drop k)) := hd
            clear hd
            have h10 : 10 ^ k ≤ 1000 := by
              have : 10 ^ k ≤ 10 ^ 3 := Nat.pow_le_pow_right (by decide) (by omega)
              omega
            by_cases hlt : k < l.length
            · obtain ⟨x, hx⟩ : ∃ x, l[k]? = some x := ⟨l[k], List.getElem?_eq_getElem hlt⟩
              have hix := ixs l k x (k : Int) rfl hx
              have hdrop : l.drop k = x :: l.drop (k + 1) := by
                rw [List.drop_eq_getElem_cons hlt, (List.getElem?_eq_some_iff.1 hx).2]
              have HS : Hid (digs 10 0 l = if dig x < 10 then digs 10 (n * 10 + dig x) (l.drop (k + 1)) else none) := by
                show _ = _
                rw [HDD.out, hdrop]; rfl
              have hpow : Hid (10 ^ (k + 1) = 10 ^ k * 10) := Nat.pow_succ ..
              have t1 : decide (k < l.length) = true := by simp; omega
              have t2 : (k : Int) < (l.length : Int) := by omega
              have hd10 := dig10 x
              have hd10v := dig10v x
              have hx256 : x.toNat < 256 := x.toNat_lt
              obtain ⟨d, hd⟩ : ∃ d, d = dig x := ⟨_, rfl⟩
              rw [← hd] at HS hd10 hd10v
              obtain ⟨y, hy⟩ : ∃ y, y = x.toNat := ⟨_, rfl⟩
              rw [← hy] at hix hd10 hd10v hx256
              have HD10 := Lib.hid hd10
              have HD10V := Lib.hid hd10v
              clear hx hdrop hd hy hd10 hd10v
              by_cases ha : (y : Int) < 48
              · obtain rfl : r = none := by rw [HD.out, HS.out, if_neg (fun h => by have := HD10.out.1 h; omega)]
                go_wp2_with fail
                go_ret
                exact ⟨rfl, rfl⟩
              · by_cases hb : (y : Int) > 57
                · obtain rfl : r = none := by rw [HD.out, HS.out, if_neg (fun h => by have := HD10.out.1 h; omega)]
                  go_wp2_with fail
                  go_ret
                  exact ⟨rfl, rfl⟩
                · have hdl : d < 10 := HD10.out.2 (by omega)
                  have hdv := HD10V.out hdl
                  have HS2 : Hid (digs 10 0 l = digs 10 (n * 10 + d) (l.drop (k + 1))) := by show _ = _; rw [HS.out, if_pos hdl]
                  have hsub : ((y : Int) - 48) % 256 = (d : Int) := by omega
                  go_wp2_with fail
                  go_roundw
                  case rel => exact ⟨k + 1, n * 10 + d, by omega, by go_num, by go_num, by have := hpow.out; omega, HS2.out, by trivial⟩
                  case measure => simp [intOf]; omega
            · have t1 : decide (k < l.length) = false := by simp; omega
              have t2 : ¬ ((k : Int) < (l.length : Int)) := by omega
              obtain rfl : r = some n := by rw [HD.out, HDD.out, List.drop_eq_nil_of_le (by omega)]; rfl
              go_wp2_with fail
              go_ret
              exact ⟨rfl, rfl⟩
        · have h48b : ((x0.toNat : Int) == 48) = false := by simpa using h48
          go_enter Try.func48, Try.ntmps48
          go_wp2_with fail
          clear hix0
          go_loopw [3, 4] (fun nv iv wr => ∃ k n : Nat, k ≤ l.length ∧ iv = .int .i64 (k : Int) ∧ nv = .int .i64 (n : Int) ∧ n < 10 ^ k ∧ digs 10 0 l = digs 10 n (l.drop k) ∧ wr = w) (fun _ iv _ => l.length - (intOf iv).toNat)
          case atStart => exact ⟨0, 0, by omega, rfl, rfl, by simp, by simp, rfl⟩
          case round =>
            obtain ⟨k, n, hk, rfl, rfl, hn, hd, hW⟩ := hrel
            subst hW
            have HDD : Hid (digs 10 0 l = digs 10 n (l.drop k)) := hd
            clear hd
            have h10 : 10 ^ k ≤ 1000 := by
              have : 10 ^ k ≤ 10 ^ 3 := Nat.pow_le_pow_right (by decide) (by omega)
              omega
            by_cases hlt : k < l.length
            · obtain ⟨x, hx⟩ : ∃ x, l[k]? = some x := ⟨l[k], List.getElem?_eq_getElem hlt⟩
              have hix := ixs l k x (k : Int) rfl hx
              have hdrop : l.drop k = x :: l.drop (k + 1) := by
                rw [List.drop_eq_getElem_cons hlt, (List.getElem?_eq_some_iff.1 hx).2]
              have HS : Hid (digs 10 0 l = if dig x < 10 then digs 10 (n * 10 + dig x) (l.drop (k + 1)) else none) := by
                show _ = _
                rw [HDD.out, hdrop]; rfl
              have hpow : Hid (10 ^ (k + 1) = 10 ^ k * 10) := Nat.pow_succ ..
              have t1 : decide (k < l.length) = true := by simp; omega
              have t2 : (k : Int) < (l.length : Int) := by omega
              have hd10 := dig10 x
              have hd10v := dig10v x
              have hx256 : x.toNat < 256 := x.toNat_lt
              obtain ⟨d, hd⟩ : ∃ d, d = dig x := ⟨_, rfl⟩
              rw [← hd] at HS hd10 hd10v
              obtain ⟨y, hy⟩ : ∃ y, y = x.toNat := ⟨_, rfl⟩
              rw [← hy] at hix hd10 hd10v hx256
              have HD10 := Lib.hid hd10
              have HD10V := Lib.hid hd10v
              clear hx hdrop hd hy hd10 hd10v
              by_cases ha : (y : Int) < 48
              · obtain rfl : r = none := by rw [HD.out, HS.out, if_neg (fun h => by have := HD10.out.1 h; omega)]
                go_wp2_with fail
                go_ret
                exact ⟨rfl, rfl⟩
              · by_cases hb : (y : Int) > 57
                · obtain rfl : r = none := by rw [HD.out, HS.out, if_neg (fun h => by have := HD10.out.1 h; omega)]
                  go_wp2_with fail
                  go_ret
                  exact ⟨rfl, rfl⟩
                · have hdl : d < 10 := HD10.out.2 (by omega)
                  have hdv := HD10V.out hdl
                  have HS2 : Hid (digs 10 0 l = digs 10 (n * 10 + d) (l.drop (k + 1))) := by show _ = _; rw [HS.out, if_pos hdl]
                  have hsub : ((y : Int) - 48) % 256 = (d : Int) := by omega
                  go_wp2_with fail
                  go_roundw
                  case rel => exact ⟨k + 1, n * 10 + d, by omega, by go_num, by go_num, by have := hpow.out; omega, HS2.out, by trivial⟩
                  case measure => simp [intOf]; omega
            · have t1 : decide (k < l.length) = false := by simp; omega
              have t2 : ¬ ((k : Int) < (l.length : Int)) := by omega
              obtain rfl : r = some n := by rw [HD.out, HDD.out, List.drop_eq_nil_of_le (by omega)]; rfl
              go_wp2_with fail
              go_ret
              exact ⟨rfl, rfl⟩
    exact HW.out

end Go.Proofs.Ytoifolmcdkfniaa
