/-
  The law's own in, spans, rising.
-/
import Derived.Test.YtckiiidigajhpaaFn1
namespace Go.Proofs.Ytckiiidigajhpaa
open Go.ChangeShapes Go.WideShapes Go.ChangeAt Go.RowKit
set_option linter.unusedVariables false

theorem drop_at {l : List Sp} {k : Nat} {x : Sp} (h : l[k]? = some x) : l.drop k = x :: l.drop (k + 1) := by
  have hk := get_lt h
  rw [List.drop_eq_getElem_cons hk]
  rw [List.getElem?_eq_getElem hk] at h
  simp at h; rw [h]
set_option maxHeartbeats 1000000 in
theorem in_c (a : Option Addr) (l : List Sp) (n cap : Nat) (m : Int) (w : World) (hn : l.length = n) (hr : Row w a l) :
    Calls Try.prog 22 #[.slice a n cap, .int .i64 m] w fun E w' => E = .returned (.bool (inB l m)) ∧ w' = w := by
  subst hn
  have hlen := hr.1
  obtain ⟨z, hz⟩ : ∃ z, z = inB l m := ⟨_, rfl⟩
  rw [← hz]
  have HZ : Hid (z = inB l m) := hz
  clear hz
  go_enter Try.func22, Try.ntmps22
  go_wp2_with fail
  go_loopw [5] (fun i wr => ∃ (k : Nat), k ≤ l.length ∧ i = .int .i64 k ∧ wr = w ∧ inB l m = inB (l.drop k) m) (fun i _ => l.length - (intOf i).toNat)
  case atStart => exact ⟨0, by omega, rfl, rfl, rfl⟩
  case round =>
    obtain ⟨k, hk, rfl, rfl, hq⟩ := hrel
    have HQ : Hid (inB l m = inB (l.drop k) m) := hq
    clear hq
    by_cases hlt : k < l.length
    · obtain ⟨x, hx, _⟩ := get_of hlt
      obtain ⟨b, off, rfl, c1, c2, -⟩ := hr.at hx
      have HA : Hid (inB (l.drop k) m = (inS x m || inB (l.drop (k + 1)) m)) := by show _ = _; rw [drop_at hx]; rfl
      clear hx
      obtain ⟨x1, x2⟩ := x
      simp only at c1 c2
      by_cases h1 : x1 ≤ m
      · by_cases h2 : m < x2
        · have HS : Hid (inS (x1, x2) m = true) := by show _ = _; rw [inS_iff]; exact ⟨h1, h2⟩
          go_wp2_with fail
          go_ret
          exact ⟨by rw [HZ.out, HQ.out, HA.out, HS.out]; rfl, rfl⟩
        · have HS : Hid (inS (x1, x2) m = false) := by show _ = _; rw [Bool.eq_false_iff, ne_eq, inS_iff]; simp only; omega
          go_wp2_with fail
          go_roundw
          case rel => exact ⟨k + 1, by omega, by go_num, by trivial, by rw [HQ.out, HA.out, HS.out]; rfl⟩
          case measure => simp [intOf]; omega
      · have HS : Hid (inS (x1, x2) m = false) := by show _ = _; rw [Bool.eq_false_iff, ne_eq, inS_iff]; simp only; omega
        go_wp2_with fail
        go_roundw
        case rel => exact ⟨k + 1, by omega, by go_num, by trivial, by rw [HQ.out, HA.out, HS.out]; rfl⟩
        case measure => simp [intOf]; omega
    · go_wp2_with fail
      go_ret
      exact ⟨by rw [HZ.out, HQ.out, List.drop_eq_nil_of_le (by omega)]; rfl, rfl⟩

set_option maxHeartbeats 2000000 in
theorem spans_c (a : Option Addr) (l : List Sp) (n cap : Nat) (w : World) (hn : l.length = n) (hr : Row w a l) :
    Calls Try.prog 23 #[.slice a n cap] w fun E w' => Told w (allIs l) E w' := by
  subst hn
  have hlen := hr.1
  obtain ⟨z, hz⟩ : ∃ z, z = allIs l := ⟨_, rfl⟩
  rw [← hz]
  have HZ : Hid (z = allIs l) := hz
  clear hz
  go_enter Try.func23, Try.ntmps23
  go_wp2_with fail
  go_loopw [3] (fun i wr => ∃ (k q : Nat), k ≤ l.length ∧ i = .int .i64 (k : Int) ∧ wr = w.drewN q ∧ allIs l = allIs (l.drop k)) (fun i _ => l.length - (intOf i).toNat)
  case atStart => exact ⟨0, 0, by omega, rfl, rfl, rfl⟩
  case round =>
    obtain ⟨k, q, hk, rfl, hW, hq⟩ := hrel
    have HQ : Hid (allIs l = allIs (l.drop k)) := hq
    have HW : Hid (wr = w.drewN q) := hW
    have hr1 : Row wr a l := by rw [hW]; exact hr.drewN q
    clear hq hW hr
    by_cases hlt : k < l.length
    · obtain ⟨x, hx, _⟩ := get_of hlt
      obtain ⟨b, off, rfl, c1, c2, -⟩ := hr1.at hx
      have HA : Hid (allIs (l.drop k) = (isB x && allIs (l.drop (k + 1)))) := by show _ = _; rw [drop_at hx]; rfl
      clear hx hr1
      obtain ⟨x1, x2⟩ := x
      simp only at c1 c2
      have t1 : decide ((k : Int) < (l.length : Int)) = true := by simp; omega
      have t2 : 0 ≤ (k : Int) := by omega
      have t3 : (k : Int) < (l.length : Int) := by omega
      have t4 : ((k : Int)).toNat = k := by omega
      by_cases h1 : x1 < 0
      · have HS : Hid (isB (x1, x2) = false) := by show _ = _; rw [Bool.eq_false_iff, ne_eq, isB_iff]; unfold Is; simp only; omega
        have d1 : decide (x1 < 0) = true := by simp [h1]
        go_wp2_with fail
        go_quiet (fail)
        go_wp2_with fail
        go_ret
        exact ⟨by rw [HZ.out, HQ.out, HA.out, HS.out]; rfl, q + nq, by rw [HW.out, World.drewN_drewN]⟩
      · have d1 : decide (x1 < 0) = false := by simp [h1]
        by_cases h2 : 65535 < x2
        · have HS : Hid (isB (x1, x2) = false) := by show _ = _; rw [Bool.eq_false_iff, ne_eq, isB_iff]; unfold Is; simp only; omega
          have d2 : decide (65535 < x2) = true := by simp [h2]
          go_wp2_with fail
          go_quiet (fail)
          go_wp2_with fail
          go_ret
          exact ⟨by rw [HZ.out, HQ.out, HA.out, HS.out]; rfl, q + nq, by rw [HW.out, World.drewN_drewN]⟩
        · have d2 : decide (65535 < x2) = false := by simp [h2]
          by_cases h3 : x2 ≤ x1
          · have HS : Hid (isB (x1, x2) = false) := by show _ = _; rw [Bool.eq_false_iff, ne_eq, isB_iff]; unfold Is; simp only; omega
            have d3 : decide (x2 ≤ x1) = true := by simp [h3]
            go_wp2_with fail
            go_quiet (fail)
            go_wp2_with fail
            go_ret
            exact ⟨by rw [HZ.out, HQ.out, HA.out, HS.out]; rfl, q + nq, by rw [HW.out, World.drewN_drewN]⟩
          · have HS : Hid (isB (x1, x2) = true) := by show _ = _; rw [isB_iff]; unfold Is; simp only; omega
            have d3 : decide (x2 ≤ x1) = false := by simp [h3]
            go_wp2_with fail
            go_quiet (fail)
            go_wp2_with fail
            go_roundw
            case rel => exact ⟨k + 1, q + nq, by omega, by go_num, by rw [HW.out, World.drewN_drewN], by rw [HQ.out, HA.out, HS.out]; rfl⟩
            case measure => simp [intOf]; omega
    · go_wp2_with fail
      go_ret
      exact ⟨by rw [HZ.out, HQ.out, List.drop_eq_nil_of_le (by omega)]; rfl, q, HW.out⟩

def prevT (l : List Sp) (k : Nat) : Int := if k = 0 then -1 else ((l[k - 1]?).getD (0, 0)).2
theorem prevT_succ {l : List Sp} {k : Nat} {x : Sp} (h : l[k]? = some x) : prevT l (k + 1) = x.2 := by simp [prevT, h]
set_option maxHeartbeats 4000000 in
theorem rising_c (a : Option Addr) (l : List Sp) (n cap : Nat) (w : World) (hn : l.length = n) (hr : Row w a l) :
    Calls Try.prog 20 #[.slice a n cap] w fun E w' => Told w (rightP l) E w' := by
  subst hn
  have hlen := hr.1
  obtain ⟨z, hz⟩ : ∃ z, z = rightP l := ⟨_, rfl⟩
  rw [← hz]
  have HZ : Hid (z = rightP l) := hz
  clear hz
  go_enter Try.func20, Try.ntmps20
  go_wp2_with fail
  go_loopw [3] (fun i wr => ∃ (k q : Nat), k ≤ l.length ∧ i = .int .i64 (k : Int) ∧ wr = w.drewN q ∧ rightP l = rightFrom (prevT l k) (l.drop k)) (fun i _ => l.length - (intOf i).toNat)
  case atStart => exact ⟨0, 0, by omega, rfl, rfl, rfl⟩
  case round =>
    obtain ⟨k, q, hk, rfl, hW, hq⟩ := hrel
    have HQ : Hid (rightP l = rightFrom (prevT l k) (l.drop k)) := hq
    have HW : Hid (wr = w.drewN q) := hW
    have hr1 : Row wr a l := by rw [hW]; exact hr.drewN q
    clear hq hW hr
    by_cases hlt : k < l.length
    · obtain ⟨x, hx, _⟩ := get_of hlt
      obtain ⟨b, off, rfl, c1, c2, -⟩ := hr1.at hx
      have HA : Hid (rightFrom (prevT l k) (l.drop k) = (isB x && decide (prevT l k < x.1) && rightFrom (prevT l (k + 1)) (l.drop (k + 1)))) := by show _ = _; rw [rf_at hx, prevT_succ hx]
      clear hx
      obtain ⟨x1, x2⟩ := x
      simp only at c1 c2
      have t1 : decide ((k : Int) < (l.length : Int)) = true := by simp; omega
      have t2 : 0 ≤ (k : Int) := by omega
      have t3 : (k : Int) < (l.length : Int) := by omega
      have t4 : ((k : Int)).toNat = k := by omega
      by_cases h1 : x1 < 0
      · have HS : Hid (isB (x1, x2) = false) := by show _ = _; rw [Bool.eq_false_iff, ne_eq, isB_iff]; unfold Is; simp only; omega
        have d1 : decide (x1 < 0) = true := by simp [h1]
        go_wp2_with fail
        go_quiet (fail)
        go_wp2_with fail
        go_ret
        exact ⟨by rw [HZ.out, HQ.out, HA.out, HS.out]; rfl, q + nq, by rw [HW.out, World.drewN_drewN]⟩
      · have d1 : decide (x1 < 0) = false := by simp [h1]
        by_cases h2 : 65535 < x2
        · have HS : Hid (isB (x1, x2) = false) := by show _ = _; rw [Bool.eq_false_iff, ne_eq, isB_iff]; unfold Is; simp only; omega
          have d2 : decide (65535 < x2) = true := by simp [h2]
          go_wp2_with fail
          go_quiet (fail)
          go_wp2_with fail
          go_ret
          exact ⟨by rw [HZ.out, HQ.out, HA.out, HS.out]; rfl, q + nq, by rw [HW.out, World.drewN_drewN]⟩
        · have d2 : decide (65535 < x2) = false := by simp [h2]
          by_cases h3 : x2 ≤ x1
          · have HS : Hid (isB (x1, x2) = false) := by show _ = _; rw [Bool.eq_false_iff, ne_eq, isB_iff]; unfold Is; simp only; omega
            have d3 : decide (x2 ≤ x1) = true := by simp [h3]
            go_wp2_with fail
            go_quiet (fail)
            go_wp2_with fail
            go_ret
            exact ⟨by rw [HZ.out, HQ.out, HA.out, HS.out]; rfl, q + nq, by rw [HW.out, World.drewN_drewN]⟩
          · have HS : Hid (isB (x1, x2) = true) := by show _ = _; rw [isB_iff]; unfold Is; simp only; omega
            have d3 : decide (x2 ≤ x1) = false := by simp [h3]
            by_cases h0 : k = 0
            · have HP : Hid (decide (prevT l k < x1) = true) := by show _ = _; simp [prevT, h0]; omega
              have g0 : decide (0 < k) = false := by simp; omega
              have HK : Hid (k = 0) := h0
              clear hr1 h0
              go_wp2_with fail
              go_quiet (fail)
              go_wp2_with fail
              go_roundw
              case rel => exact ⟨k + 1, q + nq, by omega, by go_num, by rw [HW.out, World.drewN_drewN], by rw [HQ.out, HA.out, HS.out, HP.out]; rfl⟩
              case measure => simp [intOf]; omega
            · obtain ⟨y, hy, _⟩ := get_of (show k - 1 < l.length by omega)
              obtain ⟨b', off', hbo, c3, c4, -⟩ := hr1.at hy
              simp only [Option.some.injEq, Addr.mk.injEq] at hbo
              obtain ⟨rfl, rfl, -⟩ := hbo
              have HP : Hid (prevT l k = y.2) := by show _ = _; simp [prevT, h0, hy]
              clear hr1 hy
              obtain ⟨y1, y2⟩ := y
              simp only at c3 c4 HP
              have g0 : decide (0 < k) = true := by simp; omega
              have t5 : ((k : Int) - 1).toNat = k - 1 := by omega
              have t6 : 0 ≤ (k : Int) - 1 := by omega
              have t7 : (k : Int) - 1 < (l.length : Int) := by omega
              by_cases h4 : x1 ≤ y2
              · have d4 : decide (x1 ≤ y2) = true := by simp [h4]
                have HD : Hid (decide (prevT l k < x1) = false) := by show _ = _; rw [HP.out]; simp; omega
                go_wp2_with fail
                go_quiet (fail)
                go_wp2_with fail
                go_ret
                exact ⟨by rw [HZ.out, HQ.out, HA.out, HS.out, HD.out]; rfl, q + nq, by rw [HW.out, World.drewN_drewN]⟩
              · have d4 : decide (x1 ≤ y2) = false := by simp [h4]
                have HD : Hid (decide (prevT l k < x1) = true) := by show _ = _; rw [HP.out]; simp; omega
                go_wp2_with fail
                go_quiet (fail)
                go_wp2_with fail
                go_roundw
                case rel => exact ⟨k + 1, q + nq, by omega, by go_num, by rw [HW.out, World.drewN_drewN], by rw [HQ.out, HA.out, HS.out, HD.out]; rfl⟩
                case measure => simp [intOf]; omega
    · go_wp2_with fail
      go_ret
      exact ⟨by rw [HZ.out, HQ.out, List.drop_eq_nil_of_le (by omega)]; rfl, q, HW.out⟩
#print axioms rising_c
end Go.Proofs.Ytckiiidigajhpaa
