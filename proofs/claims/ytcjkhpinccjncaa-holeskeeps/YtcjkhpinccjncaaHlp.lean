/-
  The laws' own functions: right, size, meets, within.
-/
import Derived.Test.YtcjkhpinccjncaaPut
namespace Go.Proofs.Ytcjkhpinccjncaa
open Go.ChangeShapes Go.WideShapes Go.ChangeAt Go.RowKit
set_option linter.unusedVariables false
set_option linter.unusedSimpArgs false

def Drew (w : World) (b : Value) (E : Ending) (w' : World) : Prop := E = .returned b ∧ ∃ n, w' = w.drewN n
theorem Drew.away {w w' : World} {b : Value} {E : Ending} (h : Drew w b E w') : E = .returned b ∧ Away [] w w' := by
  obtain ⟨h1, n, rfl⟩ := h
  exact ⟨h1, (Away.refl _ _).drewN n⟩
set_option maxHeartbeats 4000000 in
theorem lright_c (a : Option Addr) (l : List Sp) (n cap : Nat) (w : World) (hn : l.length = n) (hr : Row w a l) (hl : rightP l = true) :
    Calls Try.prog 19 #[.slice a n cap] w fun E w' => Drew w (.bool true) E w' := by
  subst hn
  have hlen := hr.1
  have HR := hidI hr
  have HL := hidI hl
  clear hr hl
  go_enter Try.func19, Try.ntmps19
  go_wp2_with fail
  go_loopw [3, 4] (fun v i wr => ∃ (k q : Nat) (e : Int), k ≤ l.length ∧ i = .int .i64 k ∧ v = .int .i64 e ∧ rightFrom e (l.drop k) = true ∧ wr = w.drewN q) (fun _ i _ => l.length - (intOf i).toNat)
  case atStart => exact ⟨0, 0, -1, by omega, rfl, rfl, HL.out, rfl⟩
  case round =>
    obtain ⟨k, q, e, hk, rfl, rfl, hq, hW⟩ := hrel
    have HQ := hidI hq
    have HW := hidI hW
    have hr1 : Row wr a l := by rw [hW]; exact HR.out.drewN q
    clear hW hq
    by_cases hlt : k < l.length
    · obtain ⟨x, hx, _⟩ := get_of hlt
      obtain ⟨b, off, rfl, c1, c2, -⟩ := hr1.at hx
      have hd := HQ.out
      rw [drop_at hx] at hd
      obtain ⟨⟨i1, i2, i3⟩, i4, i5⟩ := rf_cons.1 hd
      have H5 := hidI i5
      clear hx hr1 hd i5
      obtain ⟨x1, x2⟩ := x
      simp only at c1 c2 i1 i2 i3 i4 H5
      have b1 : decide (x1 ≤ e) = false := by simp; omega
      have b2 : decide (x2 ≤ x1) = false := by simp; omega
      have b3 : decide (65535 < x2) = false := by simp; omega
      have t2 : 0 ≤ (k : Int) := by omega
      have t3 : (k : Int) < (l.length : Int) := by omega
      have t4 : ((k : Int)).toNat = k := by omega
      clear i1 i2 i3 i4
      go_wp2_with fail
      go_region
      all_goals
        go_wp2_with fail
        go_roundw
      case rel => exact ⟨k + 1, q + 1, x2, by omega, by go_num, rfl, H5.out, by rw [HW.out]; rfl⟩
      case measure => simp [intOf]; omega
    · go_wp2_with fail
      go_ret
      exact ⟨rfl, q, HW.out⟩
set_option maxHeartbeats 4000000 in
theorem size_c (a : Option Addr) (l : List Sp) (n cap : Nat) (w : World) (hn : l.length = n) (hr : Row w a l) (hl : ∀ x ∈ l, Is x) (hsm : n ≤ 100000000) :
    Calls Try.prog 18 #[.slice a n cap] w fun E w' => Drew w (.int .i64 (lenP l)) E w' := by
  subst hn
  have HR := hidI hr
  have HL := hidI hl
  clear hr hl
  go_enter Try.func18, Try.ntmps18
  go_wp2_with fail
  go_loopw [3, 4] (fun v i wr => ∃ (k q : Nat), k ≤ l.length ∧ i = .int .i64 k ∧ v = .int .i64 (lenP (l.take k)) ∧ wr = w.drewN q) (fun _ i _ => l.length - (intOf i).toNat)
  case atStart => exact ⟨0, 0, by omega, rfl, rfl, rfl⟩
  case round =>
    obtain ⟨k, q, hk, rfl, rfl, hW⟩ := hrel
    have HW := hidI hW
    have hr1 : Row wr a l := by rw [hW]; exact HR.out.drewN q
    clear hW
    by_cases hlt : k < l.length
    · obtain ⟨x, hx, hxm⟩ := get_of hlt
      obtain ⟨b, off, rfl, c1, c2, -⟩ := hr1.at hx
      have hb := len_bound (l.take k) (fun s hs => HL.out s (List.mem_of_mem_take hs))
      have hkl : (l.take k).length = k := by simp; omega
      rw [hkl] at hb
      have HS := hidI (len_snoc hx)
      obtain ⟨i1, i2, i3⟩ := HL.out x hxm
      clear hx hr1 hxm hkl
      obtain ⟨x1, x2⟩ := x
      simp only at c1 c2 i1 i2 i3 HS
      generalize lenP (l.take k) = s at *
      obtain ⟨j1, j2⟩ := hb
      have t2 : 0 ≤ (k : Int) := by omega
      have t3 : (k : Int) < (l.length : Int) := by omega
      have t4 : ((k : Int)).toNat = k := by omega
      have j3 : s ≤ 6553500000000 := by omega
      clear j2
      go_wp2_with fail
      go_region
      all_goals
        go_wp2_with fail
        go_roundw
      case rel => exact ⟨k + 1, q + 1, by omega, by go_num, by rw [HS.out]; congr 1; omega, by rw [HW.out]; rfl⟩
      case measure => simp [intOf]; omega
    · have HE : Hid (lenP (l.take k) = lenP l) := by show _ = _; rw [List.take_of_length_le (by omega)]
      go_wp2_with fail
      go_ret
      exact ⟨by rw [← HE.out]; rfl, q, HW.out⟩
/-- No span of the one meets one of the other. -/
def Aprt (a b : List Sp) : Prop := ∀ x ∈ a, ∀ y ∈ b, ¬ (x.1 < y.2 ∧ y.1 < x.2)
set_option maxHeartbeats 4000000 in
theorem lmeets_c (a b : Option Addr) (l m : List Sp) (n k cap cap' : Nat) (w : World) (hn : l.length = n) (hk : m.length = k) (hr : Row w a l) (hs : Row w b m) (hap : Aprt l m) :
    Calls Try.prog 21 #[.slice a n cap, .slice b k cap'] w fun E w' => Drew w (.bool false) E w' := by
  subst hn; subst hk
  have hlen := hr.1
  have hlen' := hs.1
  have HR := hidI hr
  have HS := hidI hs
  have HAP := hidI hap
  clear hr hs hap
  go_enter Try.func21, Try.ntmps21
  go_wp2_with fail
  go_loopw [5] (fun i wr => ∃ (k q : Nat), k ≤ l.length ∧ i = .int .i64 k ∧ wr = w.drewN q) (fun i _ => l.length - (intOf i).toNat)
  case atStart => exact ⟨0, 0, by omega, rfl, rfl⟩
  case round =>
    obtain ⟨k, q, hk, rfl, hW⟩ := hrel
    have HW := hidI hW
    clear hW
    by_cases hlt : k < l.length
    · go_wp2_with fail
      go_loopw [6] (fun i wr => ∃ (j q : Nat), j ≤ m.length ∧ i = .int .i64 j ∧ wr = w.drewN q) (fun i _ => m.length - (intOf i).toNat)
      case atStart => exact ⟨0, q, by omega, rfl, HW.out⟩
      case round =>
        obtain ⟨j, q2, hj, rfl, hW2⟩ := hrel
        have HW2 := hidI hW2
        have hr1 : Row wr a l := by rw [hW2]; exact HR.out.drewN q2
        have hs1 : Row wr b m := by rw [hW2]; exact HS.out.drewN q2
        clear hW2
        by_cases hlt2 : j < m.length
        · obtain ⟨x, hx, hxm⟩ := get_of hlt
          obtain ⟨y, hy, hym⟩ := get_of hlt2
          obtain ⟨b1, o1, rfl, c1, c2, -⟩ := hr1.at hx
          obtain ⟨b2, o2, rfl, c3, c4, -⟩ := hs1.at hy
          have hno := HAP.out x hxm y hym
          clear hx hy hr1 hs1 hxm hym
          obtain ⟨x1, x2⟩ := x
          obtain ⟨y1, y2⟩ := y
          simp only at c1 c2 c3 c4 hno
          have t2 : 0 ≤ (k : Int) := by omega
          have t3 : (k : Int) < (l.length : Int) := by omega
          have t4 : ((k : Int)).toNat = k := by omega
          have s2 : 0 ≤ (j : Int) := by omega
          have s3 : (j : Int) < (m.length : Int) := by omega
          have s4 : ((j : Int)).toNat = j := by omega
          by_cases g1 : x1 < y2
          · have g2 : decide (y1 < x2) = false := by simp; omega
            have g3 : decide (x1 < y2) = true := by simp; omega
            clear hno g1
            go_wp2_with fail
            go_region
            all_goals
              go_wp2_with fail
              go_roundw
            case rel => exact ⟨j + 1, q2 + 1, by omega, by go_num, by rw [HW2.out]; rfl⟩
            case measure => simp [intOf]; omega
          · have g3 : decide (x1 < y2) = false := by simp; omega
            clear hno g1
            go_wp2_with fail
            go_region
            all_goals
              go_wp2_with fail
              go_roundw
            case rel => exact ⟨j + 1, q2 + 1, by omega, by go_num, by rw [HW2.out]; rfl⟩
            case measure => simp [intOf]; omega
        · go_wp2_with fail
          go_roundw
          case rel => exact ⟨k + 1, q2, by omega, by go_num, HW2.out⟩
          case measure => simp [intOf]; omega
    · go_wp2_with fail
      go_ret
      exact ⟨rfl, q, HW.out⟩
set_option maxHeartbeats 4000000 in
theorem within_c (a : Option Addr) (l : List Sp) (off n : Int) (k cap : Nat) (w : World) (hk : l.length = k) (hr : Row w a l) (h1 : ∀ x ∈ l, off ≤ x.1 ∧ x.2 ≤ off + n) (ho : 0 ≤ off) (hn : 0 ≤ n) (hs : off + n ≤ 65535) :
    Calls Try.prog 20 #[.slice a k cap, .int .i64 off, .int .i64 n] w fun E w' => Drew w (.bool true) E w' := by
  subst hk
  have hlen := hr.1
  rcases Nat.eq_zero_or_pos l.length with h0 | h0
  · rw [h0]
    clear hr h1
    go_enter Try.func20, Try.ntmps20
    go_wp2_with fail
    go_ret
    exact ⟨rfl, 0, rfl⟩
  · obtain ⟨x, hx, hxm⟩ := get_of h0
    obtain ⟨y, hy, hym⟩ := get_of (show l.length - 1 < l.length by omega)
    obtain ⟨b, o, rfl, c1, -, -⟩ := hr.at hx
    obtain ⟨b', o', he, -, c4, -⟩ := hr.at hy
    simp only [Option.some.injEq, Addr.mk.injEq] at he
    obtain ⟨rfl, rfl, -⟩ := he
    obtain ⟨g1, -⟩ := h1 x hxm
    obtain ⟨-, g2⟩ := h1 y hym
    obtain ⟨x1, x2⟩ := x
    obtain ⟨y1, y2⟩ := y
    simp only at c1 c4 g1 g2
    rw [Nat.zero_mul, Nat.add_zero] at c1
    obtain ⟨N, hN⟩ : ∃ N, N = l.length := ⟨_, rfl⟩
    rw [← hN] at c4 hlen h0 ⊢
    have t2 : 0 ≤ (N : Int) - 1 := by omega
    have t3 : (N : Int) - 1 < (N : Int) := by omega
    have t4 : ((N : Int) - 1).toNat = N - 1 := by omega
    have t5 : ¬ ((N : Int) = 0) := by omega
    have t6 : (0 : Int) < (N : Int) := by omega
    clear hN hr hx hy hxm hym h1
    go_enter Try.func20, Try.ntmps20
    go_wp2_with fail
    go_ret
    exact ⟨by first | rfl | simp, 0, rfl⟩
end Go.Proofs.Ytcjkhpinccjncaa
