/-
  The document's own: Options.
-/
import Derived.Test.YtaicckenpplceaaGreatDoorStp
namespace Go.Proofs.YtaicckenpplceaaGreatDoor
open Go.ChangeShapes Go.WideShapes Go.ChangeAt Go.RowKit Num
set_option linter.unusedVariables false
set_option maxHeartbeats 4000000
set_option maxRecDepth 100000

theorem drop_gt {l : List Int} {k : Nat} (h : k < l.length) : l.drop k = gt l k :: l.drop (k + 1) := by
  rw [List.drop_eq_getElem_cons h]; unfold gt; rw [List.getElem?_eq_getElem h]; rfl
theorem som_map {α β : Type} (o : Option α) (f : α → β) : (o.map f).isSome = o.isSome := by cases o <;> rfl
theorem zeros_drop {l : List Int} {k : Nat} (h : k < l.length) : zerosP (l.drop k) = ((gt l k == 0) && zerosP (l.drop (k + 1))) := by rw [drop_gt h, zerosP_cons]
def okP (l : List Int) (k : Nat) : Bool := (parseP (l.drop k)).isSome
theorem ok_zero {l : List Int} {k : Nat} (h : k < l.length) (hx : gt l k = 0) : okP l k = zerosP (l.drop k) := by
  unfold okP; rw [zeros_drop h, drop_gt h, hx, parseP_zero]
  cases zerosP (l.drop (k + 1)) <;> rfl
theorem ok_one {l : List Int} {k : Nat} (h : k < l.length) (hx : gt l k = 1) : okP l k = okP l (k + 1) := by
  unfold okP; rw [drop_gt h, hx, parseP_one, som_map]
theorem ok_lone {l : List Int} {k : Nat} (h : k < l.length) (h0 : gt l k ≠ 0) (h1 : gt l k ≠ 1) (hl : l.length ≤ k + 1) : okP l k = false := by
  unfold okP; rw [drop_gt h, List.drop_eq_nil_of_le hl, parseP_lone _ h0 h1]; rfl
theorem ok_sized {l : List Int} {k : Nat} (h : k + 1 < l.length) (h0 : gt l k ≠ 0) (h1 : gt l k ≠ 1) : okP l k = if 2 ≤ gt l (k + 1) ∧ k + (gt l (k + 1)).toNat ≤ l.length then okP l (k + (gt l (k + 1)).toNat) else false := by
  unfold okP
  rw [drop_gt (by omega : k < l.length), drop_gt h, parseP_sized _ _ _ h0 h1]
  by_cases hc : 2 ≤ gt l (k + 1) ∧ k + (gt l (k + 1)).toNat ≤ l.length
  · rw [if_pos hc, if_pos ⟨hc.1, by simp; omega⟩, som_map, List.drop_drop, show k + 1 + 1 + ((gt l (k + 1)).toNat - 2) = k + (gt l (k + 1)).toNat from by omega]
  · rw [if_neg hc, if_neg (by intro h2; simp at h2; omega)]; rfl
theorem ok_end {l : List Int} {k : Nat} (h : l.length ≤ k) : okP l k = true := by unfold okP; rw [List.drop_eq_nil_of_le h, parseP_nil]; rfl

theorem ropts_c (a : Option Addr) (l : List Int) (n cap : Nat) (w : World) (hn : l.length = n) (hr : Row w a l) :
    Calls Tryz.prog 58 #[.slice a n cap] w fun E w' => E = .returned (.bool (validP l)) ∧ w' = w := by
  subst hn
  have hlen := hr.1
  have hlb := hr.2.1
  have HR := Lib.hid hr
  clear hr
  have HV : Hid (validP l = (decide (l.length ≤ 40) && decide (l.length % 4 = 0) && okP l 0)) := rfl
  generalize validP l = V at *
  by_cases h4 : l.length % 4 = 0
  · by_cases h40 : l.length ≤ 40
    · obtain rfl : V = okP l 0 := by rw [HV.out]; simp [h4, h40]
      clear HV
      have g4 : (l.length : Int) % 4 = 0 := by omega
      have g40 : ¬ (40 : Int) < (l.length : Int) := by omega
      go_enter Tryz.func58, Tryz.ntmps58
      go_wp2_with fail
      go_loopw [3] (fun i wr => ∃ k : Nat, k ≤ l.length ∧ i = .int .i64 k ∧ Hid (okP l 0 = okP l k) ∧ wr = w) (fun i _ => l.length - (intOf i).toNat)
      case atStart => exact ⟨0, by omega, rfl, Lib.hid rfl, rfl⟩
      case round =>
        obtain ⟨k, hk, rfl, HK, rfl⟩ := hrel
        by_cases hlt : k < l.length
        · have hlt' : (k : Int) < (l.length : Int) := by omega
          obtain ⟨b, off, rfl, c0⟩ := HR.out.at k hlt
          have x0 := gt_bd hlb k
          by_cases hz : gt l k = 0
          · rw [hz] at c0
            have HK2 : Hid (okP l 0 = zerosP (l.drop k)) := by show _ = _; rw [HK.out, ok_zero hlt hz]
            go_wp2_with fail
            go_loopw [4] (fun i wr' => ∃ j : Nat, j ≤ l.length ∧ i = .int .i64 j ∧ Hid (okP l 0 = zerosP (l.drop j)) ∧ wr' = wr) (fun i _ => l.length - (intOf i).toNat)
            case atStart => exact ⟨k, by omega, rfl, HK2, rfl⟩
            case round =>
              obtain ⟨j, hj, rfl, HJ, rfl⟩ := hrel
              by_cases hjl : j < l.length
              · have hjl' : (j : Int) < (l.length : Int) := by omega
                obtain ⟨b', off', he, c1⟩ := HR.out.at j hjl
                simp only [Option.some.injEq, Addr.mk.injEq, and_true] at he
                obtain ⟨rfl, rfl⟩ := he
                have y0 := gt_bd hlb j
                have HZ : Hid (zerosP (l.drop j) = ((gt l j == 0) && zerosP (l.drop (j + 1)))) := zeros_drop hjl
                by_cases hjz : gt l j = 0
                · have HJ2 : Hid (okP l 0 = zerosP (l.drop (j + 1))) := by show _ = _; rw [HJ.out, HZ.out, hjz]; rfl
                  rw [hjz] at c1
                  go_wp2_with fail
                  go_roundw
                  case rel => exact ⟨j + 1, by omega, by go_num, HJ2, by trivial⟩
                  case measure => simp [intOf]; omega
                · have HJ2 : Hid (okP l 0 = false) := by show _ = _; rw [HJ.out, HZ.out]; simp [hjz]
                  generalize gt l j = y at *
                  go_wp2_with fail
                  go_ret
                  exact ⟨by rw [HJ2.out]; rfl, rfl⟩
              · have hjl' : ¬ (j : Int) < (l.length : Int) := by omega
                have HJ2 : Hid (okP l 0 = true) := by show _ = _; rw [HJ.out, List.drop_eq_nil_of_le (by omega)]; rfl
                go_wp2_with fail
                go_ret
                exact ⟨by rw [HJ2.out]; rfl, rfl⟩
          · by_cases h1 : gt l k = 1
            · have HK2 : Hid (okP l 0 = okP l (k + 1)) := by show _ = _; rw [HK.out, ok_one hlt h1]
              rw [h1] at c0
              go_wp2_with fail
              go_roundw
              case rel => exact ⟨k + 1, by omega, by go_num, HK2, by trivial⟩
              case measure => simp [intOf]; omega
            · by_cases hk1 : k + 1 < l.length
              · have hk1' : ¬ (l.length : Int) ≤ (k : Int) + 1 := by omega
                have hk2' : (k : Int) + 1 < (l.length : Int) := by omega
                obtain ⟨b', off', he, c1⟩ := HR.out.at (k + 1) hk1
                simp only [Option.some.injEq, Addr.mk.injEq, and_true] at he
                obtain ⟨rfl, rfl⟩ := he
                have y0 := gt_bd hlb (k + 1)
                have HS := Lib.hid (ok_sized hk1 hz h1)
                generalize gt l k = x at *
                generalize gt l (k + 1) = y at *
                have i2 : ((k : Int) + 1).toNat = k + 1 := by omega
                by_cases hy2 : 2 ≤ y
                · have hy2' : ¬ y < 2 := by omega
                  by_cases hyl : k + y.toNat ≤ l.length
                  · have hyl' : ¬ (l.length : Int) < (k : Int) + y := by omega
                    have HK2 : Hid (okP l 0 = okP l (k + y.toNat)) := by show _ = _; rw [HK.out, HS.out, if_pos ⟨hy2, hyl⟩]
                    go_wp2_with fail
                    go_roundw
                    case rel => exact ⟨k + y.toNat, by omega, by go_num, HK2, by trivial⟩
                    case measure => simp [intOf]; omega
                  · have hyl' : (l.length : Int) < (k : Int) + y := by omega
                    have HK2 : Hid (okP l 0 = false) := by show _ = _; rw [HK.out, HS.out, if_neg (by omega)]
                    go_wp2_with fail
                    go_ret
                    exact ⟨by rw [HK2.out]; rfl, rfl⟩
                · have hy2' : y < 2 := by omega
                  have HK2 : Hid (okP l 0 = false) := by show _ = _; rw [HK.out, HS.out, if_neg (by omega)]
                  go_wp2_with fail
                  go_ret
                  exact ⟨by rw [HK2.out]; rfl, rfl⟩
              · have hk1' : (l.length : Int) ≤ (k : Int) + 1 := by omega
                have HK2 : Hid (okP l 0 = false) := by show _ = _; rw [HK.out, ok_lone hlt hz h1 (by omega)]
                generalize gt l k = x at *
                go_wp2_with fail
                go_ret
                exact ⟨by rw [HK2.out]; rfl, rfl⟩
        · have hlt' : ¬ (k : Int) < (l.length : Int) := by omega
          have HK2 : Hid (okP l 0 = true) := by show _ = _; rw [HK.out, ok_end (by omega)]
          go_wp2_with fail
          go_ret
          exact ⟨by rw [HK2.out]; rfl, rfl⟩
    · obtain rfl : V = false := by rw [HV.out]; simp [h40]
      have g4 : (l.length : Int) % 4 = 0 := by omega
      have g40 : (40 : Int) < (l.length : Int) := by omega
      go_enter Tryz.func58, Tryz.ntmps58
      go_wp2_with fail
      go_ret
      exact ⟨rfl, rfl⟩
  · obtain rfl : V = false := by rw [HV.out]; simp [h4]
    have g4 : ¬ (l.length : Int) % 4 = 0 := by omega
    go_enter Tryz.func58, Tryz.ntmps58
    go_wp2_with fail
    go_ret
    exact ⟨rfl, rfl⟩
#print axioms ropts_c
end Go.Proofs.YtaicckenpplceaaGreatDoor
