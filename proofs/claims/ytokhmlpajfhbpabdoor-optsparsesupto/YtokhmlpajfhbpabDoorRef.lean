/-
  The document's zeros, first, Parse.
-/
import Derived.Test.YtokhmlpajfhbpabDoorRBuild
import Derived.Deep.RegionLaw
namespace Go.Proofs.YtokhmlpajfhbpabDoor
open Go.ChangeShapes Go.WideShapes Go.ChangeAt Go.RowKit Go.Deep
set_option linter.unusedVariables false
set_option maxRecDepth 100000

set_option maxHeartbeats 400000 in
theorem rzeros_c (a : Option Addr) (l : List Int) (n cap : Nat) (w : World) (hn : l.length = n) (hr : Row w a l) :
    Calls Tryd.prog 20 #[.slice a n cap] w fun E w' => E = .returned (.bool (zerosP l)) ∧ w' = w := by
  subst hn
  have hlen := hr.1
  have hlb := hr.2.1
  go_enter Tryd.func20, Tryd.ntmps20
  go_wp2_with fail
  go_loopw [3] (fun i wr => ∃ k : Nat, k ≤ l.length ∧ i = .int .i64 k ∧ wr = w ∧ zerosP l = zerosP (l.drop k)) (fun i _ => l.length - (intOf i).toNat)
  case atStart => exact ⟨0, by omega, rfl, rfl, rfl⟩
  case round =>
    obtain ⟨k, hk, rfl, rfl, hz⟩ := hrel
    by_cases hlt : k < l.length
    · obtain ⟨b, off, rfl, c0⟩ := cells_row hr hlt
      have HZ : Hid (zerosP l = ((l[k]?.getD 0 == 0) && zerosP (l.drop (k + 1)))) := by
        show _ = _
        rw [hz, List.drop_eq_getElem_cons hlt, zerosP_cons, List.getElem?_eq_getElem hlt]; rfl
      generalize l[k]?.getD 0 = x at *
      clear hz
      by_cases hx : x = 0
      · subst hx
        go_wp2_with fail
        go_roundw
        case rel => exact ⟨k + 1, by omega, by go_num, by trivial, by simpa using HZ.out⟩
        case measure => simp [intOf]; omega
      · go_wp2_with fail
        go_ret
        refine ⟨?_, rfl⟩
        rw [HZ.out]; simp [hx]
    · go_wp2_with fail
      go_ret
      refine ⟨?_, rfl⟩
      rw [hz, List.drop_eq_nil_of_le (by omega)]; rfl

def firstP : List Int → Int
  | [] => 0
  | k :: r => if k = 0 then (if zerosP (k :: r) = true then 0 else -1) else if k = 1 then 1 else match r with
    | [] => -1
    | y :: s => if 2 ≤ y ∧ y.toNat ≤ s.length + 2 then y else -1
set_option maxHeartbeats 1000000 in
theorem first_c (a : Option Addr) (l : List Int) (n cap : Nat) (w : World) (hn : l.length = n) (hr : Row w a l) :
    Calls Tryd.prog 17 #[.slice a n cap] w fun E w' => E = .returned (.int .i64 (firstP l)) ∧ w' = w := by
  subst hn
  have hlen := hr.1
  have HR : Hid (Row w a l) := hr
  match l, hlen, HR with
  | [], hlen, HR =>
    go_enter Tryd.func17, Tryd.ntmps17
    go_wp2_with fail
    go_ret
    exact ⟨rfl, rfl⟩
  | k :: r, hlen, HR =>
    obtain ⟨b, off, rfl, c0⟩ := cells_row HR.out (k := 0) (by simp)
    have c0 : w.cell? ⟨b, off, none⟩ = some (.int .u8 k) := by simpa using c0
    have hk := HR.out.2.1.head
    simp only [List.length_cons] at hlen ⊢
    clear hr
    by_cases h0 : k = 0
    · subst h0
      have HF : Hid (firstP (0 :: r) = if zerosP (0 :: r) = true then 0 else -1) := by show _ = _; simp [firstP]
      generalize firstP (0 :: r) = f at *
      go_enter Tryd.func17, Tryd.ntmps17
      go_wp2_with fail
      refine (rzeros_c _ (0 :: r) _ _ _ (by simp) (by exact HR.out)).mono ?_
      rintro E w' ⟨rfl, rfl⟩
      generalize zerosP (0 :: r) = z at *
      cases z
      · go_wp2_with fail
        go_ret
        exact ⟨by rw [HF.out]; rfl, rfl⟩
      · go_wp2_with fail
        go_ret
        exact ⟨by rw [HF.out]; rfl, rfl⟩
    · by_cases h1 : k = 1
      · subst h1
        have HF : Hid (firstP (1 :: r) = 1) := by show _ = _; simp [firstP]
        generalize firstP (1 :: r) = f at *
        go_enter Tryd.func17, Tryd.ntmps17
        go_wp2_with fail
        go_ret
        exact ⟨by rw [HF.out]; rfl, rfl⟩
      · match r, hlen, HR with
        | [], hlen, HR =>
          have HF : Hid (firstP [k] = -1) := by show _ = _; simp [firstP, h0, h1]
          generalize firstP [k] = f at *
          go_enter Tryd.func17, Tryd.ntmps17
          go_wp2_with fail
          go_ret
          exact ⟨by rw [HF.out]; rfl, rfl⟩
        | y :: s, hlen, HR =>
          obtain ⟨b', off', e, c1⟩ := cells_row HR.out (k := 1) (by simp)
          simp only [Option.some.injEq, Addr.mk.injEq, and_true] at e
          obtain ⟨rfl, rfl⟩ := e
          have c1 : w.cell? ⟨b, off + 1, none⟩ = some (.int .u8 y) := by simpa using c1
          have hy := HR.out.2.1.tail.head
          simp only [List.length_cons] at hlen ⊢
          have HF : Hid (firstP (k :: y :: s) = if 2 ≤ y ∧ y.toNat ≤ s.length + 2 then y else -1) := by show _ = _; simp [firstP, h0, h1]
          generalize firstP (k :: y :: s) = f at *
          by_cases h2 : y < 2
          · have h3 : ¬ (2 ≤ y ∧ y.toNat ≤ s.length + 2) := by omega
            have HF2 : Hid (f = -1) := by show _ = _; rw [HF.out, if_neg h3]
            clear HF h3
            go_enter Tryd.func17, Tryd.ntmps17
            go_wp2_with fail
            go_ret
            exact ⟨by rw [HF2.out]; rfl, rfl⟩
          · by_cases h3 : (s.length : Int) + 1 + 1 < y
            · have h4 : ¬ (2 ≤ y ∧ y.toNat ≤ s.length + 2) := by omega
              have HF2 : Hid (f = -1) := by show _ = _; rw [HF.out, if_neg h4]
              clear HF h4
              go_enter Tryd.func17, Tryd.ntmps17
              go_wp2_with fail
              go_ret
              exact ⟨by rw [HF2.out]; rfl, rfl⟩
            · have h4 : 2 ≤ y ∧ y.toNat ≤ s.length + 2 := by omega
              have HF2 : Hid (f = y) := by show _ = _; rw [HF.out, if_pos h4]
              clear HF h4
              go_enter Tryd.func17, Tryd.ntmps17
              go_wp2_with fail
              go_ret
              exact ⟨by rw [HF2.out]; rfl, rfl⟩
#print axioms first_c
end Go.Proofs.YtokhmlpajfhbpabDoor
