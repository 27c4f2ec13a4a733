/-
  Has, Meets, Size, Holes.
-/
import Derived.Test.YtkccpidgeecemaaGreatDoorHFn3
namespace Go.Proofs.YtkccpidgeecemaaGreatDoor.H
open Go.ChangeShapes Go.WideShapes Go.ChangeAt Go.RowKit
set_option linter.unusedVariables false

theorem drop_at {l : List Sp} {k : Nat} {x : Sp} (h : l[k]? = some x) : l.drop k = x :: l.drop (k + 1) := by
  have hk := get_lt h
  rw [List.drop_eq_getElem_cons hk]
  rw [List.getElem?_eq_getElem hk] at h
  simp at h; rw [h]
set_option maxHeartbeats 4000000 in
theorem has_c (a : Option Addr) (l : List Sp) (s : Sp) (n cap : Nat) (w : World) (hn : l.length = n) (hr : Row w a l) :
    Calls Tryz.prog 96 #[.slice a n cap, valS s] w fun E w' => E = .returned (.bool (rightP l && isB s && hasP l s)) ∧ Away [] w w' := by
  subst hn
  have hlen := hr.1
  have HR : Hid (Row w a l) := hr
  clear hr
  obtain ⟨s1, s2⟩ := s
  simp only [valS]
  obtain ⟨z, hz⟩ : ∃ z, z = (rightP l && isB (s1, s2) && hasP l (s1, s2)) := ⟨_, rfl⟩
  rw [← hz]
  have HZ : Hid (z = (rightP l && isB (s1, s2) && hasP l (s1, s2))) := hz
  clear hz
  cases hb : rightP l
  · go_enter Tryz.func96, Tryz.ntmps96
    go_wp2_with fail
    refine (right_c a l _ _ _ rfl (by exact HR.out.on ((Away.refl [] w).alloc _))).mono ?_
    rintro E w2 ⟨rfl, haw2⟩
    rw [hb]
    have haw3 : Away [] w w2 := ((Away.refl [] w).alloc _).trans haw2
    clear haw2
    go_wp2_with fail
    go_ret
    exact ⟨by rw [HZ.out, hb]; rfl, haw3⟩
  · go_enter Tryz.func96, Tryz.ntmps96
    go_wp2_with fail
    refine (right_c a l _ _ _ rfl (by exact HR.out.on ((Away.refl [] w).alloc _))).mono ?_
    rintro E w2 ⟨rfl, haw2⟩
    rw [hb]
    have k1 : w2.cell? ⟨w.heap.size, 0, none⟩ = some (.int .i64 s1) := haw2.cell (by simp) (by simp)
    have k2 : w2.cell? ⟨w.heap.size, 1, none⟩ = some (.int .i64 s2) := haw2.cell (by simp) (by simp)
    have haw3 : Away [] w w2 := ((Away.refl [] w).alloc _).trans haw2
    clear haw2
    go_wp2_with fail
    refine (isSpan_c (s1, s2) _).mono ?_
    rintro E w1 ⟨rfl, haw4⟩
    have K1 := haw4.cell (by simp) k1
    have K2 := haw4.cell (by simp) k2
    have haw : Away [] w w1 := haw3.trans haw4
    clear haw3 haw4 k1 k2
    cases hs : isB (s1, s2)
    · go_wp2_with fail
      go_ret
      exact ⟨by rw [HZ.out, hb, hs]; rfl, haw⟩
    · have HZ2 : Hid (z = hasP l (s1, s2)) := by show _ = _; rw [HZ.out, hb, hs]; rfl
      clear HZ
      go_wp2_with fail
      go_loopw [17] (fun i wr => ∃ k : Nat, k ≤ l.length ∧ i = .int .i64 k ∧ Away [] w1 wr ∧ hasP l (s1, s2) = hasP (l.drop k) (s1, s2)) (fun i _ => l.length - (intOf i).toNat)
      case atStart => exact ⟨0, by omega, rfl, Away.refl _ _, rfl⟩
      case round =>
        obtain ⟨k, hk, rfl, hm, hq⟩ := hrel
        have HQ : Hid (hasP l (s1, s2) = hasP (l.drop k) (s1, s2)) := hq
        clear hq
        have q1 := hm.cell (by simp) K1
        have q2 := hm.cell (by simp) K2
        by_cases hlt : k < l.length
        · obtain ⟨x, hx, _⟩ := get_of hlt
          obtain ⟨b, off, rfl, c1, c2, -⟩ := ((HR.out.on haw).on hm).at hx
          obtain ⟨x1, x2⟩ := x
          simp only at c1 c2
          have q3 : (wr.alloc (.cells #[.int .i64 x1, .int .i64 x2] 112)).cell? ⟨w.heap.size, 0, none⟩ = some (.int .i64 s1) := ((Away.refl [] wr).alloc _).cell (by simp) q1
          have q4 : (wr.alloc (.cells #[.int .i64 x1, .int .i64 x2] 112)).cell? ⟨w.heap.size, 1, none⟩ = some (.int .i64 s2) := ((Away.refl [] wr).alloc _).cell (by simp) q2
          clear q1 q2
          have HA : Hid (hasP (l.drop k) (s1, s2) = (decide (x1 ≤ s1 ∧ s2 ≤ x2) || hasP (l.drop (k + 1)) (s1, s2))) := by show _ = _; rw [drop_at hx]; rfl
          clear hx
          by_cases h1 : x1 ≤ s1
          · by_cases h2 : s2 ≤ x2
            · have HS : Hid (decide (x1 ≤ s1 ∧ s2 ≤ x2) = true) := by show _ = _; simp; omega
              go_wp2_with fail
              go_ret
              exact ⟨by rw [HZ2.out, HQ.out, HA.out, HS.out]; rfl, (haw.trans hm).alloc _⟩
            · have HS : Hid (decide (x1 ≤ s1 ∧ s2 ≤ x2) = false) := by show _ = _; simp; omega
              go_wp2_with fail
              go_roundw
              case rel => exact ⟨k + 1, by omega, by go_num, hm.alloc _, by rw [HQ.out, HA.out, HS.out]; rfl⟩
              case measure => simp [intOf]; omega
          · have HS : Hid (decide (x1 ≤ s1 ∧ s2 ≤ x2) = false) := by show _ = _; simp; omega
            go_wp2_with fail
            go_roundw
            case rel => exact ⟨k + 1, by omega, by go_num, hm.alloc _, by rw [HQ.out, HA.out, HS.out]; rfl⟩
            case measure => simp [intOf]; omega
        · go_wp2_with fail
          go_ret
          exact ⟨by rw [HZ2.out, HQ.out, List.drop_eq_nil_of_le (by omega)]; rfl, haw.trans hm⟩
theorem len_snoc {l : List Sp} {k : Nat} {x : Sp} (h : l[k]? = some x) : lenP (l.take (k + 1)) = lenP (l.take k) + (x.2 - x.1) := by
  rw [take_snoc h]; unfold lenP; simp
theorem len_bound : ∀ (l : List Sp), (∀ s ∈ l, Is s) → 0 ≤ lenP l ∧ lenP l ≤ 65535 * l.length
  | [], h => by simp [lenP]
  | x :: r, h => by
    have h1 := h x (by simp)
    have h2 := len_bound r (fun s hs => h s (by simp [hs]))
    unfold Is at h1
    have e : lenP (x :: r) = x.2 - x.1 + lenP r := by simp [lenP]
    rw [e, List.length_cons]
    push_cast
    omega
end Go.Proofs.YtkccpidgeecemaaGreatDoor.H
