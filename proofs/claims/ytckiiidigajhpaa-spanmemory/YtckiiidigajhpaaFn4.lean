/-
  Has, Meets, Size, Holes.
-/
import Derived.Test.YtckiiidigajhpaaFn3
namespace Go.Proofs.Ytckiiidigajhpaa
open Go.ChangeShapes Go.WideShapes Go.ChangeAt Go.RowKit
set_option linter.unusedVariables false

set_option maxHeartbeats 4000000 in
theorem has_c (a : Option Addr) (l : List Sp) (s : Sp) (n cap : Nat) (w : World) (hn : l.length = n) (hr : Row w a l) :
    Calls Try.prog 16 #[.slice a n cap, valS s] w fun E w' => E = .returned (.bool (rightP l && isB s && hasP l s)) ∧ Away [] w w' := by
  subst hn
  have hlen := hr.1
  have HR : Hid (Row w a l) := hr
  clear hr
  obtain ⟨s1, s2⟩ := s
  simp only [valS]
  obtain ⟨z, hz⟩ : ∃ z, z = (rightP l && isB (s1, s2) && hasP l (s1, s2)) := ⟨_, rfl⟩
  rw [← hz]
  have HZ : Hid (z = (rightP l && isB (s1, s2) && hasP l (s1, s2))) := hz
  clear hz
  cases hb : rightP l
  · go_enter Try.func16, Try.ntmps16
    go_wp2_with fail
    refine (right_c a l _ _ _ rfl (by exact HR.out.on ((Away.refl [] w).alloc _))).mono ?_
    rintro E w2 ⟨rfl, haw2⟩
    rw [hb]
    have haw3 : Away [] w w2 := ((Away.refl [] w).alloc _).trans haw2
    clear haw2
    go_wp2_with fail
    go_ret
    exact ⟨by rw [HZ.out, hb]; rfl, haw3⟩
  · go_enter Try.func16, Try.ntmps16
    go_wp2_with fail
    refine (right_c a l _ _ _ rfl (by exact HR.out.on ((Away.refl [] w).alloc _))).mono ?_
    rintro E w2 ⟨rfl, haw2⟩
    rw [hb]
    have k1 : w2.cell? ⟨w.heap.size, 0, none⟩ = some (.int .i64 s1) := haw2.cell (by simp) (by simp)
    have k2 : w2.cell? ⟨w.heap.size, 1, none⟩ = some (.int .i64 s2) := haw2.cell (by simp) (by simp)
    have haw3 : Away [] w w2 := ((Away.refl [] w).alloc _).trans haw2
    clear haw2
    go_wp2_with fail
    refine (isSpan_c (s1, s2) _).mono ?_
    rintro E w1 ⟨rfl, haw4⟩
    have K1 := haw4.cell (by simp) k1
    have K2 := haw4.cell (by simp) k2
    have haw : Away [] w w1 := haw3.trans haw4
    clear haw3 haw4 k1 k2
    cases hs : isB (s1, s2)
    · go_wp2_with fail
      go_ret
      exact ⟨by rw [HZ.out, hb, hs]; rfl, haw⟩
    · have HZ2 : Hid (z = hasP l (s1, s2)) := by show _ = _; rw [HZ.out, hb, hs]; rfl
      clear HZ
      go_wp2_with fail
      go_loopw [17] (fun i wr => ∃ k : Nat, k ≤ l.length ∧ i = .int .i64 k ∧ Away [] w1 wr ∧ hasP l (s1, s2) = hasP (l.drop k) (s1, s2)) (fun i _ => l.length - (intOf i).toNat)
      case atStart => exact ⟨0, by omega, rfl, Away.refl _ _, rfl⟩
      case round =>
        obtain ⟨k, hk, rfl, hm, hq⟩ := hrel
        have HQ : Hid (hasP l (s1, s2) = hasP (l.drop k) (s1, s2)) := hq
        clear hq
        have q1 := hm.cell (by simp) K1
        have q2 := hm.cell (by simp) K2
        by_cases hlt : k < l.length
        · obtain ⟨x, hx, _⟩ := get_of hlt
          obtain ⟨b, off, rfl, c1, c2, -⟩ := ((HR.out.on haw).on hm).at hx
          obtain ⟨x1, x2⟩ := x
          simp only at c1 c2
          have q3 : (wr.alloc (.cells #[.int .i64 x1, .int .i64 x2] 29)).cell? ⟨w.heap.size, 0, none⟩ = some (.int .i64 s1) := ((Away.refl [] wr).alloc _).cell (by simp) q1
          have q4 : (wr.alloc (.cells #[.int .i64 x1, .int .i64 x2] 29)).cell? ⟨w.heap.size, 1, none⟩ = some (.int .i64 s2) := ((Away.refl [] wr).alloc _).cell (by simp) q2
          clear q1 q2
          have HA : Hid (hasP (l.drop k) (s1, s2) = (decide (x1 ≤ s1 ∧ s2 ≤ x2) || hasP (l.drop (k + 1)) (s1, s2))) := by show _ = _; rw [drop_at hx]; rfl
          clear hx
          by_cases h1 : x1 ≤ s1
          · by_cases h2 : s2 ≤ x2
            · have HS : Hid (decide (x1 ≤ s1 ∧ s2 ≤ x2) = true) := by show _ = _; simp; omega
              go_wp2_with fail
              go_ret
              exact ⟨by rw [HZ2.out, HQ.out, HA.out, HS.out]; rfl, (haw.trans hm).alloc _⟩
            · have HS : Hid (decide (x1 ≤ s1 ∧ s2 ≤ x2) = false) := by show _ = _; simp; omega
              go_wp2_with fail
              go_roundw
              case rel => exact ⟨k + 1, by omega, by go_num, hm.alloc _, by rw [HQ.out, HA.out, HS.out]; rfl⟩
              case measure => simp [intOf]; omega
          · have HS : Hid (decide (x1 ≤ s1 ∧ s2 ≤ x2) = false) := by show _ = _; simp; omega
            go_wp2_with fail
            go_roundw
            case rel => exact ⟨k + 1, by omega, by go_num, hm.alloc _, by rw [HQ.out, HA.out, HS.out]; rfl⟩
            case measure => simp [intOf]; omega
        · go_wp2_with fail
          go_ret
          exact ⟨by rw [HZ2.out, HQ.out, List.drop_eq_nil_of_le (by omega)]; rfl, haw.trans hm⟩
set_option maxHeartbeats 4000000 in
theorem meets_c (a : Option Addr) (l : List Sp) (s : Sp) (n cap : Nat) (w : World) (hn : l.length = n) (hr : Row w a l) :
    Calls Try.prog 17 #[.slice a n cap, valS s] w fun E w' => E = .returned (.bool (rightP l && isB s && meetsP l s)) ∧ Away [] w w' := by
  subst hn
  have hlen := hr.1
  have HR : Hid (Row w a l) := hr
  clear hr
  obtain ⟨s1, s2⟩ := s
  simp only [valS]
  obtain ⟨z, hz⟩ : ∃ z, z = (rightP l && isB (s1, s2) && meetsP l (s1, s2)) := ⟨_, rfl⟩
  rw [← hz]
  have HZ : Hid (z = (rightP l && isB (s1, s2) && meetsP l (s1, s2))) := hz
  clear hz
  cases hb : rightP l
  · go_enter Try.func17, Try.ntmps17
    go_wp2_with fail
    refine (right_c a l _ _ _ rfl (by exact HR.out.on ((Away.refl [] w).alloc _))).mono ?_
    rintro E w2 ⟨rfl, haw2⟩
    rw [hb]
    have haw3 : Away [] w w2 := ((Away.refl [] w).alloc _).trans haw2
    clear haw2
    go_wp2_with fail
    go_ret
    exact ⟨by rw [HZ.out, hb]; rfl, haw3⟩
  · go_enter Try.func17, Try.ntmps17
    go_wp2_with fail
    refine (right_c a l _ _ _ rfl (by exact HR.out.on ((Away.refl [] w).alloc _))).mono ?_
    rintro E w2 ⟨rfl, haw2⟩
    rw [hb]
    have k1 : w2.cell? ⟨w.heap.size, 0, none⟩ = some (.int .i64 s1) := haw2.cell (by simp) (by simp)
    have k2 : w2.cell? ⟨w.heap.size, 1, none⟩ = some (.int .i64 s2) := haw2.cell (by simp) (by simp)
    have haw3 : Away [] w w2 := ((Away.refl [] w).alloc _).trans haw2
    clear haw2
    go_wp2_with fail
    refine (isSpan_c (s1, s2) _).mono ?_
    rintro E w1 ⟨rfl, haw4⟩
    have K1 := haw4.cell (by simp) k1
    have K2 := haw4.cell (by simp) k2
    have haw : Away [] w w1 := haw3.trans haw4
    clear haw3 haw4 k1 k2
    cases hs : isB (s1, s2)
    · go_wp2_with fail
      go_ret
      exact ⟨by rw [HZ.out, hb, hs]; rfl, haw⟩
    · have HZ2 : Hid (z = meetsP l (s1, s2)) := by show _ = _; rw [HZ.out, hb, hs]; rfl
      clear HZ
      go_wp2_with fail
      go_loopw [17] (fun i wr => ∃ k : Nat, k ≤ l.length ∧ i = .int .i64 k ∧ Away [] w1 wr ∧ meetsP l (s1, s2) = meetsP (l.drop k) (s1, s2)) (fun i _ => l.length - (intOf i).toNat)
      case atStart => exact ⟨0, by omega, rfl, Away.refl _ _, rfl⟩
      case round =>
        obtain ⟨k, hk, rfl, hm, hq⟩ := hrel
        have HQ : Hid (meetsP l (s1, s2) = meetsP (l.drop k) (s1, s2)) := hq
        clear hq
        have q1 := hm.cell (by simp) K1
        have q2 := hm.cell (by simp) K2
        by_cases hlt : k < l.length
        · obtain ⟨x, hx, _⟩ := get_of hlt
          obtain ⟨b, off, rfl, c1, c2, -⟩ := ((HR.out.on haw).on hm).at hx
          obtain ⟨x1, x2⟩ := x
          simp only at c1 c2
          have q3 : (wr.alloc (.cells #[.int .i64 x1, .int .i64 x2] 29)).cell? ⟨w.heap.size, 0, none⟩ = some (.int .i64 s1) := ((Away.refl [] wr).alloc _).cell (by simp) q1
          have q4 : (wr.alloc (.cells #[.int .i64 x1, .int .i64 x2] 29)).cell? ⟨w.heap.size, 1, none⟩ = some (.int .i64 s2) := ((Away.refl [] wr).alloc _).cell (by simp) q2
          clear q1 q2
          have HA : Hid (meetsP (l.drop k) (s1, s2) = (decide (max x1 s1 < min x2 s2) || meetsP (l.drop (k + 1)) (s1, s2))) := by show _ = _; rw [drop_at hx]; rfl
          clear hx
          rcases (show (min x2 s2 = x2 ∧ x2 ≤ s2) ∨ (min x2 s2 = s2 ∧ s2 < x2) by omega) with ⟨e1, o1⟩ | ⟨e1, o1⟩
          · rcases (show (max x1 s1 = x1 ∧ s1 ≤ x1) ∨ (max x1 s1 = s1 ∧ x1 < s1) by omega) with ⟨e2, o2⟩ | ⟨e2, o2⟩
            · by_cases h1 : x1 < x2
              · have HS : Hid (decide (max x1 s1 < min x2 s2) = true) := by show _ = _; rw [e1, e2]; simp; omega
                go_wp2_with fail
                go_ret
                exact ⟨by rw [HZ2.out, HQ.out, HA.out, HS.out]; rfl, (haw.trans hm).alloc _⟩
              · have HS : Hid (decide (max x1 s1 < min x2 s2) = false) := by show _ = _; rw [e1, e2]; simp; omega
                go_wp2_with fail
                go_roundw
                case rel => exact ⟨k + 1, by omega, by go_num, hm.alloc _, by rw [HQ.out, HA.out, HS.out]; rfl⟩
                case measure => simp [intOf]; omega
            · by_cases h1 : s1 < x2
              · have HS : Hid (decide (max x1 s1 < min x2 s2) = true) := by show _ = _; rw [e1, e2]; simp; omega
                go_wp2_with fail
                go_ret
                exact ⟨by rw [HZ2.out, HQ.out, HA.out, HS.out]; rfl, (haw.trans hm).alloc _⟩
              · have HS : Hid (decide (max x1 s1 < min x2 s2) = false) := by show _ = _; rw [e1, e2]; simp; omega
                go_wp2_with fail
                go_roundw
                case rel => exact ⟨k + 1, by omega, by go_num, hm.alloc _, by rw [HQ.out, HA.out, HS.out]; rfl⟩
                case measure => simp [intOf]; omega
          · rcases (show (max x1 s1 = x1 ∧ s1 ≤ x1) ∨ (max x1 s1 = s1 ∧ x1 < s1) by omega) with ⟨e2, o2⟩ | ⟨e2, o2⟩
            · by_cases h1 : x1 < s2
              · have HS : Hid (decide (max x1 s1 < min x2 s2) = true) := by show _ = _; rw [e1, e2]; simp; omega
                go_wp2_with fail
                go_ret
                exact ⟨by rw [HZ2.out, HQ.out, HA.out, HS.out]; rfl, (haw.trans hm).alloc _⟩
              · have HS : Hid (decide (max x1 s1 < min x2 s2) = false) := by show _ = _; rw [e1, e2]; simp; omega
                go_wp2_with fail
                go_roundw
                case rel => exact ⟨k + 1, by omega, by go_num, hm.alloc _, by rw [HQ.out, HA.out, HS.out]; rfl⟩
                case measure => simp [intOf]; omega
            · by_cases h1 : s1 < s2
              · have HS : Hid (decide (max x1 s1 < min x2 s2) = true) := by show _ = _; rw [e1, e2]; simp; omega
                go_wp2_with fail
                go_ret
                exact ⟨by rw [HZ2.out, HQ.out, HA.out, HS.out]; rfl, (haw.trans hm).alloc _⟩
              · have HS : Hid (decide (max x1 s1 < min x2 s2) = false) := by show _ = _; rw [e1, e2]; simp; omega
                go_wp2_with fail
                go_roundw
                case rel => exact ⟨k + 1, by omega, by go_num, hm.alloc _, by rw [HQ.out, HA.out, HS.out]; rfl⟩
                case measure => simp [intOf]; omega
        · go_wp2_with fail
          go_ret
          exact ⟨by rw [HZ2.out, HQ.out, List.drop_eq_nil_of_le (by omega)]; rfl, haw.trans hm⟩
theorem len_snoc {l : List Sp} {k : Nat} {x : Sp} (h : l[k]? = some x) : lenP (l.take (k + 1)) = lenP (l.take k) + (x.2 - x.1) := by
  rw [take_snoc h]; unfold lenP; simp
theorem len_bound : ∀ (l : List Sp), (∀ s ∈ l, Is s) → 0 ≤ lenP l ∧ lenP l ≤ 65535 * l.length
  | [], h => by simp [lenP]
  | x :: r, h => by
    have h1 := h x (by simp)
    have h2 := len_bound r (fun s hs => h s (by simp [hs]))
    unfold Is at h1
    have e : lenP (x :: r) = x.2 - x.1 + lenP r := by simp [lenP]
    rw [e, List.length_cons]
    push_cast
    omega
set_option maxHeartbeats 4000000 in
theorem size_c (a : Option Addr) (l : List Sp) (n cap : Nat) (w : World) (hn : l.length = n) (hr : Row w a l) :
    Calls Try.prog 18 #[.slice a n cap] w fun E w' => E = .returned (.int .i64 (sizeP l)) ∧ Away [] w w' := by
  subst hn
  have hlen := hr.1
  have HR : Hid (Row w a l) := hr
  clear hr
  obtain ⟨z, hz⟩ : ∃ z, z = sizeP l := ⟨_, rfl⟩
  rw [← hz]
  have HZ : Hid (z = sizeP l) := hz
  clear hz
  cases hb : rightP l
  · go_enter Try.func18, Try.ntmps18
    go_wp2_with fail
    refine (right_c a l _ _ _ rfl (by exact HR.out)).mono ?_
    rintro E w2 ⟨rfl, haw2⟩
    rw [hb]
    go_wp2_with fail
    go_ret
    exact ⟨by rw [HZ.out]; unfold sizeP; rw [hb]; rfl, haw2⟩
  · have hshort := right_short hb
    have HI : Hid (∀ s ∈ l, Is s) := allIs_iff.1 (right_all hb)
    go_enter Try.func18, Try.ntmps18
    go_wp2_with fail
    refine (right_c a l _ _ _ rfl (by exact HR.out)).mono ?_
    rintro E w1 ⟨rfl, haw⟩
    rw [hb]
    have HZ2 : Hid (z = lenP l) := by show _ = _; rw [HZ.out]; unfold sizeP; rw [hb]; rfl
    clear HZ
    go_wp2_with fail
    go_loopw [3, 11] (fun c i wr => ∃ k : Nat, k ≤ l.length ∧ i = .int .i64 k ∧ Away [] w1 wr ∧ c = .int .i64 (lenP (l.take k))) (fun _ i _ => l.length - (intOf i).toNat)
    case atStart => exact ⟨0, by omega, rfl, Away.refl _ _, rfl⟩
    case round =>
      obtain ⟨k, hk, rfl, hm, rfl⟩ := hrel
      have hbd := len_bound (l.take k) (fun s hs => HI.out s (List.mem_of_mem_take hs))
      have hkl : (l.take k).length ≤ 32768 := by simp; omega
      have HE : Hid (k = l.length → lenP (l.take k) = lenP l) := fun e => by rw [List.take_of_length_le (by omega)]
      by_cases hlt : k < l.length
      · obtain ⟨x, hx, hxm⟩ := get_of hlt
        obtain ⟨b, off, rfl, c1, c2, -⟩ := ((HR.out.on haw).on hm).at hx
        have hi := HI.out x hxm
        have HT : Hid (lenP (l.take (k + 1)) = lenP (l.take k) + (x.2 - x.1)) := len_snoc hx
        obtain ⟨x1, x2⟩ := x
        unfold Is at hi
        simp only at c1 c2 HT hi
        clear hx hxm
        have b1 : 0 ≤ lenP (l.take k) := hbd.1
        have b2 : lenP (l.take k) ≤ 2147450880 := by omega
        clear hbd hkl
        generalize lenP (l.take k) = c at *
        obtain ⟨i1, i2, i3⟩ := hi
        go_wp2_with fail
        go_roundw
        case rel => exact ⟨k + 1, by omega, by go_num, hm.alloc _, by rw [HT.out]⟩
        case measure => simp [intOf]; omega
      · clear hbd hkl
        go_wp2_with fail
        go_ret
        exact ⟨by rw [HZ2.out, ← HE.out (by omega)]; rfl, haw.trans hm⟩
theorem holes_at {l : List Sp} {k : Nat} {x : Sp} (to f : Int) (h : l[k]? = some x) : holesR to f (l.drop k) = putP f (min x.1 to) ++ holesR to x.2 (l.drop (k + 1)) := by
  rw [drop_at h]; rfl
set_option maxHeartbeats 4000000 in
theorem holes_c (a : Option Addr) (l : List Sp) (to : Int) (n cap : Nat) (w : World) (hn : l.length = n) (hr : Row w a l) :
    Calls Try.prog 15 #[.slice a n cap, .int .i64 to] w fun E w' => Ans w (rightP l && decide (0 ≤ to ∧ to ≤ 65535)) (holesP l to) E w' := by
  subst hn
  have hlen := hr.1
  have HR : Hid (Row w a l) := hr
  clear hr
  cases hb : rightP l
  · go_enter Try.func15, Try.ntmps15
    go_wp2_with fail
    refine (right_c a l _ _ _ rfl (by exact HR.out)).mono ?_
    rintro E w2 ⟨rfl, haw2⟩
    rw [hb]
    go_wp2_with fail
    go_ret2
    exact Ans.no haw2
  · have hshort := right_short hb
    by_cases h0 : to < 0
    · go_enter Try.func15, Try.ntmps15
      go_wp2_with fail
      refine (right_c a l _ _ _ rfl (by exact HR.out)).mono ?_
      rintro E w2 ⟨rfl, haw2⟩
      rw [hb]
      go_wp2_with fail
      go_ret2
      exact (show Ans w (true && decide (0 ≤ to ∧ to ≤ 65535)) _ _ _ by rw [decide_eq_false (by omega)]; exact Ans.no haw2)
    · by_cases h1 : 65535 < to
      · go_enter Try.func15, Try.ntmps15
        go_wp2_with fail
        refine (right_c a l _ _ _ rfl (by exact HR.out)).mono ?_
        rintro E w2 ⟨rfl, haw2⟩
        rw [hb]
        go_wp2_with fail
        go_ret2
        exact (show Ans w (true && decide (0 ≤ to ∧ to ≤ 65535)) _ _ _ by rw [decide_eq_false (by omega)]; exact Ans.no haw2)
      · rw [decide_eq_true (show 0 ≤ to ∧ to ≤ 65535 by omega)]
        go_enter Try.func15, Try.ntmps15
        go_wp2_with fail
        refine (right_c a l _ _ _ rfl (by exact HR.out)).mono ?_
        rintro E w1 ⟨rfl, haw⟩
        rw [hb]
        go_wp2_with fail
        go_loopw [6, 7, 23] (fun v f i wr => ∃ (k : Nat) (fr : Int) (m : List Sp), k ≤ l.length ∧ i = .int .i64 k ∧ f = .int .i64 fr ∧ Mk w1 wr v m ∧ m.length ≤ k ∧ holesP l to = m ++ holesR to fr (l.drop k)) (fun _ _ i _ => l.length - (intOf i).toNat)
        case atStart => exact ⟨0, 0, [], by omega, rfl, rfl, Mk.nil _, by simp, rfl⟩
        case round =>
          obtain ⟨k, fr, m, hk, rfl, rfl, hm, hml, hq⟩ := hrel
          have HQ : Hid (holesP l to = m ++ holesR to fr (l.drop k)) := hq
          have HM : Hid (Mk w1 wr u6 m) := hm
          clear hq
          by_cases hlt : k < l.length
          · obtain ⟨x, hx, _⟩ := get_of hlt
            obtain ⟨b, off, rfl, c1, c2, -⟩ := ((HR.out.on haw).on hm.2.2).at hx
            have HA : Hid (holesR to fr (l.drop k) = putP fr (min x.1 to) ++ holesR to x.2 (l.drop (k + 1))) := holes_at to fr hx
            clear hx hm
            obtain ⟨x1, x2⟩ := x
            simp only at c1 c2 HA
            have HM0 : Hid (Mk w1 (wr.alloc (.cells #[.int .i64 x1, .int .i64 x2] 29)) u6 m) := HM.out.on ((Away.refl [] wr).alloc (.cells #[.int .i64 x1, .int .i64 x2] 29))
            have HB : Hid (∀ j, u6.ownBlock = some j → j < wr.heap.size) := fun j hj => HM.out.1.lt j hj
            have HL3 : Hid (∀ f t, (m ++ putP f t).length ≤ k + 1) := fun f t => by
              have h2 := putP_len f t
              rw [List.length_append]; omega
            rcases (show (min x1 to = x1 ∧ x1 ≤ to) ∨ (min x1 to = to ∧ to < x1) by omega) with ⟨e1, o1⟩ | ⟨e1, o1⟩
            · rw [e1] at HA
              go_wp2_with fail
              refine (put_c u6 m _ _ _ (by exact HM0.out.1) (by omega)).mono ?_
              rintro E w3 ⟨v3, rfl, hg3⟩
              have hne2 : wr.heap.size ∉ u6.ownBlock.toList := fun hx => by
                have h1 := HB.out wr.heap.size (by simpa using hx)
                omega
              have r4 : w3.cell? ⟨wr.heap.size, 1, none⟩ = some (.int .i64 x2) := hg3.2.2.cell hne2 (by simp)
              have HM3 := hidI (HM0.out.grew hg3)
              clear hg3 hne2
              go_wp2_with fail
              go_roundw
              case rel => exact ⟨k + 1, x2, _, by omega, by go_num, rfl, HM3.out, HL3.out _ _, by rw [HQ.out, HA.out, List.append_assoc]⟩
              case measure => simp [intOf]; omega
            · rw [e1] at HA
              go_wp2_with fail
              refine (put_c u6 m _ _ _ (by exact HM0.out.1) (by omega)).mono ?_
              rintro E w3 ⟨v3, rfl, hg3⟩
              have hne2 : wr.heap.size ∉ u6.ownBlock.toList := fun hx => by
                have h1 := HB.out wr.heap.size (by simpa using hx)
                omega
              have r4 : w3.cell? ⟨wr.heap.size, 1, none⟩ = some (.int .i64 x2) := hg3.2.2.cell hne2 (by simp)
              have HM3 := hidI (HM0.out.grew hg3)
              clear hg3 hne2
              go_wp2_with fail
              go_roundw
              case rel => exact ⟨k + 1, x2, _, by omega, by go_num, rfl, HM3.out, HL3.out _ _, by rw [HQ.out, HA.out, List.append_assoc]⟩
              case measure => simp [intOf]; omega
          · have HE : Hid (holesP l to = m ++ putP fr to) := by
              show _ = _
              rw [HQ.out, List.drop_eq_nil_of_le (by omega)]; rfl
            go_wp2_with fail
            refine (put_c u6 m _ _ _ (by exact HM.out.1) (by omega)).mono ?_
            rintro E w3 ⟨v3, rfl, hg3⟩
            go_wp2_with fail
            go_ret2
            exact (show Ans w (true && true) _ _ _ by rw [HE.out]; exact Ans.yes ((HM.out.grew hg3).base haw))
#print axioms holes_c
end Go.Proofs.Ytckiiidigajhpaa
