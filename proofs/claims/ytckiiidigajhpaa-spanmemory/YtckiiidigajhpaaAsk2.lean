/-
  The document's Right, may, Size.
-/
import Derived.Test.YtckiiidigajhpaaFn4
import Derived.Test.YtckiiidigajhpaaAsk1
namespace Go.Proofs.Ytckiiidigajhpaa
open Go.ChangeShapes Go.WideShapes Go.ChangeAt Go.RowKit
set_option linter.unusedVariables false
set_option maxRecDepth 100000

theorem ris_b {z : Bool} (x : Sp) (w : World) (hz : isB x = z) : Calls Try.prog 38 #[valS x] w fun E w' => E = .returned (.bool z) ∧ Away [] w w' := by rw [← hz]; exact ris_c x w
set_option maxHeartbeats 4000000 in
theorem rright_c (a : Option Addr) (l : List Sp) (n cap : Nat) (w : World) (hn : l.length = n) (hr : Row w a l) :
    Calls Try.prog 25 #[.slice a n cap] w fun E w' => E = .returned (.bool (rightP l)) ∧ Away [] w w' := by
  subst hn
  have hlen := hr.1
  obtain ⟨z, hz⟩ : ∃ z, z = rightP l := ⟨_, rfl⟩
  rw [← hz]
  have HZ : Hid (z = rightP l) := hz
  have HR : Hid (Row w a l) := hr
  clear hz hr
  go_enter Try.func25, Try.ntmps25
  go_wp2_with fail
  go_loopw [3] (fun i wr => ∃ (k : Nat), k ≤ l.length ∧ i = .int .i64 (k : Int) ∧ Away [] w wr ∧ rightP l = rightFrom (prevT l k) (l.drop k)) (fun i _ => l.length - (intOf i).toNat)
  case atStart => exact ⟨0, by omega, rfl, Away.refl _ _, rfl⟩
  case round =>
    obtain ⟨k, hk, rfl, haw, hq⟩ := hrel
    have HQ : Hid (rightP l = rightFrom (prevT l k) (l.drop k)) := hq
    have HAW : Hid (Away [] w wr) := haw
    clear hq haw
    by_cases hlt : k < l.length
    · obtain ⟨x, hx, _⟩ := get_of hlt
      obtain ⟨b, off, rfl, c1, c2, -⟩ := (HR.out.on HAW.out).at hx
      have HA : Hid (rightFrom (prevT l k) (l.drop k) = (isB x && decide (prevT l k < x.1) && rightFrom (prevT l (k + 1)) (l.drop (k + 1)))) := by show _ = _; rw [rf_at hx, prevT_succ hx]
      clear hx
      obtain ⟨x1, x2⟩ := x
      simp only at c1 c2
      have t1 : decide ((k : Int) < (l.length : Int)) = true := by simp; omega
      have t2 : 0 ≤ (k : Int) := by omega
      have t3 : (k : Int) < (l.length : Int) := by omega
      have t4 : ((k : Int)).toNat = k := by omega
      cases hB : isB (x1, x2)
      · have HB : Hid (isB (x1, x2) = false) := hB
        clear hB
        go_wp2_with fail
        refine (ris_b (x1, x2) _ HB.out).mono ?_
        rintro E w2 ⟨rfl, haw2⟩
        have HAW2 : Hid (Away [] w w2) := HAW.out.trans haw2
        clear haw2 c1 c2
        go_wp2_with fail
        go_quiet (fail)
        go_wp2_with fail
        go_ret
        exact ⟨by rw [HZ.out, HQ.out, HA.out, HB.out]; rfl, HAW2.out.drewN _⟩
      · have HB : Hid (isB (x1, x2) = true) := hB
        clear hB
        by_cases h0 : k = 0
        · have HP : Hid (decide (prevT l k < x1) = true) := by
            have := (isB_iff.1 HB.out).1
            show _ = _; simp [prevT, h0]; simp only at this; omega
          have g0 : decide (0 < k) = false := by simp; omega
          have HK : Hid (k = 0) := h0
          clear h0
          go_wp2_with fail
          refine (ris_b (x1, x2) _ HB.out).mono ?_
          rintro E w2 ⟨rfl, haw2⟩
          have HAW2 : Hid (Away [] w w2) := HAW.out.trans haw2
          clear haw2 c1 c2
          go_wp2_with fail
          go_quiet (fail)
          go_wp2_with fail
          go_roundw
          case rel => exact ⟨k + 1, by omega, by go_num, HAW2.out.drewN _, by rw [HQ.out, HA.out, HB.out, HP.out]; rfl⟩
          case measure => simp [intOf]; omega
        · obtain ⟨y, hy, _⟩ := get_of (show k - 1 < l.length by omega)
          obtain ⟨b', off', hbo, c3, c4, -⟩ := (HR.out.on HAW.out).at hy
          simp only [Option.some.injEq, Addr.mk.injEq] at hbo
          obtain ⟨rfl, rfl, -⟩ := hbo
          have HP : Hid (prevT l k = y.2) := by show _ = _; simp [prevT, h0, hy]
          clear hy
          obtain ⟨y1, y2⟩ := y
          simp only at c3 c4 HP
          have g0 : decide (0 < k) = true := by simp; omega
          have t5 : ((k : Int) - 1).toNat = k - 1 := by omega
          have t6 : 0 ≤ (k : Int) - 1 := by omega
          have t7 : (k : Int) - 1 < (l.length : Int) := by omega
          go_wp2_with fail
          refine (ris_b (x1, x2) _ HB.out).mono ?_
          rintro E w2 ⟨rfl, haw2⟩
          have HAW2 : Hid (Away [] w w2) := HAW.out.trans haw2
          replace c1 := haw2.cell (by simp) c1
          replace c4 := haw2.cell (by simp) c4
          clear haw2 c2 c3
          by_cases h4 : x1 ≤ y2
          · have d4 : decide (x1 ≤ y2) = true := by simp [h4]
            have HD : Hid (decide (prevT l k < x1) = false) := by show _ = _; rw [HP.out]; simp; omega
            go_wp2_with fail
            go_quiet (fail)
            go_wp2_with fail
            go_ret
            exact ⟨by rw [HZ.out, HQ.out, HA.out, HB.out, HD.out]; rfl, HAW2.out.drewN _⟩
          · have d4 : decide (x1 ≤ y2) = false := by simp [h4]
            have HD : Hid (decide (prevT l k < x1) = true) := by show _ = _; rw [HP.out]; simp; omega
            go_wp2_with fail
            go_quiet (fail)
            go_wp2_with fail
            go_roundw
            case rel => exact ⟨k + 1, by omega, by go_num, HAW2.out.drewN _, by rw [HQ.out, HA.out, HB.out, HD.out]; rfl⟩
            case measure => simp [intOf]; omega
    · go_wp2_with fail
      go_ret
      exact ⟨by rw [HZ.out, HQ.out, List.drop_eq_nil_of_le (by omega)]; rfl, HAW.out⟩
theorem rright_b {z : Bool} (a : Option Addr) (l : List Sp) (n cap : Nat) (w : World) (hn : l.length = n) (hr : Row w a l) (hz : rightP l = z) :
    Calls Try.prog 25 #[.slice a n cap] w fun E w' => E = .returned (.bool z) ∧ Away [] w w' := by rw [← hz]; exact rright_c a l n cap w hn hr
set_option maxHeartbeats 4000000 in
theorem rmay_c (a : Option Addr) (l : List Sp) (s : Sp) (n cap : Nat) (w : World) (hn : l.length = n) (hr : Row w a l) :
    Calls Try.prog 40 #[.slice a n cap, valS s] w fun E w' => E = .returned (.bool (rightP l && isB s)) ∧ Away [] w w' := by
  have HR : Hid (Row w a l) := hr
  have HN : Hid (l.length = n) := hn
  clear hr hn
  obtain ⟨s1, s2⟩ := s
  simp only [valS]
  cases hb : rightP l
  · have HB : Hid (rightP l = false) := hb
    clear hb
    go_enter Try.func40, Try.ntmps40
    go_wp2_with fail
    refine (rright_b a l n cap _ HN.out (by exact HR.out.on ((Away.refl [] _).alloc _)) HB.out).mono ?_
    rintro E w2 ⟨rfl, haw2⟩
    have HAW2 : Hid (Away [] w w2) := ((Away.refl [] w).alloc _).trans haw2
    clear haw2
    go_wp2_with fail
    go_ret
    exact ⟨rfl, HAW2.out⟩
  · have HB : Hid (rightP l = true) := hb
    clear hb
    obtain ⟨z, hz⟩ : ∃ z, isB (s1, s2) = z := ⟨_, rfl⟩
    rw [hz]
    have HS : Hid (isB (s1, s2) = z) := hz
    clear hz
    go_enter Try.func40, Try.ntmps40
    go_wp2_with fail
    refine (rright_b a l n cap _ HN.out (by exact HR.out.on ((Away.refl [] _).alloc _)) HB.out).mono ?_
    rintro E w2 ⟨rfl, haw2⟩
    have HAW2 : Hid (Away [] w w2) := ((Away.refl [] w).alloc _).trans haw2
    have c0 : w2.cell? ⟨w.heap.size, 0, none⟩ = some (.int .i64 s1) := haw2.cell (by simp) (by rw [World.cell?_alloc_at (hn := rfl)]; rfl)
    have c1 : w2.cell? ⟨w.heap.size, 1, none⟩ = some (.int .i64 s2) := haw2.cell (by simp) (by rw [World.cell?_alloc_at (hn := rfl)]; rfl)
    clear haw2
    go_wp2_with fail
    refine (ris_b (s1, s2) _ HS.out).mono ?_
    rintro E w3 ⟨rfl, haw3⟩
    go_wp2_with fail
    go_ret
    exact ⟨by simp, HAW2.out.trans haw3⟩
theorem rmay_b {z : Bool} (a : Option Addr) (l : List Sp) (s : Sp) (n cap : Nat) (w : World) (hn : l.length = n) (hr : Row w a l) (hz : (rightP l && isB s) = z) :
    Calls Try.prog 40 #[.slice a n cap, valS s] w fun E w' => E = .returned (.bool z) ∧ Away [] w w' := by rw [← hz]; exact rmay_c a l s n cap w hn hr
set_option maxHeartbeats 4000000 in
theorem rsize_c (a : Option Addr) (l : List Sp) (n cap : Nat) (w : World) (hn : l.length = n) (hr : Row w a l) :
    Calls Try.prog 26 #[.slice a n cap] w fun E w' => E = .returned (.int .i64 (sizeP l)) ∧ Away [] w w' := by
  subst hn
  have hlen := hr.1
  have HR : Hid (Row w a l) := hr
  clear hr
  obtain ⟨z, hz⟩ : ∃ z, z = sizeP l := ⟨_, rfl⟩
  rw [← hz]
  have HZ : Hid (z = sizeP l) := hz
  clear hz
  cases hb : rightP l
  · have HB : Hid (rightP l = false) := hb
    clear hb
    go_enter Try.func26, Try.ntmps26
    go_wp2_with fail
    refine (rright_b a l _ cap _ rfl (by exact HR.out) HB.out).mono ?_
    rintro E w2 ⟨rfl, haw2⟩
    have HAW2 : Hid (Away [] w w2) := haw2
    clear haw2
    go_wp2_with fail
    go_loopw [4, 5] (fun c i wr => c = .int .i64 0 ∧ i = .int .i64 0 ∧ wr = w2) (fun _ i _ => 0)
    case atStart => exact ⟨rfl, rfl, rfl⟩
    case round =>
      obtain ⟨rfl, rfl, rfl⟩ := hrel
      by_cases h0 : 0 < l.length
      · have t3 : (0 : Int) < (l.length : Int) := by omega
        go_wp2_with fail
        go_ret
        exact ⟨by rw [HZ.out]; unfold sizeP; rw [HB.out]; rfl, HAW2.out⟩
      · have t3 : ¬ (0 : Int) < (l.length : Int) := by omega
        go_wp2_with fail
        go_ret
        exact ⟨by rw [HZ.out]; unfold sizeP; rw [HB.out]; rfl, HAW2.out⟩
  · have hshort := right_short hb
    have HB : Hid (rightP l = true) := hb
    have HI : Hid (∀ s ∈ l, Is s) := allIs_iff.1 (right_all hb)
    have HZ2 : Hid (z = lenP l) := by show _ = _; rw [HZ.out]; unfold sizeP; rw [hb]; rfl
    clear HZ hb
    go_enter Try.func26, Try.ntmps26
    go_wp2_with fail
    refine (rright_b a l _ cap _ rfl (by exact HR.out) HB.out).mono ?_
    rintro E w1 ⟨rfl, haw⟩
    go_wp2_with fail
    go_loopw [4, 5] (fun c i wr => ∃ k : Nat, k ≤ l.length ∧ i = .int .i64 k ∧ Away [] w1 wr ∧ c = .int .i64 (lenP (l.take k))) (fun _ i _ => l.length - (intOf i).toNat)
    case atStart => exact ⟨0, by omega, rfl, Away.refl _ _, rfl⟩
    case round =>
      obtain ⟨k, hk, rfl, hm, rfl⟩ := hrel
      have hbd := len_bound (l.take k) (fun s hs => HI.out s (List.mem_of_mem_take hs))
      have hkl : (l.take k).length ≤ 32768 := by simp; omega
      have HE : Hid (k = l.length → lenP (l.take k) = lenP l) := fun e => by rw [List.take_of_length_le (by omega)]
      by_cases hlt : k < l.length
      · obtain ⟨x, hx, hxm⟩ := get_of hlt
        obtain ⟨b, off, rfl, c1, c2, -⟩ := ((HR.out.on haw).on hm).at hx
        have hi := HI.out x hxm
        have HT : Hid (lenP (l.take (k + 1)) = lenP (l.take k) + (x.2 - x.1)) := len_snoc hx
        obtain ⟨x1, x2⟩ := x
        unfold Is at hi
        simp only at c1 c2 HT hi
        clear hx hxm
        have b1 : 0 ≤ lenP (l.take k) := hbd.1
        have b2 : lenP (l.take k) ≤ 3000000000 := by omega
        have HM : Hid (Away [] w1 wr) := hm
        clear hbd hkl hm
        generalize lenP (l.take k) = c at *
        obtain ⟨i1, i2, i3⟩ := hi
        have t2 : 0 ≤ (k : Int) := by omega
        have t3 : (k : Int) < (l.length : Int) := by omega
        have t4 : ((k : Int)).toNat = k := by omega
        go_wp2_with fail
        go_quiet (fail)
        go_wp2_with fail
        go_roundw
        case rel => exact ⟨k + 1, by omega, by go_num, HM.out.drewN _, by rw [HT.out]; congr 1; omega⟩
        case measure => simp [intOf]; omega
      · have t3 : ¬ (k : Int) < (l.length : Int) := by omega
        have HM : Hid (Away [] w1 wr) := hm
        clear hm hbd hkl
        have HE2 : Hid (lenP (l.take k) = lenP l) := HE.out (by omega)
        clear HE
        generalize lenP (l.take k) = c at *
        go_wp2_with fail
        go_ret
        exact ⟨by rw [HZ2.out, ← HE2.out]; rfl, haw.trans HM.out⟩
#print axioms rsize_c
end Go.Proofs.Ytckiiidigajhpaa
