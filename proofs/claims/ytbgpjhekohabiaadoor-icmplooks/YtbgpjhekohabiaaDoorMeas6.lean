/-
  measure, Parse.
-/
import Derived.Test.YtbgpjhekohabiaaDoorRFix6
import Derived.Test.YtbgpjhekohabiaaDoorRgt6
namespace Go.Proofs.YtbgpjhekohabiaaDoor.S6
open Go.ChangeShapes Go.WideShapes Go.ChangeAt Go.RowKit Num
set_option linter.unusedVariables false
set_option maxHeartbeats 4000000
set_option maxRecDepth 100000

theorem measure_c (a : Option Addr) (b : List Int) (n cap : Nat) (w : World) (hn : b.length = n) (hcap : n ≤ cap) (ha : a = none → cap = 0) (hr : Row w a b) :
    Calls Tryd.prog 92 #[.slice a n cap] w fun E w' => E = .returned (.int .i64 (measP b)) ∧ Away [] w w' := by
  subst hn
  have hlen := hr.1
  obtain ⟨z, hz⟩ : ∃ z, z = measP b := ⟨_, rfl⟩
  rw [← hz]
  have HZ : Hid (z = if b.length < 40 then 20 else if gt b 0 / 16 ≠ 6 then 50 else if wd b 4 ≠ (b.length : Int) - 40 then 51 else if gt b 6 = 44 ∧ b.length < 48 then 20 else 0) := hz
  clear hz
  by_cases h40 : b.length < 40
  · obtain rfl : z = 20 := by rw [HZ.out, if_pos h40]
    clear hr ha
    go_enter Tryd.func92, Tryd.ntmps92
    go_wp2_with fail
    go_ret
    exact ⟨rfl, Away.refl _ _⟩
  · rcases hr.2.2 with h0 | ⟨blk, off, rfl, hcell⟩
    · rw [h0] at h40; simp at h40
    have c0 : w.cell? ⟨blk, off, none⟩ = some (.int .u8 (gt b 0)) := hcell 0 (by omega)
    have c6 : w.cell? ⟨blk, off + 6, none⟩ = some (.int .u8 (gt b 6)) := hcell 6 (by omega)
    have g0 := gt_bd hr.2.1 0; have g6 := gt_bd hr.2.1 6; have g4 := gt_bd hr.2.1 4; have g5 := gt_bd hr.2.1 5
    obtain ⟨A, hA⟩ : ∃ A, A = if cap = 4 then some ⟨blk, off, none⟩ else (some (⟨blk, off, none⟩ : Addr)).map (·.add 4) := ⟨_, rfl⟩
    have hsl := slice_lh (some ⟨blk, off, none⟩) A b.length cap 4 2 4 6 hA rfl rfl (by omega)
    have hrow : Row w A ((b.drop 4).take 2) := by have := hr.sub 4 2 cap hcap (by omega); rw [← hA] at this; exact this
    have hAn : A ≠ none := by rw [hA]; split <;> simp
    have HW2 : Hid ((b.drop 4).take 2 = [gt b 4, gt b 5]) := by
      show _ = _
      match b, h40 with
      | b0 :: b1 :: b2 :: b3 :: b4 :: b5 :: r, _ => rfl
      | [], h => simp at h
      | [_], h => simp at h
      | [_, _], h => simp at h
      | [_, _, _], h => simp at h
      | [_, _, _, _], h => simp at h
      | [_, _, _, _, _], h => simp at h
    have HROW := Lib.hid hrow
    have HWD : Hid (wd b 4 = 256 * gt b 4 + gt b 5) := rfl
    have hsh : bits .shr .u8 (gt b 0) 4 = gt b 0 / 16 ∨ True := .inr trivial
    clear hA hcell hr hrow hsh ha
    by_cases hv : gt b 0 / 16 = 6
    · have hv1 : (gt b 0 / 16 == 6) = true := by simp [hv]
      have hv2 : (gt b 0 / 16 != 6) = false := by simp [hv]
      have KEY : Hid (∀ w', Away [] w w' → Calls Tryd.prog 38 #[.slice A 2 (cap - 4)] w' fun E w'' => Opened w' [gt b 4, gt b 5] E w'') := fun w' h => newReader_any A [gt b 4, gt b 5] 2 (cap - 4) w' rfl (fun e => absurd e hAn) (by rw [← HW2.out]; exact HROW.out.away h (by simp))
      have HZ2 : Hid (z = if wd b 4 ≠ (b.length : Int) - 40 then 51 else if gt b 6 = 44 ∧ b.length < 48 then 20 else 0) := by
        show _ = _
        rw [HZ.out, if_neg h40, if_neg (by simp [hv])]
      clear HZ hv HROW HW2 hAn
      go_enter Tryd.func92, Tryd.ntmps92
      go_wp2_with fail
      refine (KEY.out _ (Away.refl _ _)).mono ?_
      rintro E w2 ⟨gr, dr, rfl, hrd, hgr, hdr, haw⟩
      have HR2 := Lib.hid hrd
      have HA2 := Lib.hid haw
      have c6 := haw.cell (by simp) c6
      clear hrd haw KEY
      go_wp2_with fail
      refine (u16_any _ gr dr [gt b 4, gt b 5] 0 (by exact HR2.out)).mono ?_
      obtain ⟨e1, e2, e3⟩ := rd2 (gt b 4) (gt b 5) []
      rw [e1, e2, e3, show num [gt b 4, gt b 5] = wd b 4 from by rw [HWD.out]; simp [num]]
      clear e1 e2 e3
      rintro E w3 ⟨rfl, hrd, haw⟩
      have HA3 : Hid (Away [] w w3) := HA2.out.next haw (fun x hx => .inr (by simp at hx; omega))
      have hne : blk ≠ gr := by have : blk < w.heap.size := block_lt_of_cell c0; omega
      have c6 := haw.cell (by simp; exact hne) c6
      have wb : 0 ≤ wd b 4 ∧ wd b 4 ≤ 65535 := by rw [HWD.out]; omega
      clear hrd haw HA2 HR2
      by_cases hl : wd b 4 = (b.length : Int) - 40
      · have hl1 : (wd b 4 == (b.length : Int) - 40) = true := by simp [hl]
        have hl2 : (wd b 4 != (b.length : Int) - 40) = false := by simp [hl]
        have HZ3 : Hid (z = if gt b 6 = 44 ∧ b.length < 48 then 20 else 0) := by
          show _ = _
          rw [HZ2.out, if_neg (by simp [hl])]
        clear HZ2 hl HWD
        by_cases h6 : gt b 6 = 44
        · by_cases h8 : b.length < 48
          · obtain rfl : z = 20 := by rw [HZ3.out, if_pos ⟨h6, h8⟩]
            have h61 : (gt b 6 == 44) = true := by simp [h6]
            clear h6
            go_wp2_with fail
            go_ret
            exact ⟨rfl, HA3.out⟩
          · obtain rfl : z = 0 := by rw [HZ3.out, if_neg (fun h => h8 h.2)]
            have h61 : (gt b 6 == 44) = true := by simp [h6]
            clear h6
            go_wp2_with fail
            go_ret
            exact ⟨rfl, HA3.out⟩
        · obtain rfl : z = 0 := by rw [HZ3.out, if_neg (fun h => h6 h.1)]
          have h61 : (gt b 6 == 44) = false := by simp [h6]
          clear h6
          go_wp2_with fail
          go_ret
          exact ⟨rfl, HA3.out⟩
      · have hl1 : (wd b 4 == (b.length : Int) - 40) = false := by simp [hl]
        have hl2 : (wd b 4 != (b.length : Int) - 40) = true := by simp [hl]
        obtain rfl : z = 51 := by rw [HZ2.out, if_pos hl]
        clear HZ2 hl HWD
        go_wp2_with fail
        go_ret
        exact ⟨rfl, HA3.out⟩
    · have hv1 : (gt b 0 / 16 == 6) = false := by simp [hv]
      have hv2 : (gt b 0 / 16 != 6) = true := by simp [hv]
      obtain rfl : z = 50 := by rw [HZ.out, if_neg h40, if_pos hv]
      clear HZ hv HROW HW2 HWD
      go_enter Tryd.func92, Tryd.ntmps92
      go_wp2_with fail
      go_ret
      exact ⟨rfl, Away.refl _ _⟩
#print axioms measure_c
end Go.Proofs.YtbgpjhekohabiaaDoor.S6
