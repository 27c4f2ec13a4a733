/-
  The size of a list of spans.
-/
import Derived.Test.YtkccpidgeecemaaGreatDoorHhA
namespace Go.Proofs.YtkccpidgeecemaaGreatDoor.H
open Go.ChangeShapes Go.WideShapes Go.ChangeAt Go.RowKit
set_option linter.unusedVariables false
set_option linter.unusedSimpArgs false
set_option maxHeartbeats 4000000 in
theorem size_c (a : Option Addr) (l : List Sp) (n cap : Nat) (w : World) (hn : l.length = n) (hr : Row w a l) :
    Calls Tryz.prog 89 #[.slice a n cap] w fun E w' => E = .returned (.int .i64 (sizeP l)) ∧ Away [] w w' := by
  subst hn
  have hlen := hr.1
  have HR : Hid (Row w a l) := hr
  clear hr
  obtain ⟨z, hz⟩ : ∃ z, z = sizeP l := ⟨_, rfl⟩
  rw [← hz]
  have HZ : Hid (z = sizeP l) := hz
  clear hz
  cases hb : rightP l
  · go_enter Tryz.func89, Tryz.ntmps89
    go_wp2_with fail
    refine (right_c a l _ _ _ rfl (by exact HR.out)).mono ?_
    rintro E w2 ⟨rfl, haw2⟩
    rw [hb]
    go_wp2_with fail
    go_ret
    exact ⟨by rw [HZ.out]; unfold sizeP; rw [hb]; rfl, haw2⟩
  · have hshort := right_short hb
    have HI : Hid (∀ s ∈ l, Is s) := allIs_iff.1 (right_all hb)
    go_enter Tryz.func89, Tryz.ntmps89
    go_wp2_with fail
    refine (right_c a l _ _ _ rfl (by exact HR.out)).mono ?_
    rintro E w1 ⟨rfl, haw⟩
    rw [hb]
    have HZ2 : Hid (z = lenP l) := by show _ = _; rw [HZ.out]; unfold sizeP; rw [hb]; rfl
    clear HZ
    go_wp2_with fail
    go_loopw [3, 11] (fun c i wr => ∃ k : Nat, k ≤ l.length ∧ i = .int .i64 k ∧ Away [] w1 wr ∧ c = .int .i64 (lenP (l.take k))) (fun _ i _ => l.length - (intOf i).toNat)
    case atStart => exact ⟨0, by omega, rfl, Away.refl _ _, rfl⟩
    case round =>
      obtain ⟨k, hk, rfl, hm, rfl⟩ := hrel
      have hbd := len_bound (l.take k) (fun s hs => HI.out s (List.mem_of_mem_take hs))
      have hkl : (l.take k).length ≤ 32768 := by simp; omega
      have HE : Hid (k = l.length → lenP (l.take k) = lenP l) := fun e => by rw [List.take_of_length_le (by omega)]
      by_cases hlt : k < l.length
      · obtain ⟨x, hx, hxm⟩ := get_of hlt
        obtain ⟨b, off, rfl, c1, c2, -⟩ := ((HR.out.on haw).on hm).at hx
        have hi := HI.out x hxm
        have HT : Hid (lenP (l.take (k + 1)) = lenP (l.take k) + (x.2 - x.1)) := len_snoc hx
        obtain ⟨x1, x2⟩ := x
        unfold Is at hi
        simp only at c1 c2 HT hi
        clear hx hxm
        have b1 : 0 ≤ lenP (l.take k) := hbd.1
        have b2 : lenP (l.take k) ≤ 2147450880 := by omega
        clear hbd hkl
        generalize lenP (l.take k) = c at *
        obtain ⟨i1, i2, i3⟩ := hi
        go_wp2_with fail
        go_roundw
        case rel => exact ⟨k + 1, by omega, by go_num, hm.alloc _, by rw [HT.out]⟩
        case measure => simp [intOf]; omega
      · clear hbd hkl
        go_wp2_with fail
        go_ret
        exact ⟨by rw [HZ2.out, ← HE.out (by omega)]; rfl, haw.trans hm⟩
end Go.Proofs.YtkccpidgeecemaaGreatDoor.H
