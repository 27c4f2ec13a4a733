/-
  same of the laws: lists of packets.
-/
import Derived.Test.YtaicckenpplceabGreatDoorLawM
import Derived.Test.YtaicckenpplceabGreatDoorQ32
namespace Go.Proofs.YtaicckenpplceabGreatDoor
open Go.ChangeShapes Go.WideShapes Go.ChangeAt Go.RowKit Num
open S6 (wp_region_cls quiet_val quiet_call quiet_ld)
set_option linter.unusedVariables false
set_option linter.unusedSimpArgs false
set_option maxHeartbeats 8000000
set_option maxRecDepth 100000
namespace R
theorem sameL_yes (a b : Option Addr) (xs ys : List X) (n cap cap' : Nat) (w : World) (hn : xs.length = n) (hx : Pks w a xs) (hy : Pks w b ys) (h : xs.map X.p = ys.map X.p) :
    Calls Tryz.prog 9 #[.slice a n cap, .slice b n cap'] w fun E w' => E = .returned (.bool true) ∧ Away [] w w' := by
  have HX := Lib.hid hx
  have HY := Lib.hid hy
  have HN := Lib.hid hn
  have HM := Lib.hid h
  have HNY : Hid (ys.length = n) := by show _ = _; have := congrArg List.length h; rw [List.length_map, List.length_map] at this; omega
  have hnb : n ≤ 925904528640 := by rw [← hn]; exact hx.1
  clear hx hy h hn
  go_enter Tryz.func9, Tryz.ntmps9
  go_wp2_with fail
  go_loopw [5] (fun i wr => ∃ k : Nat, i = .int .i64 (k : Int) ∧ k ≤ n ∧ Away [] w wr) (fun i _ => n - (intOf i).toNat)
  case atStart => exact ⟨0, rfl, Nat.zero_le _, Away.refl _ _⟩
  case round =>
    obtain ⟨k, rfl, hk, haw⟩ := hrel
    have HA := Lib.hid haw
    clear haw
    by_cases hkn : k < n
    · have j1 : decide (k < n) = true := by simp; omega
      have j0 : (k : Int) < (n : Int) := by omega
      obtain ⟨x, hxk, hxm⟩ := get_of (show k < xs.length by rw [HN.out]; exact hkn)
      obtain ⟨y, hyk, hym⟩ := get_of (show k < ys.length by rw [HNY.out]; exact hkn)
      have hpe : x.p = y.p := by
        have h1 := congrArg (fun l => l[k]?) HM.out
        simp only [List.getElem?_map, hxk, hyk, Option.map_some, Option.some.injEq] at h1
        exact h1
      obtain ⟨b1, o1, ha1, r1, k1⟩ := HX.out.at hxk
      obtain ⟨b2, o2, ha2, r2, k2⟩ := HY.out.at hyk
      subst ha1; subst ha2
      obtain ⟨p, xo, xd⟩ := x
      obtain ⟨q, yo, yd⟩ := y
      simp only at hpe
      subst hpe
      have HAD := Lib.hid k1.wf.ad
      have R1 : Hid (∀ w', Away [] w w' → w'.rangeAt b1 (o1 + k * 46) (listP p xo xd)) := fun w' h => range_away h (by simp) r1
      have R2 : Hid (∀ w', Away [] w w' → w'.rangeAt b2 (o2 + k * 46) (listP p yo yd)) := fun w' h => range_away h (by simp) r2
      have KS : Hid (∀ w', Away [] w w' → Calls Tryz.prog 23 #[.agg (csP p xo xd), .agg (csP p yo yd)] w' fun E w2 => E = .returned (.bool true) ∧ Away [] w w2) := fun w' h => (Same_yes p xo xd yo yd w' (Pkt.on k1 h) (Pkt.on k2 h)).mono (by rintro E w2 ⟨rfl, h2⟩; exact ⟨rfl, h.trans h2⟩)
      clear r1 r2 k1 k2 hxk hyk hxm hym hkn
      go_wp2_with fail
      refine wp_region_cls (C := fun w' => Away [] w w') (by kernel_rfl) (by kernel_rfl) (by exact HA.out.drew) ?_
      repeat (first
        | go_big_quiet_skip
        | (go_big_quiet_want
           first
             | (refine quiet_call 23 #[.agg (csP p xo xd), .agg (csP p yo yd)] (.bool true) ?_ KS.out ?_; (focus (intro w; go_simp; done)); go_simp; go_big_quiet_on)
             | (refine quiet_ix32 _ _ rfl b1 o1 n cap k _ rfl rfl rfl (by omega) ?_; go_simp; go_big_quiet_on)
             | (refine quiet_ix32 _ _ rfl b2 o2 n cap' k _ rfl rfl rfl (by omega) ?_; go_simp; go_big_quiet_on)
             | (refine quiet_ld _ rfl (ad := ⟨b1, o1 + k * 46, none⟩) rfl (fun w' h => load28m_run (R1.out w' h) HAD.out) ?_; go_simp; go_big_quiet_on)
             | (refine quiet_ld _ rfl (ad := ⟨b2, o2 + k * 46, none⟩) rfl (fun w' h => load28m_run (R2.out w' h) HAD.out) ?_; go_simp; go_big_quiet_on)
             | (go_big_quiet_op; go_big_quiet_on)
             | (refine quiet_val ?_ ?_ ?_
                rotate_left
                · intro w; go_simp; rfl
                go_simp; go_big_quiet_on)))
      refine wpQuiet_nil ?_
      intro V hV
      have HV := Lib.hid hV
      clear hV
      go_wp2_with fail
      go_roundw
      case rel => exact ⟨k + 1, by go_num, by omega, HV.out⟩
      case measure => simp [intOf]; omega
    · have j1 : decide (k < n) = false := by simp; omega
      go_wp2_with fail
      go_ret
      exact ⟨rfl, HA.out⟩
end R
end Go.Proofs.YtaicckenpplceabGreatDoor
