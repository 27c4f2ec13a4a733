/-
  owns of the laws.
-/
import Derived.Test.YtaicckenpplceaaGreatDoorLawM
namespace Go.Proofs.YtaicckenpplceaaGreatDoor
open Go.ChangeShapes Go.WideShapes Go.ChangeAt Go.RowKit Num
set_option linter.unusedVariables false
set_option maxHeartbeats 4000000
set_option maxRecDepth 100000

namespace R
/-- owns: copies of packets, in a list of its own. -/
theorem owns_c (a : Option Addr) (xs : List X) (n cap : Nat) (w : World) (hn : xs.length = n) (hx : Pks w a xs) (hnl : n ≤ 925904528640) :
    Calls Tryz.prog 5 #[.slice a n cap] w fun E w' => ∃ v ys, E = .returned v ∧ Cuts w' w.heap.size v ys ∧ ys.map X.p = xs.map X.p ∧ Away [] w w' := by
  have HX := Lib.hid hx; have HN := Lib.hid hn
  clear hx hn
  go_enter Tryz.func5, Tryz.ntmps5
  go_wp2_with fail
  go_loopw [3, 4] (fun v i wr => ∃ (k : Nat) (ys : List X), i = .int .i64 (k : Int) ∧ k ≤ n ∧ Cuts wr w.heap.size v ys ∧ ys.map X.p = (xs.take k).map X.p ∧ Away [] w wr) (fun _ i _ => n - (intOf i).toNat)
  case atStart => exact ⟨0, [], rfl, by omega, Cuts.nil _ _, by simp, Away.refl _ _⟩
  case round =>
    obtain ⟨k, ys, rfl, hk, hcu, hym, haw⟩ := hrel
    have HCU := Lib.hid hcu; have HYM := Lib.hid hym; have HAW := Lib.hid haw
    clear hcu hym haw
    have HYL : Hid (ys.length = k) := by
      show _ = _
      rw [← List.length_map (f := X.p), HYM.out, List.length_map, List.length_take]; have := HN.out; omega
    by_cases hlt : k < n
    · obtain ⟨x, hxk, hxm⟩ := get_of (show k < xs.length by have := HN.out; omega)
      obtain ⟨xb, xo, hxa, hrx, hokx⟩ := (HX.out.on HAW.out).at hxk
      subst hxa
      have HRX : Hid (wr.rangeAt xb (xo + k * 46) (listP x.p x.o x.d)) := hrx
      have HOK : Hid (Pkt wr x.p x.o x.d) := hokx
      have HAX := Lib.hid hokx.wf.ad
      have HXK := Lib.hid hxk
      clear hxk hxm hrx hokx
      have i2 : 0 ≤ (k : Int) := by omega
      have i3 : (k : Int) < (n : Int) := by omega
      have i4 : ((k : Int)).toNat = k := by omega
      go_wp2_with (refine wpList_load28m rfl _ rfl xb (xo + k * 46) rfl x.p x.o x.d (by exact HRX.out) HAX.out ?_)
      refine (lown_c x.p x.o x.d _ HOK.out).mono ?_
      rintro E v1 ⟨oq, dq, rfl, hmine, haw⟩
      have hs1 := haw.size
      have hsv := HAW.out.size
      have HCU1 := Lib.hid (HCU.out.on haw)
      have HLT : Hid (∀ y ∈ ys, ∀ k, y.o.ownBlock = some k ∨ y.d.ownBlock = some k → k < wr.heap.size) := fun y hy k hk => ((HCU.out.each y hy).2.lto k hk).1
      have HVL : Hid (∀ k, u3.ownBlock = some k → k < wr.heap.size) := HCU.out.lst.lt
      replace HAW := Lib.hid (HAW.out.on haw)
      have hsw := HAW.out.size
      have HMN := Lib.hid hmine
      have HO1 := Lib.hid hmine.o.one; have HD1 := Lib.hid hmine.d.one
      have HWX := Lib.hid HOK.out.wf
      clear haw hmine HRX HCU HOK
      go_wp2_with (refine wpList_build28 rfl _ rfl x.p oq dq rfl HAX.out ?_; refine Hid.out ?_)
      refine Lib.hid ?_
      intro gq v2 hgq hbq haw
      replace HCU1 := Lib.hid (HCU1.out.on haw)
      replace HMN := Lib.hid (HMN.out.on haw)
      replace HAW := Lib.hid (HAW.out.on haw)
      have hs2 := haw.size
      have HBQ := Lib.hid hbq
      clear haw hbq
      go_wp2_with (at_builtin; refine wpList_appP rfl _ _ rfl _ ys rfl (by exact HCU1.out.lst) gq 1 rfl x.p oq dq (by exact HBQ.out) HAX.out HO1.out HD1.out (by rw [HYL.out]; omega) ?_; refine Hid.out ?_)
      refine Lib.hid ?_
      intro v' v3 hl3 hgr hmv
      have HCU3 : Hid (Cuts v3 w.heap.size v' (ys ++ [⟨x.p, oq, dq⟩])) := HCU1.out.snoc ⟨HWX.out, HMN.out.mono (by omega)⟩ (fun y hy k hk => by
        have h1 := HLT.out y hy k hk
        exact ⟨fun e => by have := (HMN.out.lto k (.inl e)).2; omega, fun e => by have := (HMN.out.lto k (.inr e)).2; omega⟩) (fun k hk e => by have h1 := (HMN.out.lto k hk).2; have h2 := HVL.out k e; omega) hl3 hgr hmv (by omega)
      have HA3 : Hid (Away [] w v3) := HAW.out.grown hgr (fun k hk => .inr (HCU1.out.new k hk))
      have HY3 : Hid ((ys ++ [(⟨x.p, oq, dq⟩ : X)]).map X.p = (xs.take (k + 1)).map X.p) := by
        show _ = _
        have h1 := lt_of_get HXK.out
        have h2 : xs[k] = x := by have := HXK.out; rw [List.getElem?_eq_getElem h1] at this; simpa using this
        rw [List.take_succ_eq_append_getElem h1, h2, List.map_append, List.map_append, HYM.out]; rfl
      clear hl3 hgr hmv
      go_wp2_with fail
      go_roundw
      case rel => exact ⟨k + 1, _, by go_num, by omega, HCU3.out, HY3.out, HA3.out⟩
      case measure => simp [intOf]; omega
    · obtain rfl : k = n := by omega
      have HYE : Hid (ys.map X.p = xs.map X.p) := by show _ = _; rw [HYM.out, List.take_of_length_le (by have := HN.out; omega)]
      go_wp2_with fail
      go_ret
      exact ⟨_, ys, rfl, HCU.out, HYE.out, HAW.out⟩
end R
#print axioms R.owns_c
end Go.Proofs.YtaicckenpplceaaGreatDoor
