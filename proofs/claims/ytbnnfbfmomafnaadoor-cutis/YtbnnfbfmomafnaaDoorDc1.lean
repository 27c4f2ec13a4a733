/-
  The document: own, Head, Length, Mtu.
-/
import Derived.Test.YtbnnfbfmomafnaaDoorCutF
import Derived.Test.YtbnnfbfmomafnaaDoorStp
namespace Go.Proofs.YtbnnfbfmomafnaaDoor
open Go.ChangeShapes Go.WideShapes Go.ChangeAt Go.RowKit Num
set_option linter.unusedVariables false
set_option linter.unusedSimpArgs false
set_option maxHeartbeats 4000000
set_option maxRecDepth 100000

theorem rown_c (a : Option Addr) (l : List Int) (n cap : Nat) (w : World) (hn : l.length = n) (ha : a = none → cap = 0) (hr : Row w a l) :
    Calls Tryd.prog 49 #[.slice a n cap] w fun E w' => ∃ v, E = .returned v ∧ Owns w' v l ∧ New w.heap.size v ∧ Away [] w w' := by
  subst hn
  have hlen := hr.1
  rcases a with _ | ad
  · have h0 : l = [] := by rcases hr.2.2 with h | ⟨_, _, h, _⟩ <;> simp_all
    subst h0
    obtain rfl := ha rfl
    go_enter Tryd.func49, Tryd.ntmps49
    go_wp2_with (at_builtin; refine wpList_app_none rfl _ _ rfl _ [] rfl (Owns.nil _) rfl ?_)
    go_wp2_with fail
    go_ret
    exact ⟨_, rfl, Owns.nil _, New.nil _, Away.refl _ _⟩
  · have HR := Lib.hid hr
    clear hr
    go_enter Tryd.func49, Tryd.ntmps49
    go_wp2_with (at_builtin; refine wpList_app rfl _ _ rfl _ [] l rfl (Owns.nil _) ad l.length cap rfl rfl HR.out.src (by simpa using hlen) ?_)
    intro v' w2 hown2 hgr hblk
    have HO := Lib.hid hown2
    have HA : Hid (Away [] w w2) := (Away.refl [] w).grown hgr (by simp [Value.ownBlock])
    have HN : Hid (New w.heap.size v') := fun k hk => by
      rcases hblk k hk with h | h
      · simp [Value.ownBlock] at h
      · exact h
    clear hown2 hgr hblk
    go_wp2_with fail
    go_ret
    exact ⟨v', rfl, HO.out, HN.out, HA.out⟩
theorem rmtu_c (m v : Int) (w : World) : Calls Tryd.prog 47 #[.int .i64 v, .int .i64 m] w fun E w' => E = .returned (.bool (mtuP m v)) ∧ w' = w := by
  obtain ⟨z, hz⟩ : ∃ z, z = mtuP m v := ⟨_, rfl⟩
  rw [← hz]
  unfold mtuP at hz
  have HZ := Lib.hid hz
  clear hz
  by_cases hv : v = 6
  · subst hv
    by_cases h1 : 1280 ≤ m
    · have d1 : decide (1280 ≤ m) = true := by simp [h1]
      obtain rfl : z = decide (m ≤ 65535) := by rw [HZ.out, if_pos rfl, d1]; rfl
      go_enter Tryd.func47, Tryd.ntmps47
      go_wp2
      go_ret
      exact ⟨rfl, rfl⟩
    · have d1 : decide (1280 ≤ m) = false := by simp; omega
      obtain rfl : z = false := by rw [HZ.out, if_pos rfl, d1]; rfl
      go_enter Tryd.func47, Tryd.ntmps47
      go_wp2
      go_ret
      exact ⟨rfl, rfl⟩
  · have dv : decide (v = 6) = false := by simp [hv]
    by_cases h1 : 68 ≤ m
    · have d1 : decide (68 ≤ m) = true := by simp [h1]
      obtain rfl : z = decide (m ≤ 65535) := by rw [HZ.out, if_neg hv, d1]; rfl
      go_enter Tryd.func47, Tryd.ntmps47
      go_wp2
      go_ret
      exact ⟨rfl, rfl⟩
    · have d1 : decide (68 ≤ m) = false := by simp; omega
      obtain rfl : z = false := by rw [HZ.out, if_neg hv, d1]; rfl
      go_enter Tryd.func47, Tryd.ntmps47
      go_wp2
      go_ret
      exact ⟨rfl, rfl⟩
/-- Head, as the document reckons it. -/
def hdD (p : Pk) : Int := if p.v = 4 then 20 + p.o.length else if p.frag = true then 48 else 40
theorem rhead_c (p : Pk) (ov dv : Value) (w : World) (hp : Pkt w p ov dv) (hl : p.o.length ≤ 140737488355328) :
    Calls Tryd.prog 50 #[.agg (csP p ov dv)] w fun E w' => E = .returned (.int .i64 (hdD p)) ∧ Away [] w w' := by
  have HAD := Lib.hid hp.wf.ad
  obtain ⟨-, ⟨oa, oc, rfl, -, -, -⟩, -⟩ := hp
  obtain ⟨ans, hans⟩ : ∃ z, z = hdD p := ⟨_, rfl⟩
  rw [← hans]
  have HE := Lib.hid hans
  clear hans
  go_enter Tryd.func50, Tryd.ntmps50
  go_wp2_with (refine wpList_box28 rfl _ rfl p _ _ rfl ?_; refine Hid.out ?_)
  refine Lib.hid ?_
  intro g1 w1 hg1 hb haw
  have HA := Lib.hid haw
  have cc := hb.cells HAD.out
  have c0 := cc.v
  have c12 := cc.o
  have cf := cc.frag
  clear hb haw hg1 cc
  by_cases h4 : p.v = 4
  · have e4 : (p.v == 4) = true := by simpa using h4
    have HR : Hid (ans = 20 + (p.o.length : Int)) := by show _ = _; rw [HE.out, hdD, if_pos h4]
    rw [h4] at c0
    clear h4 e4
    go_wp2_with fail
    go_ret
    exact ⟨ret_int HR.out.symm, HA.out⟩
  · have e4 : (p.v == 4) = false := by simpa using h4
    cases hf : p.frag
    · have HR : Hid (ans = 40) := by show _ = _; rw [HE.out, hdD, if_neg h4, hf]; rfl
      rw [hf] at cf
      clear h4
      go_wp2_with fail
      go_ret
      exact ⟨ret_int HR.out.symm, HA.out⟩
    · have HR : Hid (ans = 48) := by show _ = _; rw [HE.out, hdD, if_neg h4, hf]; rfl
      rw [hf] at cf
      clear h4
      go_wp2_with fail
      go_ret
      exact ⟨ret_int HR.out.symm, HA.out⟩
end Go.Proofs.YtbnnfbfmomafnaaDoor
