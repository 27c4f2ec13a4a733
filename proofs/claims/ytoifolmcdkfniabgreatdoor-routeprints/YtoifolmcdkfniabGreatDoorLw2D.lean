/-
  The law's own functions: net4, bit, lies.
-/
import Derived.Test.YtoifolmcdkfniabGreatDoorLw
namespace Go.Proofs.YtoifolmcdkfniabGreatDoor
open Go.ChangeShapes Go.WideShapes Go.ChangeAt Go.RowKit
set_option linter.unusedVariables false
set_option linter.unusedSimpArgs false
set_option maxRecDepth 100000

theorem resultR {fn : Func} {p : Tmp} (h : fn.results = #[.cell p 39]) (tmps : Array Value) (w : World) (g : Nat) (x : Rt) (hx : Okr x) (hp : tmps.getD p undef = .pointer (some ⟨g, 0, none⟩)) (hr : BoxD w g x) :
    (results fn tmps).run Tryz.prog w = .ok (.agg (csD x)) w :=
  results_cell_row h tmps w g 39 (csD x) (0, 0) _ hp hr Tryz.underlying39 rfl (by rw [csD_size hx]; exact infoE)
theorem net4_ok {a b bits link : Int} (ha : 0 ≤ a ∧ a ≤ 255) (hb : 0 ≤ b ∧ b ≤ 255) : Okr (net4P a b bits link) := ⟨rfl, fun y hy => by
  simp only [net4P, List.mem_cons, List.not_mem_nil, or_false] at hy
  rcases hy with rfl | rfl | rfl | rfl | rfl | rfl | rfl | rfl | rfl | rfl | rfl | rfl | rfl | rfl | rfl | rfl <;> omega⟩
set_option maxHeartbeats 4000000 in
theorem net4_c (a b bits link : Int) (ha : 0 ≤ a ∧ a ≤ 255) (hb : 0 ≤ b ∧ b ≤ 255) (w : World) : Calls Tryz.prog 18 #[.int .u8 a, .int .u8 b, .int .i64 bits, .int .i64 link] w fun E w' => E = .returned (.agg (csD (net4P a b bits link))) ∧ Away [] w w' := by
  have HO := Lib.hid (net4_ok (bits := bits) (link := link) ha hb)
  clear ha hb
  go_enter Tryz.func18, Tryz.ntmps18
  go_wp2_with (refine wpList_allocE rfl rfl ?_; refine Hid.out ?_)
  refine Lib.hid ?_
  intro g8 w1 hg8 hbx haw
  have HBX := Lib.hid hbx
  have HA := Lib.hid haw
  clear hbx haw
  go_wp2_with (refine wpList_storeE rfl _ _ rfl g8 rfl (net4P a b bits link) zeroD HO.out zeroD_ok rfl HBX.out ?_; refine Hid.out ?_)
  refine Lib.hid ?_
  intro w2 hbx haw
  have HB2 := Lib.hid hbx
  have HA2 : Hid (Away [] w w2) := HA.out.next haw (fun x hx => .inr (by simp at hx; subst hx; omega))
  clear hbx haw
  go_wp2_with fail
  refine bodyPost_ret (v := .agg (csD (net4P a b bits link))) ?_ rfl ⟨rfl, HA2.out⟩
  exact resultR rfl _ _ _ (net4P a b bits link) HO.out rfl HB2.out
end Go.Proofs.YtoifolmcdkfniabGreatDoor
