/-
  'alive'.
-/
import Derived.Test.YtaiomhhndckccaaHelp
namespace Go.Proofs.Ytaiomhhndckccaa
open Go.ChangeShapes Go.WideShapes Go.ChangeAt Go.RowKit
set_option linter.unusedVariables false

theorem Row.lit (w : World) (m : List Int) (hm : Bytes m) (hl : m.length ≤ 140737488355328) : Row (w.alloc (.cells (m.map (Value.int .u8)).toArray 5)) (some ⟨w.heap.size, 0, none⟩) m := by
  refine ⟨hl, hm, .inr ⟨w.heap.size, 0, rfl, fun i hi => ?_⟩⟩
  have := lit_cells w m w.heap.size rfl i (.int .u8 (m[i]?.getD 0)) (by simp [hi])
  rwa [add_plain] at this

theorem fp_next {w : World} {g r : Nat} {v v' : Value} (hm : Moved w v v') (h : r ∉ fp g v) (hr : r < w.heap.size) : r ∉ fp g v' := by
  intro hx
  simp only [fp, List.mem_cons, Option.mem_toList] at hx
  rcases hx with hx | hx
  · exact h (by rw [hx]; exact fp_self _ _)
  · rcases hm r hx with h1 | h1
    · exact h (fp_own h1)
    · omega
theorem fp_none {g r : Nat} {v : Value} (hv : v.ownBlock = none) (h : r ≠ g) : r ∉ fp g v := by simp [fp, hv, h]
theorem fp_new {B g : Nat} {w : World} {v v' : Value} (hm : Moved w v v') (h : ∀ k ∈ fp g v, B ≤ k) (hB : B ≤ w.heap.size) : ∀ k ∈ fp g v', B ≤ k := by
  intro k hk
  simp only [fp, List.mem_cons, Option.mem_toList] at hk
  rcases hk with rfl | hk
  · exact h _ (fp_self _ _)
  · rcases hm k hk with h1 | h1
    · exact h k (fp_own h1)
    · omega

set_option maxHeartbeats 1000000 in
theorem alive_any (w : World) : Calls Try.prog 9 #[] w fun E w' => E = .returned (.bool true) ∧ Away [] w w' := by
  go_enter Try.func9, Try.ntmps9
  go_wp2_with fail
  refine (newWriter_any 6 _ (by omega) (by omega)).mono ?_
  rintro E w1 ⟨g, v, rfl, hwr, hg, hv, haw1⟩
  rw [show limOf 6 = 6 from by decide] at hwr
  have hs1 := haw1.size
  have hglt := (hwr.lt).1
  go_wp2_with fail
  refine (newReader_any _ [1, 2, 3, 4, 5] _ _ _ rfl (by simp) (by exact Row.lit w1 [1, 2, 3, 4, 5] (by unfold Bytes; decide) (by decide))).mono ?_
  rintro E w2 ⟨r, d, rfl, hrd, hr, hd, haw2⟩
  have haw2' : Away [] w1 w2 := ((Away.refl [] w1).alloc _).next haw2 (by simp)
  have hs2 := haw2'.size
  have hr1 : r ∉ fp g v := fp_none hv (by simp at hr; omega)
  have hd1 : d ∉ fp g v := fp_none hv (by simp at hd; omega)
  have hwr := hwr.away haw2' (by simp) (by simp [hv])
  have haw := haw1.next haw2' (by simp)
  have hB : ∀ k ∈ fp g v, w.heap.size ≤ k := by intro k hk; simp [fp, hv] at hk; omega
  have hrB : ∀ k ∈ [r], w.heap.size ≤ k := by intro k hk; simp at hk hr; omega
  clear haw1 haw2 haw2' hr hd hv hs1 hs2 hglt
  have hsz := haw.size
  go_wp2_with fail
  refine (w16_any _ g v 6 [] 0 258 (by exact hwr) (by omega) (by omega)).mono ?_
  rintro E w3 ⟨rfl, v3, hwr3, hm3, haw3⟩
  rw [show wrAll [] 0 6 [258 / 256, 258 % 256] = [1, 2] from by decide, show wrErr [] 0 6 2 = 0 from by decide] at hwr3
  have hr3 := fp_next hm3 hr1 hrd.lt.1
  have hd3 := fp_next hm3 hd1 hrd.lt.2
  have hB3 := fp_new hm3 hB hsz
  have hrd3 := hrd.away haw3 hr1 hd1
  have haw4 := haw.next haw3 (fun k hk => .inr (hB k hk))
  have hsz4 := haw4.size
  clear hwr hrd hr1 hd1 hB hm3 haw3 haw hsz
  go_wp2_with fail
  refine (w32_any _ g v3 6 [1, 2] 0 7 (by exact hwr3) (by omega) (by omega)).mono ?_
  rintro E w4 ⟨rfl, v4, hwr4, hm4, haw5⟩
  rw [show wrAll [1, 2] 0 6 [7 / 16777216, 7 / 65536 % 256, 7 / 256 % 256, 7 % 256] = [1, 2, 0, 0, 0, 7] from by decide, show wrErr [1, 2] 0 6 4 = 0 from by decide] at hwr4
  have hr4 := fp_next hm4 hr3 hrd3.lt.1
  have hd4 := fp_next hm4 hd3 hrd3.lt.2
  have hB4 := fp_new hm4 hB3 hsz4
  have hrd4 := hrd3.away haw5 hr3 hd3
  have haw6 := haw4.next haw5 (fun k hk => .inr (hB3 k hk))
  have hsz6 := haw6.size
  clear hwr3 hrd3 hr3 hd3 hB3 hm4 haw4 haw5 hsz4
  go_wp2_with fail
  refine (put16_any _ g v4 6 [1, 2, 0, 0, 0, 7] 0 4 65534 (by exact hwr4) (by omega) (by omega) (by omega) (by omega)).mono ?_
  rintro E w5 ⟨rfl, v5, hwr5, hm5, haw7⟩
  rw [show putAll [1, 2, 0, 0, 0, 7] 0 4 65534 = [1, 2, 0, 0, 255, 254] from by decide, show putErr [1, 2, 0, 0, 0, 7] 0 4 = 0 from by decide] at hwr5
  have hrd5 := hrd4.away haw7 hr4 hd4
  have haw8 := haw6.next haw7 (fun k hk => .inr (hB4 k hk))
  clear hwr4 hrd4 hr4 hd4 hB4 hm5 haw6 haw7 hsz6
  go_wp2_with fail
  refine (out_any _ g v5 6 _ 0 (by exact hwr5)).mono ?_
  rintro E w6 ⟨v6, rfl, hown, hnew, haw9⟩
  rw [show wrOut [1, 2, 0, 0, 255, 254] 0 = [1, 2, 0, 0, 255, 254] from by decide] at hown
  have hrd6 := hrd5.away haw9 (by simp) (by simp)
  have haw10 := haw8.next haw9 (by simp)
  obtain ⟨a6, cap6, rfl, hcap6, hnone6, hrow6, _⟩ := hown.row (by decide) (by unfold Bytes; decide)
  clear hwr5 hrd5 haw8 haw9 hown hnew
  go_wp2_with fail
  refine (same_yes _ _ [1, 2, 0, 0, 255, 254] [1, 2, 0, 0, 255, 254] _ _ _ _ _ rfl rfl hnone6 (by simp) (by exact hrow6.away ((Away.refl [] _).alloc _) (by simp)) (by exact Row.lit w6 [1, 2, 0, 0, 255, 254] (by unfold Bytes; decide) (by decide)) rfl).mono ?_
  rintro E w' ⟨rfl, rfl⟩
  have hrd7 := hrd6.away ((Away.refl [] _).alloc (.cells #[.int .u8 1, .int .u8 2, .int .u8 0, .int .u8 0, .int .u8 255, .int .u8 254] 5)) (by simp) (by simp)
  have haw11 := haw10.alloc (.cells #[.int .u8 1, .int .u8 2, .int .u8 0, .int .u8 0, .int .u8 255, .int .u8 254] 5)
  clear hrd6 haw10 hrow6
  go_wp2_with fail
  refine (u16_any _ r d _ 0 (by exact hrd7)).mono ?_
  rintro E w7 ⟨rfl, hrd8, haw12⟩
  rw [show rdRest [1, 2, 3, 4, 5] 0 2 = [3, 4, 5] from by decide, show rdErr [1, 2, 3, 4, 5] 0 2 = 0 from by decide] at hrd8
  rw [show num (rdOut [1, 2, 3, 4, 5] 0 2) = 258 from by decide]
  have haw13 := haw11.next haw12 (fun k hk => .inr (hrB k hk))
  clear hrd7 haw11 haw12
  go_wp2_with fail
  refine (left_any _ r d _ 0 (by exact hrd8)).mono ?_
  rintro E w' ⟨rfl, rfl⟩
  go_wp2_with fail
  refine (u32_any _ r d _ 0 (by exact hrd8)).mono ?_
  rintro E w8 ⟨rfl, hrd9, haw14⟩
  rw [show rdRest [3, 4, 5] 0 4 = [3, 4, 5] from by decide, show rdErr [3, 4, 5] 0 4 = 20 from by decide] at hrd9
  rw [show num (rdOut [3, 4, 5] 0 4) = 0 from by decide]
  have haw15 := haw13.next haw14 (fun k hk => .inr (hrB k hk))
  clear hrd8 haw13 haw14
  go_wp2_with fail
  refine (err_any _ r d _ 20 (by exact hrd9)).mono ?_
  rintro E w' ⟨rfl, rfl⟩
  go_wp2_with fail
  go_ret
  exact ⟨rfl, haw15⟩
#print axioms alive_any
end Go.Proofs.Ytaiomhhndckccaa
