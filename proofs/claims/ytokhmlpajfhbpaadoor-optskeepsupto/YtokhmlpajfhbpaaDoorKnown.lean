/-
  known.
-/
import Derived.Test.YtokhmlpajfhbpaaDoorCarry
import Derived.Test.YtokhmlpajfhbpaaDoorSame
namespace Go.Proofs.YtokhmlpajfhbpaaDoor
open Go.ChangeShapes Go.WideShapes Go.ChangeAt Go.RowKit
set_option linter.unusedVariables false

theorem parse_known : parseP [1, 68, 4, 170, 187, 0, 0, 0] = some [(1, []), (68, [170, 187])] := by
  have : [1, 68, 4, 170, 187, 0, 0, 0] = flat [(1, []), (68, [170, 187])] ++ List.replicate 3 0 := by decide
  rw [this, parse_laid]
  intro o ho
  simp at ho
  rcases ho with rfl | rfl
  · exact ⟨by decide, by decide, fun _ => rfl, by decide⟩
  · exact ⟨by decide, by decide, fun h => by simp at h, by decide⟩
theorem build_known : buildP [(1, []), (130, [7])] = ([1, 130, 3, 7], 0) := by decide
theorem carry_known : carryP [1, 130, 3, 7] = [130, 3, 7, 0] := by
  have : [1, 130, 3, 7] = laidP [(1, []), (130, [7])] := by decide
  rw [this, carry_laid (by decide) (by decide)]
  decide
theorem two_of {xs : List V} {p q : O} (h : xs.map V.o = [p, q]) : ∃ x y, xs = [x, y] ∧ x.o = p ∧ y.o = q := by
  match xs, h with
  | [x, y], h => simp at h; exact ⟨x, y, rfl, h.1, h.2⟩
theorem optsKnown (w : World) : Opts ((w.alloc (.cells #[.int .u8 7] 5)).alloc (.cells #[.int .i64 1, .slice none 0 0, .int .i64 130, .slice (some ⟨w.heap.size, 0, none⟩) 1 1] 38)) (some ⟨w.heap.size + 1, 0, none⟩) [⟨1, none, 0, []⟩, ⟨130, some ⟨w.heap.size, 0, none⟩, 1, [7]⟩] := by
  refine ⟨by simp, ?_, .inr ⟨w.heap.size + 1, 0, rfl, fun i x hx => ?_⟩⟩
  · intro x hx
    simp only [List.mem_cons, List.not_mem_nil, or_false] at hx
    rcases hx with rfl | rfl
    · exact ⟨by unfold I64; simp, Row.nil _ _, fun _ => rfl, by simp⟩
    · refine ⟨by unfold I64; simp, ?_, by simp, by simp⟩
      exact (Row.lit w [7] (by unfold Bytes; decide) (by decide)).away ((Away.refl [] _).alloc _) (by simp)
  · match i, hx with
    | 0, hx =>
      simp at hx; subst hx
      constructor
      all_goals
        rw [World.cell?_alloc_at (hn := by simp)]; rfl
    | 1, hx =>
      simp at hx; subst hx
      constructor
      all_goals
        rw [World.cell?_alloc_at (hn := by simp)]; rfl
    | j + 2, hx => simp at hx

set_option maxHeartbeats 4000000 in
theorem known_c (w : World) (hg : Glob w) : Calls Tryd.prog 10 #[] w fun E w' => E = .returned (.bool true) ∧ Away [] w w' := by
  have HG : Hid (Glob w) := hg
  clear hg
  go_enter Tryd.func10, Tryd.ntmps10
  go_wp2_with fail
  refine (parse_c _ [1, 68, 4, 170, 187, 0, 0, 0] _ _ _ rfl (by simp) (by simp) (by exact Row.lit w [1, 68, 4, 170, 187, 0, 0, 0] (by unfold Bytes; decide) (by decide)) (by exact HG.out.on ((Away.refl [] w).alloc _))).mono ?_
  rintro E w1 ⟨haw1, ⟨hp, rfl⟩ | ⟨v, xs, hp, rfl, hm, hxl⟩⟩
  · rw [parse_known] at hp; simp at hp
  · rw [parse_known] at hp
    obtain ⟨x, y, rfl, hx, hy⟩ := two_of (Option.some.inj hp).symm
    obtain ⟨va, vc, rfl, hvc, hvn, hopts, _⟩ := hm.opts (by simp)
    obtain ⟨xk, xa, xc, xb⟩ := x
    obtain ⟨yk, ya, yc, yb⟩ := y
    simp only [V.o, Prod.mk.injEq] at hx hy
    obtain ⟨rfl, rfl⟩ := hx
    obtain ⟨rfl, rfl⟩ := hy
    have haw2 : Away [] w w1 := ((Away.refl [] w).alloc _).next haw1 (by simp)
    have HOP : Hid (Opts w1 va [⟨1, xa, xc, []⟩, ⟨68, ya, yc, [170, 187]⟩]) := hopts
    have HG1 : Hid (Glob w1) := HG.out.on haw2
    clear hp hm hopts haw1 hxl
    go_wp2_with fail
    refine (build_c _ [⟨1, none, 0, []⟩, ⟨130, some ⟨w1.heap.size, 0, none⟩, 1, [7]⟩] _ _ _ rfl (by exact optsKnown w1) (by exact HG1.out.on (((Away.refl [] w1).alloc _).alloc _))).mono ?_
    rintro E w2 ⟨haw3, v2, rfl, hown, hnew⟩
    have e2 : (buildP [(1, []), (130, [7])]) = ([1, 130, 3, 7], 0) := build_known
    simp only [List.map_cons, List.map_nil, V.o] at hown ⊢
    rw [e2] at hown ⊢
    simp only at hown ⊢
    obtain ⟨ba, bc, rfl, hbc, hbn, hbr, _⟩ := hown.row (by decide) (by unfold Bytes; decide)
    have haw4 : Away [] w1 w2 := (((Away.refl [] w1).alloc _).alloc _).next haw3 (by simp)
    have haw5 := haw2.next haw4 (by simp)
    have hop2 := HOP.out.on haw4
    obtain ⟨b1, o1, rfl, c0, _, _⟩ := cells_opts hop2 (k := 0) (x := ⟨1, xa, xc, []⟩) rfl
    obtain ⟨_, _, h, c2, c3, r3⟩ := cells_opts hop2 (k := 1) (x := ⟨68, ya, yc, [170, 187]⟩) rfl
    simp only [Option.some.injEq, Addr.mk.injEq, and_true] at h
    obtain ⟨rfl, rfl⟩ := h
    simp only [Nat.zero_mul, Nat.one_mul, Nat.add_zero] at c0 c2 c3
    have HR3 : Hid (Row w2 ya [170, 187]) := r3
    have HRB : Hid (Row w2 ba [1, 130, 3, 7]) := hbr
    have HG2 : Hid (Glob w2) := HG.out.on haw5
    clear hown hnew haw3 haw4 hop2 haw2 hbr r3 e2
    go_wp2_with fail
    refine (same_b (z := true) _ _ [170, 187] [170, 187] _ _ _ _ _ rfl rfl (by exact HR3.out.away ((Away.refl [] _).alloc _) (by simp)) (by exact Row.lit w2 [170, 187] (by unfold Bytes; decide) (by decide)) (by simp)).mono ?_
    rintro E w3 ⟨rfl, n3, hw3⟩
    have haw6 : Away [] w2 w3 := by rw [hw3]; exact ((Away.refl [] w2).alloc _).drewN _
    clear hw3
    have haw7 := haw5.next haw6 (by simp)
    have HRB3 : Hid (Row w3 ba [1, 130, 3, 7]) := HRB.out.away haw6 (by simp)
    have HG3 : Hid (Glob w3) := HG.out.on haw7
    clear haw5 haw6 c0 c2 c3
    go_wp2_with fail
    refine (same_b (z := true) _ _ [1, 130, 3, 7] [1, 130, 3, 7] _ _ _ _ _ rfl rfl (by exact HRB3.out.away ((Away.refl [] _).alloc _) (by simp)) (by exact Row.lit w3 [1, 130, 3, 7] (by unfold Bytes; decide) (by decide)) (by simp)).mono ?_
    rintro E w4 ⟨rfl, n4, hw4⟩
    have haw8 : Away [] w3 w4 := by rw [hw4]; exact ((Away.refl [] w3).alloc _).drewN _
    clear hw4
    have haw9 := haw7.next haw8 (by simp)
    have HRB4 : Hid (Row w4 ba [1, 130, 3, 7]) := HRB3.out.away haw8 (by simp)
    have HG4 : Hid (Glob w4) := HG.out.on haw9
    clear haw7 haw8
    go_wp2_with fail
    refine (carry_c ba [1, 130, 3, 7] _ _ _ rfl hbc (by exact HRB4.out) (by exact HG4.out)).mono ?_
    rintro E w5 ⟨v5, rfl, hown5, hnew5, haw10⟩
    rw [carry_known] at hown5
    obtain ⟨da, dc, rfl, hdc, hdn, hdr, _⟩ := hown5.row (by decide) (by unfold Bytes; decide)
    have haw11 := haw9.next haw10 (by simp)
    have HD : Hid (Row w5 da [130, 3, 7, 0]) := hdr
    clear hown5 hnew5 haw9 haw10 hdr
    go_wp2_with fail
    refine (same_b (z := true) _ _ [130, 3, 7, 0] [130, 3, 7, 0] _ _ _ _ _ rfl rfl (by exact HD.out.away ((Away.refl [] _).alloc _) (by simp)) (by exact Row.lit w5 [130, 3, 7, 0] (by unfold Bytes; decide) (by decide)) (by simp)).mono ?_
    rintro E w6 ⟨rfl, n6, hw6⟩
    have haw12 : Away [] w w6 := haw11.next (by rw [hw6]; exact ((Away.refl [] w5).alloc _).drewN _) (by simp)
    clear hw6
    go_wp2_with fail
    go_ret
    exact ⟨rfl, haw12⟩
#print axioms known_c
end Go.Proofs.YtokhmlpajfhbpaaDoor
