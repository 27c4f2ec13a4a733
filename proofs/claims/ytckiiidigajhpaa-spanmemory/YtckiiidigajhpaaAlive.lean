/-
  alive.
-/
import Derived.Test.YtckiiidigajhpaaKit
namespace Go.Proofs.Ytckiiidigajhpaa
open Go.ChangeShapes Go.WideShapes Go.ChangeAt Go.RowKit
set_option linter.unusedVariables false

theorem of_norm : Of [(0, 16), (32, 40)] (inB [(8, 16), (0, 8), (32, 40), (36, 38)]) := by
  refine ⟨by decide, fun n => ?_⟩
  rw [Bool.eq_iff_iff]
  simp only [inB, inS, List.any_cons, List.any_nil, Bool.or_false, Bool.or_eq_true, decide_eq_true_eq]
  omega
set_option maxHeartbeats 4000000 in
theorem alive_c (w : World) : Calls Try.prog 8 #[] w fun E w' => E = .returned (.bool true) ∧ Away [] w w' := by
  have HW : Hid (Away [] w w) := Away.refl _ _
  have HL : Hid (Sl (w.alloc (.cells #[.int .i64 0, .int .i64 8, .int .i64 16, .int .i64 24] 29)) (some ⟨w.heap.size, 0, none⟩) 2 [(0, 8), (16, 24)]) := lit_row w [(0, 8), (16, 24)] (by decide) (by simp [OkS, I64])
  replace HW := hidI (HW.out.trans ((Away.refl [] w).alloc (.cells #[.int .i64 0, .int .i64 8, .int .i64 16, .int .i64 24] 29)))
  go_enter Try.func8, Try.ntmps8
  go_wp2_with fail
  refine (addY (l := [(0, 8), (16, 24)]) (8, 16) [(0, 24)] (by exact HL.out) rfl (by intro p hp; simp at hp; subst hp; simp) (by decide) (by decide) (by decide)).mono ?_
  rintro E w1 ⟨aA, cA, nA, rfl, hnA, hsA, haw⟩
  replace HW := hidI (HW.out.trans haw)
  replace HL := hidI (HL.out.on haw)
  have HA := hidI hsA
  have NA := hidI hnA
  clear hsA hnA haw
  go_wp2_with fail
  refine (cutY (l := [(0, 8), (16, 24)]) (4, 20) [(0, 4), (20, 24)] (by exact HL.out) rfl (by decide) (by decide) (by decide)).mono ?_
  rintro E w2 ⟨aC, cC, nC, rfl, hnC, hsC, haw⟩
  replace HW := hidI (HW.out.trans haw)
  replace HL := hidI (HL.out.on haw)
  replace HA := hidI (HA.out.on haw)
  have HC := hidI hsC
  have NC := hidI hnC
  clear hsC hnC haw
  have HX : Hid (Sl (w2.alloc (.cells #[.int .i64 8, .int .i64 16, .int .i64 0, .int .i64 8, .int .i64 32, .int .i64 40, .int .i64 36, .int .i64 38] 29)) (some ⟨w2.heap.size, 0, none⟩) 4 [(8, 16), (0, 8), (32, 40), (36, 38)]) := lit_row w2 [(8, 16), (0, 8), (32, 40), (36, 38)] (by decide) (by simp [OkS, I64])
  replace HW := hidI (HW.out.trans ((Away.refl [] w2).alloc (.cells #[.int .i64 8, .int .i64 16, .int .i64 0, .int .i64 8, .int .i64 32, .int .i64 40, .int .i64 36, .int .i64 38] 29)))
  replace HL := hidI (HL.out.on ((Away.refl [] w2).alloc (.cells #[.int .i64 8, .int .i64 16, .int .i64 0, .int .i64 8, .int .i64 32, .int .i64 40, .int .i64 36, .int .i64 38] 29)))
  replace HA := hidI (HA.out.on ((Away.refl [] w2).alloc (.cells #[.int .i64 8, .int .i64 16, .int .i64 0, .int .i64 8, .int .i64 32, .int .i64 40, .int .i64 36, .int .i64 38] 29)))
  replace HC := hidI (HC.out.on ((Away.refl [] w2).alloc (.cells #[.int .i64 8, .int .i64 16, .int .i64 0, .int .i64 8, .int .i64 32, .int .i64 40, .int .i64 36, .int .i64 38] 29)))
  go_wp2_with fail
  refine (normY (l := [(8, 16), (0, 8), (32, 40), (36, 38)]) [(0, 16), (32, 40)] (by exact HX.out) rfl (by decide) of_norm).mono ?_
  rintro E w3 ⟨aN, cN, nN, rfl, hnN, hsN, haw⟩
  replace HW := hidI (HW.out.trans haw)
  replace HL := hidI (HL.out.on haw)
  replace HA := hidI (HA.out.on haw)
  replace HC := hidI (HC.out.on haw)
  replace HX := hidI (HX.out.on haw)
  have HN := hidI hsN
  have NN := hidI hnN
  clear hsN hnN haw
  go_wp2_with fail
  refine (holesY (l := [(0, 8), (16, 24)]) 30 [(8, 16), (24, 30)] (by exact HL.out) rfl (by decide) (by decide) (by decide)).mono ?_
  rintro E w4 ⟨aG, cG, nG, rfl, hnG, hsG, haw⟩
  replace HW := hidI (HW.out.trans haw)
  replace HL := hidI (HL.out.on haw)
  replace HA := hidI (HA.out.on haw)
  replace HC := hidI (HC.out.on haw)
  replace HX := hidI (HX.out.on haw)
  replace HN := hidI (HN.out.on haw)
  have HG := hidI hsG
  have NG := hidI hnG
  clear hsG hnG haw
  have HY : Hid (Sl (w4.alloc (.cells #[.int .i64 0, .int .i64 24] 29)) (some ⟨w4.heap.size, 0, none⟩) 1 [(0, 24)]) := lit_row w4 [(0, 24)] (by decide) (by simp [OkS, I64])
  replace HW := hidI (HW.out.trans ((Away.refl [] w4).alloc (.cells #[.int .i64 0, .int .i64 24] 29)))
  replace HL := hidI (HL.out.on ((Away.refl [] w4).alloc (.cells #[.int .i64 0, .int .i64 24] 29)))
  replace HA := hidI (HA.out.on ((Away.refl [] w4).alloc (.cells #[.int .i64 0, .int .i64 24] 29)))
  replace HC := hidI (HC.out.on ((Away.refl [] w4).alloc (.cells #[.int .i64 0, .int .i64 24] 29)))
  replace HX := hidI (HX.out.on ((Away.refl [] w4).alloc (.cells #[.int .i64 0, .int .i64 24] 29)))
  replace HN := hidI (HN.out.on ((Away.refl [] w4).alloc (.cells #[.int .i64 0, .int .i64 24] 29)))
  replace HG := hidI (HG.out.on ((Away.refl [] w4).alloc (.cells #[.int .i64 0, .int .i64 24] 29)))
  go_wp2_with fail
  refine (same_s (z := true) (l := [(0, 24)]) (m := [(0, 24)]) (by exact HA.out) (by exact HY.out) NA.out rfl (by decide)).mono ?_
  rintro E w5 ⟨rfl, haw⟩
  replace HW := hidI (HW.out.trans haw)
  replace HL := hidI (HL.out.on haw)
  replace HA := hidI (HA.out.on haw)
  replace HC := hidI (HC.out.on haw)
  replace HX := hidI (HX.out.on haw)
  replace HN := hidI (HN.out.on haw)
  replace HG := hidI (HG.out.on haw)
  replace HY := hidI (HY.out.on haw)
  clear haw
  have HY2 : Hid (Sl (w5.alloc (.cells #[.int .i64 0, .int .i64 4, .int .i64 20, .int .i64 24] 29)) (some ⟨w5.heap.size, 0, none⟩) 2 [(0, 4), (20, 24)]) := lit_row w5 [(0, 4), (20, 24)] (by decide) (by simp [OkS, I64])
  replace HW := hidI (HW.out.trans ((Away.refl [] w5).alloc (.cells #[.int .i64 0, .int .i64 4, .int .i64 20, .int .i64 24] 29)))
  replace HL := hidI (HL.out.on ((Away.refl [] w5).alloc (.cells #[.int .i64 0, .int .i64 4, .int .i64 20, .int .i64 24] 29)))
  replace HA := hidI (HA.out.on ((Away.refl [] w5).alloc (.cells #[.int .i64 0, .int .i64 4, .int .i64 20, .int .i64 24] 29)))
  replace HC := hidI (HC.out.on ((Away.refl [] w5).alloc (.cells #[.int .i64 0, .int .i64 4, .int .i64 20, .int .i64 24] 29)))
  replace HX := hidI (HX.out.on ((Away.refl [] w5).alloc (.cells #[.int .i64 0, .int .i64 4, .int .i64 20, .int .i64 24] 29)))
  replace HN := hidI (HN.out.on ((Away.refl [] w5).alloc (.cells #[.int .i64 0, .int .i64 4, .int .i64 20, .int .i64 24] 29)))
  replace HG := hidI (HG.out.on ((Away.refl [] w5).alloc (.cells #[.int .i64 0, .int .i64 4, .int .i64 20, .int .i64 24] 29)))
  replace HY := hidI (HY.out.on ((Away.refl [] w5).alloc (.cells #[.int .i64 0, .int .i64 4, .int .i64 20, .int .i64 24] 29)))
  go_wp2_with fail
  refine (same_s (z := true) (l := [(0, 4), (20, 24)]) (m := [(0, 4), (20, 24)]) (by exact HC.out) (by exact HY2.out) NC.out rfl (by decide)).mono ?_
  rintro E w6 ⟨rfl, haw⟩
  replace HW := hidI (HW.out.trans haw)
  replace HL := hidI (HL.out.on haw)
  replace HA := hidI (HA.out.on haw)
  replace HC := hidI (HC.out.on haw)
  replace HX := hidI (HX.out.on haw)
  replace HN := hidI (HN.out.on haw)
  replace HG := hidI (HG.out.on haw)
  replace HY := hidI (HY.out.on haw)
  replace HY2 := hidI (HY2.out.on haw)
  clear haw
  have HY3 : Hid (Sl (w6.alloc (.cells #[.int .i64 0, .int .i64 16, .int .i64 32, .int .i64 40] 29)) (some ⟨w6.heap.size, 0, none⟩) 2 [(0, 16), (32, 40)]) := lit_row w6 [(0, 16), (32, 40)] (by decide) (by simp [OkS, I64])
  replace HW := hidI (HW.out.trans ((Away.refl [] w6).alloc (.cells #[.int .i64 0, .int .i64 16, .int .i64 32, .int .i64 40] 29)))
  replace HL := hidI (HL.out.on ((Away.refl [] w6).alloc (.cells #[.int .i64 0, .int .i64 16, .int .i64 32, .int .i64 40] 29)))
  replace HA := hidI (HA.out.on ((Away.refl [] w6).alloc (.cells #[.int .i64 0, .int .i64 16, .int .i64 32, .int .i64 40] 29)))
  replace HC := hidI (HC.out.on ((Away.refl [] w6).alloc (.cells #[.int .i64 0, .int .i64 16, .int .i64 32, .int .i64 40] 29)))
  replace HX := hidI (HX.out.on ((Away.refl [] w6).alloc (.cells #[.int .i64 0, .int .i64 16, .int .i64 32, .int .i64 40] 29)))
  replace HN := hidI (HN.out.on ((Away.refl [] w6).alloc (.cells #[.int .i64 0, .int .i64 16, .int .i64 32, .int .i64 40] 29)))
  replace HG := hidI (HG.out.on ((Away.refl [] w6).alloc (.cells #[.int .i64 0, .int .i64 16, .int .i64 32, .int .i64 40] 29)))
  replace HY := hidI (HY.out.on ((Away.refl [] w6).alloc (.cells #[.int .i64 0, .int .i64 16, .int .i64 32, .int .i64 40] 29)))
  replace HY2 := hidI (HY2.out.on ((Away.refl [] w6).alloc (.cells #[.int .i64 0, .int .i64 16, .int .i64 32, .int .i64 40] 29)))
  go_wp2_with fail
  refine (same_s (z := true) (l := [(0, 16), (32, 40)]) (m := [(0, 16), (32, 40)]) (by exact HN.out) (by exact HY3.out) NN.out rfl (by decide)).mono ?_
  rintro E w7 ⟨rfl, haw⟩
  replace HW := hidI (HW.out.trans haw)
  replace HL := hidI (HL.out.on haw)
  replace HA := hidI (HA.out.on haw)
  replace HC := hidI (HC.out.on haw)
  replace HX := hidI (HX.out.on haw)
  replace HN := hidI (HN.out.on haw)
  replace HG := hidI (HG.out.on haw)
  replace HY := hidI (HY.out.on haw)
  replace HY2 := hidI (HY2.out.on haw)
  replace HY3 := hidI (HY3.out.on haw)
  clear haw
  have HY4 : Hid (Sl (w7.alloc (.cells #[.int .i64 8, .int .i64 16, .int .i64 24, .int .i64 30] 29)) (some ⟨w7.heap.size, 0, none⟩) 2 [(8, 16), (24, 30)]) := lit_row w7 [(8, 16), (24, 30)] (by decide) (by simp [OkS, I64])
  replace HW := hidI (HW.out.trans ((Away.refl [] w7).alloc (.cells #[.int .i64 8, .int .i64 16, .int .i64 24, .int .i64 30] 29)))
  replace HL := hidI (HL.out.on ((Away.refl [] w7).alloc (.cells #[.int .i64 8, .int .i64 16, .int .i64 24, .int .i64 30] 29)))
  replace HA := hidI (HA.out.on ((Away.refl [] w7).alloc (.cells #[.int .i64 8, .int .i64 16, .int .i64 24, .int .i64 30] 29)))
  replace HC := hidI (HC.out.on ((Away.refl [] w7).alloc (.cells #[.int .i64 8, .int .i64 16, .int .i64 24, .int .i64 30] 29)))
  replace HX := hidI (HX.out.on ((Away.refl [] w7).alloc (.cells #[.int .i64 8, .int .i64 16, .int .i64 24, .int .i64 30] 29)))
  replace HN := hidI (HN.out.on ((Away.refl [] w7).alloc (.cells #[.int .i64 8, .int .i64 16, .int .i64 24, .int .i64 30] 29)))
  replace HG := hidI (HG.out.on ((Away.refl [] w7).alloc (.cells #[.int .i64 8, .int .i64 16, .int .i64 24, .int .i64 30] 29)))
  replace HY := hidI (HY.out.on ((Away.refl [] w7).alloc (.cells #[.int .i64 8, .int .i64 16, .int .i64 24, .int .i64 30] 29)))
  replace HY2 := hidI (HY2.out.on ((Away.refl [] w7).alloc (.cells #[.int .i64 8, .int .i64 16, .int .i64 24, .int .i64 30] 29)))
  replace HY3 := hidI (HY3.out.on ((Away.refl [] w7).alloc (.cells #[.int .i64 8, .int .i64 16, .int .i64 24, .int .i64 30] 29)))
  go_wp2_with fail
  refine (same_s (z := true) (l := [(8, 16), (24, 30)]) (m := [(8, 16), (24, 30)]) (by exact HG.out) (by exact HY4.out) NG.out rfl (by decide)).mono ?_
  rintro E w8 ⟨rfl, haw⟩
  replace HW := hidI (HW.out.trans haw)
  replace HL := hidI (HL.out.on haw)
  replace HA := hidI (HA.out.on haw)
  replace HC := hidI (HC.out.on haw)
  replace HX := hidI (HX.out.on haw)
  replace HN := hidI (HN.out.on haw)
  replace HG := hidI (HG.out.on haw)
  replace HY := hidI (HY.out.on haw)
  replace HY2 := hidI (HY2.out.on haw)
  replace HY3 := hidI (HY3.out.on haw)
  replace HY4 := hidI (HY4.out.on haw)
  clear haw
  go_wp2_with fail
  refine (rightS (z := true) (l := [(0, 8), (16, 24)]) (by exact HL.out) rfl (by decide)).mono ?_
  rintro E w9 ⟨rfl, haw⟩
  replace HW := hidI (HW.out.trans haw)
  replace HL := hidI (HL.out.on haw)
  replace HA := hidI (HA.out.on haw)
  replace HC := hidI (HC.out.on haw)
  replace HX := hidI (HX.out.on haw)
  replace HN := hidI (HN.out.on haw)
  replace HG := hidI (HG.out.on haw)
  replace HY := hidI (HY.out.on haw)
  replace HY2 := hidI (HY2.out.on haw)
  replace HY3 := hidI (HY3.out.on haw)
  replace HY4 := hidI (HY4.out.on haw)
  clear haw
  have q1 : w9.cell? ⟨w.heap.size, 2, none⟩ = some (.int .i64 16) := by
    obtain ⟨b, off, hb, c1, c2, -⟩ := HL.out.row.at (k := 1) (x := (16, 24)) rfl
    simp only [Option.some.injEq, Addr.mk.injEq] at hb
    obtain ⟨rfl, rfl, -⟩ := hb
    exact c1
  have q2 : w9.cell? ⟨w.heap.size, 3, none⟩ = some (.int .i64 24) := by
    obtain ⟨b, off, hb, c1, c2, -⟩ := HL.out.row.at (k := 1) (x := (16, 24)) rfl
    simp only [Option.some.injEq, Addr.mk.injEq] at hb
    obtain ⟨rfl, rfl, -⟩ := hb
    exact c2
  go_wp2_with fail
  refine (hasS (z := true) (l := [(0, 8), (16, 24)]) (16, 24) (by exact HL.out) rfl (by decide)).mono ?_
  rintro E w10 ⟨rfl, haw⟩
  replace HW := hidI (HW.out.trans haw)
  replace HL := hidI (HL.out.on haw)
  replace HA := hidI (HA.out.on haw)
  replace HC := hidI (HC.out.on haw)
  replace HX := hidI (HX.out.on haw)
  replace HN := hidI (HN.out.on haw)
  replace HG := hidI (HG.out.on haw)
  replace HY := hidI (HY.out.on haw)
  replace HY2 := hidI (HY2.out.on haw)
  replace HY3 := hidI (HY3.out.on haw)
  replace HY4 := hidI (HY4.out.on haw)
  clear haw
  go_wp2_with fail
  refine (meetsS (z := true) (l := [(0, 8), (16, 24)]) (7, 9) (by exact HL.out) rfl (by decide)).mono ?_
  rintro E w11 ⟨rfl, haw⟩
  replace HW := hidI (HW.out.trans haw)
  replace HL := hidI (HL.out.on haw)
  replace HA := hidI (HA.out.on haw)
  replace HC := hidI (HC.out.on haw)
  replace HX := hidI (HX.out.on haw)
  replace HN := hidI (HN.out.on haw)
  replace HG := hidI (HG.out.on haw)
  replace HY := hidI (HY.out.on haw)
  replace HY2 := hidI (HY2.out.on haw)
  replace HY3 := hidI (HY3.out.on haw)
  replace HY4 := hidI (HY4.out.on haw)
  clear haw
  go_wp2_with fail
  refine (meetsS (z := false) (l := [(0, 8), (16, 24)]) (8, 9) (by exact HL.out) rfl (by decide)).mono ?_
  rintro E w12 ⟨rfl, haw⟩
  replace HW := hidI (HW.out.trans haw)
  replace HL := hidI (HL.out.on haw)
  replace HA := hidI (HA.out.on haw)
  replace HC := hidI (HC.out.on haw)
  replace HX := hidI (HX.out.on haw)
  replace HN := hidI (HN.out.on haw)
  replace HG := hidI (HG.out.on haw)
  replace HY := hidI (HY.out.on haw)
  replace HY2 := hidI (HY2.out.on haw)
  replace HY3 := hidI (HY3.out.on haw)
  replace HY4 := hidI (HY4.out.on haw)
  clear haw
  go_wp2_with fail
  refine (sizeS (z := 16) (l := [(0, 8), (16, 24)]) (by exact HL.out) rfl (by decide)).mono ?_
  rintro E w13 ⟨rfl, haw⟩
  replace HW := hidI (HW.out.trans haw)
  replace HL := hidI (HL.out.on haw)
  replace HA := hidI (HA.out.on haw)
  replace HC := hidI (HC.out.on haw)
  replace HX := hidI (HX.out.on haw)
  replace HN := hidI (HN.out.on haw)
  replace HG := hidI (HG.out.on haw)
  replace HY := hidI (HY.out.on haw)
  replace HY2 := hidI (HY2.out.on haw)
  replace HY3 := hidI (HY3.out.on haw)
  replace HY4 := hidI (HY4.out.on haw)
  clear haw
  go_wp2_with fail
  go_ret
  exact ⟨rfl, HW.out⟩
#print axioms alive_c
end Go.Proofs.Ytckiiidigajhpaa
