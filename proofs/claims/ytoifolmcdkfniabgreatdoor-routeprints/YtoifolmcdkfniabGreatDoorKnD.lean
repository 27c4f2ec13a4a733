/-
  The chapter's first examples: known.
-/
import Derived.Test.YtoifolmcdkfniabGreatDoorLw2D
import Derived.Test.YtoifolmcdkfniabGreatDoorPs2
namespace Go.Proofs.YtoifolmcdkfniabGreatDoor
open Go.ChangeShapes Go.WideShapes Go.ChangeAt Go.RowKit
set_option linter.unusedVariables false
set_option linter.unusedSimpArgs false
set_option maxRecDepth 100000

def kA : Rt := net4P 10 1 16 2
def kB : Rt := net4P 0 0 0 0
def kC : Rt := net4P 10 0 8 1
theorem kA_ok : Okr kA := net4_ok (by omega) (by omega)
theorem kB_ok : Okr kB := net4_ok (by omega) (by omega)
theorem kC_ok : Okr kC := net4_ok (by omega) (by omega)
theorem k_may : mayL [kA, kB, kC] = true := by decide +kernel
theorem k_ahead1 : ahead kB kC = true := by decide +kernel
theorem k_ahead2 : ahead kB kA = true := by decide +kernel
theorem k_ahead3 : ahead kC kA = true := by decide +kernel
theorem k_ord {S : List Rt} (h : IsOrd [kA, kB, kC] S) : S = [kB, kC, kA] := by
  have hA : ∀ x ∈ [kA, kB, kC], Okr x := by
    intro x hx
    simp only [List.mem_cons, List.not_mem_nil, or_false] at hx
    rcases hx with rfl | rfl | rfl
    · exact kA_ok
    · exact kB_ok
    · exact kC_ok
  refine ord_uniq (fun x hx => hA x (h.1.mem_iff.1 hx)) (h.1.trans ?_) h.2 ?_
  · exact (List.perm_append_comm (l₁ := [kA]) (l₂ := [kB, kC]))
  · simp [k_ahead1, k_ahead2, k_ahead3]
theorem k_find1 : findA 4 [10, 1, 255, 255, 0, 0, 0, 0, 0, 0, 0, 0, 0, 0, 0, 0] [kB, kC, kA] = (2, 0) := by decide +kernel
theorem k_find2 : findA 4 [10, 2, 0, 1, 0, 0, 0, 0, 0, 0, 0, 0, 0, 0, 0, 0] [kB, kC, kA] = (1, 0) := by decide +kernel
theorem k_find3 : findA 6 z16 [kB, kC, kA] = (0, 210) := by decide +kernel
def kT : List UInt8 := [49, 48, 46, 48, 46, 48, 46, 48, 47, 56, 32, 49, 10]
theorem k_parse : parseR kT = ([kC], 0) := by kernel_rfl
theorem run_build3 (w : World) : (Instr.buildSlice 22 3 #[(0, .agg (csD kA)), (1, .agg (csD kB)), (2, .agg (csD kC))]).run Tryz.prog w = .ok (.slice (some ⟨w.heap.size, 0, none⟩) 3 3) (w.alloc (.cells (csD kA ++ csD kB ++ csD kC) 39)) := by kernel_rfl
theorem rd3 (w : World) : Rd (w.alloc (.cells (csD kA ++ csD kB ++ csD kC) 39)) (.slice (some ⟨w.heap.size, 0, none⟩) 3 3) [kA, kB, kC] := by
  have hA : ∀ x ∈ [kA, kB, kC], Okr x := by
    intro x hx
    simp only [List.mem_cons, List.not_mem_nil, or_false] at hx
    rcases hx with rfl | rfl | rfl
    · exact kA_ok
    · exact kB_ok
    · exact kC_ok
  have hb : Blk (w.alloc (.cells (csD kA ++ csD kB ++ csD kC) 39)) w.heap.size 3 (csD kA ++ csD kB ++ csD kC).toList := ⟨by rw [Array.toArray_toList]; exact block_new w _, by kernel_rfl⟩
  exact (hb.lst (l := [kA, kB, kC]) (n := 3) hA (by unfold maxLen; omega) rfl (Nat.le_refl _) (by kernel_rfl)).rd hA
theorem wpList_build3 {ops : Array Oper} {rest : List Oper} {o : Oper} {a : Act} {w : World} {Q : Exit → Act → World → Prop} (hg : o.guard = none) (x y z : Operand) (ho : o.op = .buildSlice 22 3 #[(0, x), (1, y), (2, z)]) (hx : a.eval x = .agg (csD kA)) (hy : a.eval y = .agg (csD kB)) (hz : a.eval z = .agg (csD kC))
    (h : ∀ gb w', Rd w' (.slice (some ⟨gb, 0, none⟩) 3 3) [kA, kB, kC] → Away [] w w' → wpList Tryz.prog ops Q rest (a.put o.dst (.slice (some ⟨gb, 0, none⟩) 3 3)) w') : wpList Tryz.prog ops Q (o :: rest) a w := by
  refine wpList_plain hg fun K hK => ?_
  unfold Oper.wp execOp
  simp only [ho, List.map_toArray, List.map_cons, List.map_nil, hx, hy, hz, run_build3 w, Sem.run_bind, Result.andThen_ok, Sem.run_pure]
  exact hK _ _ (h w.heap.size _ (rd3 w) ((Away.refl [] w).alloc _))
theorem wpList_buildSg {ops : Array Oper} {rest : List Oper} {o : Oper} {a : Act} {w : World} {Q : Exit → Act → World → Prop} (hw : Region.wanted o (yielded ops a.tmps) = true) (x : Operand) (ho : o.op = .buildSlice 22 1 #[(0, x)]) (d : Rt) (hx : a.eval x = .agg (csD d)) (hd : Okr d)
    (h : ∀ gb w', w.heap.size ≤ gb → BoxD w' gb d → Away [] w w' → wpList Tryz.prog ops Q rest (a.put o.dst (.slice (some ⟨gb, 0, none⟩) 1 1)) w') : wpList Tryz.prog ops Q (o :: rest) a w := by
  refine BigFrame.wpList_want hw fun K hK => ?_
  unfold Oper.wp execOp
  simp only [ho, List.map_toArray, List.map_cons, List.map_nil, hx, run_buildS w d hd, Sem.run_bind, Result.andThen_ok, Sem.run_pure]
  exact hK _ _ (h w.heap.size _ (Nat.le_refl _) (block_new _ _) ((Away.refl [] w).alloc _))
theorem BoxD.rd {w : World} {g : Nat} {x : Rt} (h : BoxD w g x) (hx : Okr x) : Rd w (.slice (some ⟨g, 0, none⟩) 1 1) [x] :=
  ⟨by simpa using hx, _, _, rfl, Nat.le_refl _, .inr ⟨g, 0, rfl, fun j y hj => by
    rcases j with _ | j
    · simp at hj; subst hj; exact h.range
    · simp at hj⟩⟩
set_option maxHeartbeats 4000000 in
theorem known_c (w : World) (hg : Glob w) : Calls Tryz.prog 7 #[] w fun E w' => E = .returned (.bool true) ∧ Away [] w w' := by
  have HG := Lib.hid hg
  have HA4 := Lib.hid (fun w => net4_c 10 1 16 2 (by omega) (by omega) w)
  have HB4 := Lib.hid (fun w => net4_c 0 0 0 0 (by omega) (by omega) w)
  have HC4 := Lib.hid (fun w => net4_c 10 0 8 1 (by omega) (by omega) w)
  change Hid (∀ w, Calls Tryz.prog 18 _ w fun E w' => E = .returned (.agg (csD kA)) ∧ _) at HA4
  change Hid (∀ w, Calls Tryz.prog 18 _ w fun E w' => E = .returned (.agg (csD kB)) ∧ _) at HB4
  change Hid (∀ w, Calls Tryz.prog 18 _ w fun E w' => E = .returned (.agg (csD kC)) ∧ _) at HC4
  clear hg
  go_enter Tryz.func7, Tryz.ntmps7
  go_wp2_with (go_at_call 18; refine (HA4.out _).mono ?_; refine Hid.out ?_)
  refine Lib.hid ?_
  rintro E w1 ⟨rfl, haw⟩
  have HA := Lib.hid haw
  clear haw
  go_wp2_with (go_at_call 18; refine (HB4.out _).mono ?_; refine Hid.out ?_)
  refine Lib.hid ?_
  rintro E w2 ⟨rfl, haw⟩
  replace HA := Lib.hid (HA.out.trans haw)
  clear haw
  go_wp2_with (go_at_call 18; refine (HC4.out _).mono ?_; refine Hid.out ?_)
  refine Lib.hid ?_
  rintro E w3 ⟨rfl, haw⟩
  replace HA := Lib.hid (HA.out.trans haw)
  clear haw HA4 HB4
  go_wp2_with (refine wpList_build3 rfl _ _ _ rfl rfl rfl rfl ?_; refine Hid.out ?_)
  refine Lib.hid ?_
  intro gb w4 hrd haw
  replace HA := Lib.hid (HA.out.trans haw)
  have HN := Lib.hid (new_c hrd (by simp))
  clear hrd haw
  go_wp2_with (go_at_call 17; refine HN.out.mono ?_; refine Hid.out ?_)
  refine Lib.hid ?_
  rintro E w5 (⟨hm, -⟩ | ⟨hm, g, u, S, rfl, ho, ht, hg', hn', haw⟩)
  · rw [k_may] at hm; simp at hm
  obtain rfl := k_ord ho
  replace HA := Lib.hid (HA.out.trans haw)
  have HT := Lib.hid ht
  clear hm ho ht hg' hn' haw HN
  have HF1 := Lib.hid (fun w (h : Tm w g u [kB, kC, kA]) => find_c h 4 [10, 1, 255, 255, 0, 0, 0, 0, 0, 0, 0, 0, 0, 0, 0, 0] rfl)
  have HF2 := Lib.hid (fun w (h : Tm w g u [kB, kC, kA]) => find_c h 4 [10, 2, 0, 1, 0, 0, 0, 0, 0, 0, 0, 0, 0, 0, 0, 0] rfl)
  have HF3 := Lib.hid (fun w (h : Tm w g u [kB, kC, kA]) => find_c h 6 z16 rfl)
  rw [k_find1] at HF1
  rw [k_find2] at HF2
  rw [k_find3] at HF3
  go_wp2_with (go_at_call 19; refine (HF1.out _ HT.out).mono ?_; refine Hid.out ?_)
  refine Lib.hid ?_
  rintro E w6 ⟨rfl, haw⟩
  replace HA := Lib.hid (HA.out.trans haw)
  replace HT := Lib.hid (HT.out.on haw)
  clear haw
  go_wp2_with (go_at_call 19; refine (HF2.out _ HT.out).mono ?_; refine Hid.out ?_)
  refine Lib.hid ?_
  rintro E w7 ⟨rfl, haw⟩
  replace HA := Lib.hid (HA.out.trans haw)
  replace HT := Lib.hid (HT.out.on haw)
  clear haw
  go_wp2_with (go_at_call 19; refine (HF3.out _ HT.out).mono ?_; refine Hid.out ?_)
  refine Lib.hid ?_
  rintro E w8 ⟨rfl, haw⟩
  replace HA := Lib.hid (HA.out.trans haw)
  replace HT := Lib.hid (HT.out.on haw)
  have HP := Lib.hid (parse_r kT (by decide) w8 (HG.out.aw HA.out))
  rw [k_parse] at HP
  clear haw HF1 HF2 HF3
  go_wp2_with (go_at_call 20; refine HP.out.mono ?_; refine Hid.out ?_)
  refine Lib.hid ?_
  rintro E w9 ⟨v, rfl, hown, -, haw⟩
  replace HA := Lib.hid (HA.out.trans haw)
  replace HT := Lib.hid (HT.out.on haw)
  have HO := Lib.hid hown
  obtain ⟨va, vc, rfl, -⟩ := hown.sl
  clear haw hown HP
  go_wp2_with (go_at_call 18; refine (HC4.out _).mono ?_; refine Hid.out ?_)
  refine Lib.hid ?_
  rintro E w10 ⟨rfl, haw⟩
  replace HA := Lib.hid (HA.out.trans haw)
  replace HT := Lib.hid (HT.out.on haw)
  replace HO := Lib.hid (HO.out.on haw)
  clear haw HC4
  go_wp2_with (refine wpList_buildSg rfl _ rfl kC rfl kC_ok ?_; refine Hid.out ?_)
  refine Lib.hid ?_
  intro g1 w11 hg1 hb1 haw
  replace HA := Lib.hid (HA.out.trans haw)
  replace HT := Lib.hid (HT.out.on haw)
  replace HO := Lib.hid (HO.out.on haw)
  have HS := Lib.hid (same_yes (HO.out.rd (by simpa using kC_ok)) (hb1.rd kC_ok) (by simp))
  clear haw hb1 hg1
  go_wp2_with (go_at_call 21; refine HS.out.mono ?_; refine Hid.out ?_)
  refine Lib.hid ?_
  rintro E w12 ⟨rfl, haw⟩
  replace HA := Lib.hid (HA.out.trans haw)
  replace HT := Lib.hid (HT.out.on haw)
  have HAL := Lib.hid (all_c HT.out)
  clear haw HS
  go_wp2_with (go_at_call 22; refine HAL.out.mono ?_; refine Hid.out ?_)
  refine Lib.hid ?_
  rintro E w13 ⟨v, rfl, hown, -, haw⟩
  replace HA := Lib.hid (HA.out.trans haw)
  obtain ⟨va', vc', rfl, -⟩ := hown.sl
  have e3 : [kB, kC, kA].length = 3 := rfl
  rw [e3]
  clear haw hown HAL
  go_wp2_with fail
  go_ret
  exact ⟨rfl, HA.out⟩
end Go.Proofs.YtoifolmcdkfniabGreatDoor
