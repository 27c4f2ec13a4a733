/-
  AddrNets.
-/
import Derived.Test.YtclfhajapohogaaDoorRows4
namespace Go.Proofs.YtclfhajapohogaaDoor
open Go.ChangeShapes Go.WideShapes Go.ChangeAt Go.RowKit
set_option linter.unusedVariables false
set_option maxHeartbeats 4000000
set_option maxRecDepth 100000

namespace addrNets
theorem walk (v0 : Int) (l0 : List Int) (v1 : Int) (l1 : List Int) (n : Int) (m : Int) (W : World) (hg : Glob W) (n0 : l0.length = 16) (b0 : ∀ y ∈ l0, 0 ≤ y ∧ y ≤ 255) (n1 : l1.length = 16) (b1 : ∀ y ∈ l1, 0 ≤ y ∧ y ≤ 255) (wn : (Lit.int .i64 n).wf = true) (wm : (Lit.int .i64 m).wf = true) :
    Calls Tryd.prog 4 #[.agg (csA v0 l0), .agg (csA v1 l1), .int .i64 n, .int .i64 m] W fun e W' => e = .returned (.bool true) ∧ Below W.heap.size W W' := by
  obtain ⟨ca, hca⟩ : ∃ c, c = csA v0 l0 := ⟨_, rfl⟩
  obtain ⟨cb, hcb⟩ : ∃ c, c = csA v1 l1 := ⟨_, rfl⟩
  obtain ⟨ma, hma⟩ : ∃ c, c = maskA v0 l0 n := ⟨_, rfl⟩
  obtain ⟨mc, hmc⟩ : ∃ c, c = maskA v1 l1 n := ⟨_, rfl⟩
  obtain ⟨e1, he1⟩ : ∃ c, c = maskE v0 l0 n := ⟨_, rfl⟩
  obtain ⟨e2, he2⟩ : ∃ c, c = maskE v1 l1 n := ⟨_, rfl⟩
  obtain ⟨x, hx⟩ : ∃ b, b = withinP v0 l0 v1 l1 n := ⟨_, rfl⟩
  have sa : ca.size = 17 := by rw [hca]; exact csA_size n0
  have sb : cb.size = 17 := by rw [hcb]; exact csA_size n1
  have s1 : ma.size = 17 := by rw [hma]; exact maskA_size v0 n0 n
  have s2 : mc.size = 17 := by rw [hmc]; exact maskA_size v1 n1 n
  have o1 : ma.all (·.oneCell') = true := by rw [hma]; exact maskA_one v0 l0 n
  have o2 : mc.all (·.oneCell') = true := by rw [hmc]; exact maskA_one v1 l1 n
  have ca0 : ca[0]? = some (.int .i64 v0) := by rw [hca]; exact csA_zero v0 l0
  have HAL : Hid (∀ W, Glob W → Calls Tryd.prog 9 #[] W fun e w' => e = .returned (.bool true) ∧ Below W.heap.size W w') := Lib.hid (fun W hW => alive_c W hW)
  have HM1 : Hid (∀ W, Calls Tryd.prog 11 #[.agg ca, .int .i64 n] W fun e w' => e = .returned (.tuple #[.agg ma, .int .i64 e1]) ∧ Below W.heap.size W w') := Lib.hid (fun W => by rw [hca, hma, he1]; exact mask_c v0 l0 n0 n W)
  have HM2 : Hid (∀ W, Calls Tryd.prog 11 #[.agg cb, .int .i64 n] W fun e w' => e = .returned (.tuple #[.agg mc, .int .i64 e2]) ∧ Below W.heap.size W w') := Lib.hid (fun W => by rw [hcb, hmc, he2]; exact mask_c v1 l1 n1 n W)
  have HX : Hid (∀ W, Calls Tryd.prog 12 #[.agg ca, .agg cb, .int .i64 n] W fun e w' => e = .returned (.bool x) ∧ Below W.heap.size W w') := Lib.hid (fun W => by rw [hca, hcb, hx]; exact within_c v0 v1 l0 l1 n0 n1 n W)
  have HY : Hid (∀ W, Calls Tryd.prog 12 #[.agg cb, .agg ca, .int .i64 n] W fun e w' => e = .returned (.bool x) ∧ Below W.heap.size W w') := Lib.hid (fun W => by rw [hca, hcb, hx, within_sym]; exact within_c v1 v0 l1 l0 n1 n0 n W)
  have hgd := guard24
  have hz : (csA 0 z16).size = 17 := rfl
  rw [csA_z] at hz
  have hsa : RS W [(W.heap.size + 1, cb), (W.heap.size, ca)] ((W.alloc (.cells ca 24)).alloc (.cells cb 24)) := by
    have h0 : RS W [] W := ⟨hg, Below.refl _ _⟩
    have h2 := (h0.add ca sa).add cb sb
    rwa [show (W.alloc (.cells ca 24)).heap.size = W.heap.size + 1 by simp] at h2
  have HCA := Lib.hid hca; have HCB := Lib.hid hcb; have HMA := Lib.hid hma; have HMC := Lib.hid hmc; have HE1 := Lib.hid he1; have HE2 := Lib.hid he2; have HXX := Lib.hid hx
  rw [← hca, ← hcb]
  clear hca hcb hma hmc he1 he2 hx hg
  go_enter Tryd.func4, Tryd.ntmps4
  go_wp2_with (first
    | (refine wpList_load24 rfl _ rfl _ rfl _ (by assumption) ?_)
    | (go_at_call 9; refine (HAL.out _ hsa.base.1).mono ?_; rintro e t1 ⟨rfl, hb⟩; have hs1 := hsa.on hb; have z1 := hs1.1; have z2 := hs1.2.1; clear hb hsa; refine Hid.out ?_))
  refine Lib.hid ?_
  go_wp2_with (first
    | (refine wpList_load24 rfl _ rfl _ rfl _ (by assumption) ?_)
    | (go_at_call 11; refine (HM1.out _).mono ?_; rintro e t2 ⟨rfl, hb⟩; have hs2 := (hs1.on hb).add ma s1; have z1 := hs2.1; have z2 := hs2.2.1; have z3 := hs2.2.2.1; clear hb hs1)
    | (refine wpList_store24 rfl _ _ rfl rfl _ rfl s1 hz o1 ?_; refine Hid.out ?_))
  refine Lib.hid ?_
  go_wp2_with (first
    | (refine wpList_load24 rfl _ rfl _ rfl _ (by assumption) ?_)
    | (go_at_call 11; refine (HM2.out _).mono ?_; rintro e t3 ⟨rfl, hb⟩; have hs3 := (hs2.on hb).add mc s2; have z1 := hs3.1; have z2 := hs3.2.1; have z3 := hs3.2.2.1; have z4 := hs3.2.2.2.1; clear hb hs2)
    | (refine wpList_store24 rfl _ _ rfl rfl _ rfl s2 hz o2 ?_; refine Hid.out ?_))
  refine Lib.hid ?_
  generalize t3.alloc (.cells mc 24) = V at *
  obtain ⟨A, hA⟩ : ∃ A, t2.heap.size = A := ⟨_, rfl⟩
  obtain ⟨B, hB⟩ : ∃ A, t3.heap.size = A := ⟨_, rfl⟩
  rw [hA, hB] at hs3
  simp only [hA, hB] at z1 z2 z3 z4
  simp only [hA, hB]
  clear hA hB
  go_wp2_with (first
    | (refine wpList_load24 rfl _ rfl _ rfl _ (by assumption) ?_)
    | (go_at_call 12; refine (HX.out _).mono ?_; rintro e t4 ⟨rfl, hb⟩; have hs4 := hs3.on hb; have z1 := hs4.1; have z2 := hs4.2.1; have z3 := hs4.2.2.1; have z4 := hs4.2.2.2.1; clear hb hs3; refine Hid.out ?_))
  refine Lib.hid ?_
  by_cases k1 : maskOk v0 l0 n = true
  · have q1 : e1 = 0 := by rw [HE1.out, maskE, if_pos k1]
    subst q1
    have q2 : ma = csA v0 (maskL n 0 l0) := by rw [HMA.out, maskA, if_pos k1]
    obtain ⟨q, hq⟩ : ∃ q, q = (maskOk v1 l1 n && (decide (v0 = v1) && eqL (maskL n 0 l0) (maskL n 0 l1))) := ⟨_, rfl⟩
    have hxq : x = q := by rw [HXX.out, withinP, k1, hq]; rfl
    subst hxq
    obtain ⟨rm, hrm⟩ : ∃ c, c = maskA v0 (maskL n 0 l0) m := ⟨_, rfl⟩
    obtain ⟨rn, hrn⟩ : ∃ c, c = maskA v0 l0 (min n m) := ⟨_, rfl⟩
    obtain ⟨e3, he3⟩ : ∃ c, c = maskE v0 (maskL n 0 l0) m := ⟨_, rfl⟩
    obtain ⟨e4, he4⟩ : ∃ c, c = maskE v0 l0 (min n m) := ⟨_, rfl⟩
    obtain ⟨mm, hmm⟩ : ∃ c, c = min n m := ⟨_, rfl⟩
    have HM3 : Hid (∀ W, Calls Tryd.prog 11 #[.agg ma, .int .i64 m] W fun e w' => e = .returned (.tuple #[.agg rm, .int .i64 e3]) ∧ Below W.heap.size W w') := Lib.hid (fun W => by rw [q2, hrm, he3]; exact mask_c v0 _ (by rw [maskL_length, n0]) m W)
    have HM4 : Hid (∀ W, Calls Tryd.prog 11 #[.agg ca, .int .i64 (min n m)] W fun e w' => e = .returned (.tuple #[.agg rn, .int .i64 e4]) ∧ Below W.heap.size W w') := Lib.hid (fun W => by rw [HCA.out, hrn, he4]; exact mask_c v0 l0 n0 _ W)
    have s3 : rm.size = 17 := by rw [hrm]; exact maskA_size v0 (by rw [maskL_length, n0]) m
    have s4 : rn.size = 17 := by rw [hrn]; exact maskA_size v0 n0 _
    have o3 : rm.all (·.oneCell') = true := by rw [hrm]; exact maskA_one v0 _ m
    have o4 : rn.all (·.oneCell') = true := by rw [hrn]; exact maskA_one v0 l0 _
    have HRM := Lib.hid hrm; have HRN := Lib.hid hrn; have HE3 := Lib.hid he3; have HE4 := Lib.hid he4; have HQ2 := Lib.hid q2; have K1 := Lib.hid k1; have HQ := Lib.hid hq
    clear hrm hrn he3 he4 q2 k1 hq
    by_cases k2 : maskOk v1 l1 n = true
    · have q3 : e2 = 0 := by rw [HE2.out, maskE, if_pos k2]
      subst q3
      have hqe : ∀ w, (Op.equalIn 10000 24 (.agg ma) (.agg mc)).run Tryd.prog w = .ok x w := fun w => by
        rw [HQ2.out, HMC.out, maskA, if_pos k2, HQ.out, k2]
        exact eq24 v0 v1 _ _ (by rw [maskL_length, n0]) (by rw [maskL_length, n1]) w
      go_wp2_with (first
        | (refine wpList_load24 rfl _ rfl _ rfl _ (by assumption) ?_)
        | (go_at_call 12; refine (HY.out _).mono ?_; rintro e t5 ⟨rfl, hb⟩; have hs5 := hs4.on hb; have z1 := hs5.1; have z2 := hs5.2.1; have z3 := hs5.2.2.1; have z4 := hs5.2.2.2.1; clear hb hs4; refine Hid.out ?_))
      refine Lib.hid ?_
      go_wp2_with (first
        | (refine wpList_load24 rfl _ rfl _ rfl _ (by assumption) ?_)
        | (go_at_call 11; refine (HM3.out _).mono ?_; rintro e t6 ⟨rfl, hb⟩; have hs6 := (hs5.on hb).add rm s3; have z0 := hs6.1; have z1 := hs6.2.1; have z2 := hs6.2.2.1; have z3 := hs6.2.2.2.1; have z4 := hs6.2.2.2.2.1; clear hb hs5)
        | (refine wpList_store24 rfl _ _ rfl rfl _ rfl s3 hz o3 ?_; refine Hid.out ?_))
      refine Lib.hid ?_
      generalize t6.alloc (.cells rm 24) = V6 at *
      obtain ⟨C, hC⟩ : ∃ A, t6.heap.size = A := ⟨_, rfl⟩
      rw [hC] at hs6
      simp only [hC] at z0
      simp only [hC]
      clear hC
      go_wp2_with (first
        | (refine wpList_load24 rfl _ rfl _ rfl _ (by assumption) ?_)
        | (go_at_call 11; refine (HM4.out _).mono ?_; rintro e t7 ⟨rfl, hb⟩; have hs7 := (hs6.on hb).add rn s4; have y0 := hs7.1; have z0 := hs7.2.1; have z1 := hs7.2.2.1; have z2 := hs7.2.2.2.1; have z3 := hs7.2.2.2.2.1; have z4 := hs7.2.2.2.2.2.1; clear hb hs6)
        | (refine wpList_store24 rfl _ _ rfl rfl _ rfl s4 hz o4 ?_; refine Hid.out ?_))
      refine Lib.hid ?_
      generalize t7.alloc (.cells rn 24) = V7 at *
      obtain ⟨D, hD⟩ : ∃ A, t7.heap.size = A := ⟨_, rfl⟩
      rw [hD] at hs7
      simp only [hD] at y0
      simp only [hD]
      clear hD
      have zc := rowAt_cell z4 0 _ ca0
      by_cases hv : v0 = 4
      · have fv : decide (v0 = 4) = true := by simp [hv]
        by_cases m0 : m < 0
        · have f0 : decide (m < 0) = true := by simp [m0]
          have hbad : Hid (e3 = 1) := Lib.hid (by
            have h3 : ¬ maskOk v0 (maskL n 0 l0) m = true := fun h => by
              have hk := (ok_iff.1 h).2
              split at hk <;> omega
            rw [HE3.out, maskE, if_neg h3])
          have u3 := hbad.out
          subst u3
          go_wp2_with (first
            | (refine wpList_load24 rfl _ rfl _ rfl _ (by assumption) ?_))
          go_ret
          exact ⟨rfl, hs7.base.2⟩
        · have f0 : decide (m < 0) = false := by simp; omega
          by_cases m1 : 32 < m
          · have f1 : decide (32 < m) = true := by simp [m1]
            have hbad : Hid (e3 = 1) := Lib.hid (by
              have h3 : ¬ maskOk v0 (maskL n 0 l0) m = true := fun h => by
                have hk := (ok_iff.1 h).2
                split at hk <;> omega
              rw [HE3.out, maskE, if_neg h3])
            have u3 := hbad.out
            subst u3
            go_wp2_with (first
              | (refine wpList_load24 rfl _ rfl _ rfl _ (by assumption) ?_))
            go_ret
            exact ⟨rfl, hs7.base.2⟩
          · have f1 : decide (32 < m) = false := by simp; omega
            have hok : Hid (e3 = 0 ∧ e4 = 0 ∧ rn = rm) := Lib.hid (by
              have hk := ok_iff.1 K1.out
              rw [if_pos hv] at hk
              have h3 : maskOk v0 (maskL n 0 l0) m = true := ok_iff.2 ⟨valid_mask n hk.1, by omega, by rw [if_pos hv]; omega⟩
              have h4 : maskOk v0 l0 (min n m) = true := ok_iff.2 ⟨hk.1, by omega, by rw [if_pos hv]; omega⟩
              exact ⟨by rw [HE3.out, maskE, if_pos h3], by rw [HE4.out, maskE, if_pos h4], by rw [HRM.out, HRN.out, maskA, maskA, if_pos h3, if_pos h4, maskL_maskL n m 0 l0 b0]⟩)
            obtain ⟨u3, u4, u5⟩ := hok.out
            subst u3 u4 u5
            have heqm : ∀ w, (Op.equalIn 10000 24 (.agg rn) (.agg rn)).run Tryd.prog w = .ok true w := fun w => by
              have h3 : maskOk v0 (maskL n 0 l0) m = true := by have h := HE3.out; rw [maskE] at h; by_cases k : maskOk v0 (maskL n 0 l0) m = true; exact k; rw [if_neg k] at h; omega
              rw [HRM.out, maskA, if_pos h3, eq24 v0 v0 _ _ (by rw [maskL_length, maskL_length, n0]) (by rw [maskL_length, maskL_length, n0]) w, eqL_self, decide_eq_true rfl]; rfl
            have HLS : Hid (∀ W, Calls Tryd.prog 10 #[.agg ca, .agg ma] W fun e w' => e = .returned (.bool false) ∧ Below W.heap.size W w') := Lib.hid (fun W => by have := less_c v0 v0 l0 (maskL n 0 l0) n0 (by rw [maskL_length, n0]) W; rw [less_mask v0 l0 n b0] at this; rw [HCA.out, HQ2.out]; exact this)
            have HW1 : Hid (∀ W, Calls Tryd.prog 12 #[.agg ca, .agg ma, .int .i64 n] W fun e w' => e = .returned (.bool true) ∧ Below W.heap.size W w') := Lib.hid (fun W => by have := within_c v0 v0 l0 (maskL n 0 l0) n0 (by rw [maskL_length, n0]) n W; rw [within_mask b0 K1.out] at this; rw [HCA.out, HQ2.out]; exact this)
            have HW2 : Hid (∀ W, Calls Tryd.prog 12 #[.agg ma, .agg ca, .int .i64 n] W fun e w' => e = .returned (.bool true) ∧ Below W.heap.size W w') := Lib.hid (fun W => by have := within_c v0 v0 (maskL n 0 l0) l0 (by rw [maskL_length, n0]) n0 n W; rw [within_sym, within_mask b0 K1.out] at this; rw [HCA.out, HQ2.out]; exact this)
            go_wp2_with (first
              | (refine wpList_load24 rfl _ rfl _ rfl _ (by assumption) ?_)
              | (go_at_call 10; refine (HLS.out _).mono ?_; rintro e t8 ⟨rfl, hb⟩; have hs8 := hs7.on hb; have y0 := hs8.1; have z0 := hs8.2.1; have z1 := hs8.2.2.1; have z2 := hs8.2.2.2.1; have z3 := hs8.2.2.2.2.1; have z4 := hs8.2.2.2.2.2.1; clear hb hs7; refine Hid.out ?_))
            refine Lib.hid ?_
            go_wp2_with (first
              | (refine wpList_load24 rfl _ rfl _ rfl _ (by assumption) ?_)
              | (go_at_call 12; refine (HW1.out _).mono ?_; rintro e t9 ⟨rfl, hb⟩; have hs9 := hs8.on hb; have y0 := hs9.1; have z0 := hs9.2.1; have z1 := hs9.2.2.1; have z2 := hs9.2.2.2.1; have z3 := hs9.2.2.2.2.1; have z4 := hs9.2.2.2.2.2.1; clear hb hs8; refine Hid.out ?_))
            refine Lib.hid ?_
            cases x
            · go_wp2_with (first
                | (refine wpList_load24 rfl _ rfl _ rfl _ (by assumption) ?_)
                | (go_at_call 12; refine (HW2.out _).mono ?_; rintro e t10 ⟨rfl, hb⟩; have hs10 := hs9.on hb; clear hb hs9))
              go_ret
              exact ⟨rfl, hs10.base.2⟩
            · by_cases hnm : n < m
              · have fnm : decide (n < m) = true := by simp [hnm]
                go_wp2_with (first
                  | (refine wpList_load24 rfl _ rfl _ rfl _ (by assumption) ?_)
                  | (go_at_call 12; refine (HW2.out _).mono ?_; rintro e t10 ⟨rfl, hb⟩; have hs10 := hs9.on hb; clear hb hs9))
                go_ret
                exact ⟨rfl, hs10.base.2⟩
              · have fnm : decide (n < m) = false := by simp; omega
                have HW3 : Hid (∀ W, Calls Tryd.prog 12 #[.agg ca, .agg cb, .int .i64 m] W fun e w' => e = .returned (.bool true) ∧ Below W.heap.size W w') := Lib.hid (fun W => by have := within_c v0 v1 l0 l1 n0 n1 m W; rw [within_less b0 b1 HXX.out.symm (by omega) (by omega)] at this; rw [HCA.out, HCB.out]; exact this)
                go_wp2_with (first
                  | (refine wpList_load24 rfl _ rfl _ rfl _ (by assumption) ?_)
                  | (go_at_call 12; refine (HW2.out _).mono ?_; rintro e t10 ⟨rfl, hb⟩; have hs10 := hs9.on hb; have y0 := hs10.1; have z0 := hs10.2.1; have z1 := hs10.2.2.1; have z2 := hs10.2.2.2.1; have z3 := hs10.2.2.2.2.1; have z4 := hs10.2.2.2.2.2.1; clear hb hs9; refine Hid.out ?_))
                refine Lib.hid ?_
                go_wp2_with (first
                  | (refine wpList_load24 rfl _ rfl _ rfl _ (by assumption) ?_)
                  | (go_at_call 12; refine (HW3.out _).mono ?_; rintro e t11 ⟨rfl, hb⟩; have hs11 := hs10.on hb; clear hb hs10))
                go_ret
                exact ⟨rfl, hs11.base.2⟩
      · have fv : decide (v0 = 4) = false := by simp [hv]
        by_cases m0 : m < 0
        · have f0 : decide (m < 0) = true := by simp [m0]
          have hbad : Hid (e3 = 1) := Lib.hid (by
            have h3 : ¬ maskOk v0 (maskL n 0 l0) m = true := fun h => by
              have hk := (ok_iff.1 h).2
              split at hk <;> omega
            rw [HE3.out, maskE, if_neg h3])
          have u3 := hbad.out
          subst u3
          go_wp2_with (first
            | (refine wpList_load24 rfl _ rfl _ rfl _ (by assumption) ?_))
          go_ret
          exact ⟨rfl, hs7.base.2⟩
        · have f0 : decide (m < 0) = false := by simp; omega
          by_cases m1 : 128 < m
          · have f1 : decide (128 < m) = true := by simp [m1]
            have hbad : Hid (e3 = 1) := Lib.hid (by
              have h3 : ¬ maskOk v0 (maskL n 0 l0) m = true := fun h => by
                have hk := (ok_iff.1 h).2
                split at hk <;> omega
              rw [HE3.out, maskE, if_neg h3])
            have u3 := hbad.out
            subst u3
            go_wp2_with (first
              | (refine wpList_load24 rfl _ rfl _ rfl _ (by assumption) ?_))
            go_ret
            exact ⟨rfl, hs7.base.2⟩
          · have f1 : decide (128 < m) = false := by simp; omega
            have hok : Hid (e3 = 0 ∧ e4 = 0 ∧ rn = rm) := Lib.hid (by
              have hk := ok_iff.1 K1.out
              rw [if_neg hv] at hk
              have h3 : maskOk v0 (maskL n 0 l0) m = true := ok_iff.2 ⟨valid_mask n hk.1, by omega, by rw [if_neg hv]; omega⟩
              have h4 : maskOk v0 l0 (min n m) = true := ok_iff.2 ⟨hk.1, by omega, by rw [if_neg hv]; omega⟩
              exact ⟨by rw [HE3.out, maskE, if_pos h3], by rw [HE4.out, maskE, if_pos h4], by rw [HRM.out, HRN.out, maskA, maskA, if_pos h3, if_pos h4, maskL_maskL n m 0 l0 b0]⟩)
            obtain ⟨u3, u4, u5⟩ := hok.out
            subst u3 u4 u5
            have heqm : ∀ w, (Op.equalIn 10000 24 (.agg rn) (.agg rn)).run Tryd.prog w = .ok true w := fun w => by
              have h3 : maskOk v0 (maskL n 0 l0) m = true := by have h := HE3.out; rw [maskE] at h; by_cases k : maskOk v0 (maskL n 0 l0) m = true; exact k; rw [if_neg k] at h; omega
              rw [HRM.out, maskA, if_pos h3, eq24 v0 v0 _ _ (by rw [maskL_length, maskL_length, n0]) (by rw [maskL_length, maskL_length, n0]) w, eqL_self, decide_eq_true rfl]; rfl
            have HLS : Hid (∀ W, Calls Tryd.prog 10 #[.agg ca, .agg ma] W fun e w' => e = .returned (.bool false) ∧ Below W.heap.size W w') := Lib.hid (fun W => by have := less_c v0 v0 l0 (maskL n 0 l0) n0 (by rw [maskL_length, n0]) W; rw [less_mask v0 l0 n b0] at this; rw [HCA.out, HQ2.out]; exact this)
            have HW1 : Hid (∀ W, Calls Tryd.prog 12 #[.agg ca, .agg ma, .int .i64 n] W fun e w' => e = .returned (.bool true) ∧ Below W.heap.size W w') := Lib.hid (fun W => by have := within_c v0 v0 l0 (maskL n 0 l0) n0 (by rw [maskL_length, n0]) n W; rw [within_mask b0 K1.out] at this; rw [HCA.out, HQ2.out]; exact this)
            have HW2 : Hid (∀ W, Calls Tryd.prog 12 #[.agg ma, .agg ca, .int .i64 n] W fun e w' => e = .returned (.bool true) ∧ Below W.heap.size W w') := Lib.hid (fun W => by have := within_c v0 v0 (maskL n 0 l0) l0 (by rw [maskL_length, n0]) n0 n W; rw [within_sym, within_mask b0 K1.out] at this; rw [HCA.out, HQ2.out]; exact this)
            go_wp2_with (first
              | (refine wpList_load24 rfl _ rfl _ rfl _ (by assumption) ?_)
              | (go_at_call 10; refine (HLS.out _).mono ?_; rintro e t8 ⟨rfl, hb⟩; have hs8 := hs7.on hb; have y0 := hs8.1; have z0 := hs8.2.1; have z1 := hs8.2.2.1; have z2 := hs8.2.2.2.1; have z3 := hs8.2.2.2.2.1; have z4 := hs8.2.2.2.2.2.1; clear hb hs7; refine Hid.out ?_))
            refine Lib.hid ?_
            go_wp2_with (first
              | (refine wpList_load24 rfl _ rfl _ rfl _ (by assumption) ?_)
              | (go_at_call 12; refine (HW1.out _).mono ?_; rintro e t9 ⟨rfl, hb⟩; have hs9 := hs8.on hb; have y0 := hs9.1; have z0 := hs9.2.1; have z1 := hs9.2.2.1; have z2 := hs9.2.2.2.1; have z3 := hs9.2.2.2.2.1; have z4 := hs9.2.2.2.2.2.1; clear hb hs8; refine Hid.out ?_))
            refine Lib.hid ?_
            cases x
            · go_wp2_with (first
                | (refine wpList_load24 rfl _ rfl _ rfl _ (by assumption) ?_)
                | (go_at_call 12; refine (HW2.out _).mono ?_; rintro e t10 ⟨rfl, hb⟩; have hs10 := hs9.on hb; clear hb hs9))
              go_ret
              exact ⟨rfl, hs10.base.2⟩
            · by_cases hnm : n < m
              · have fnm : decide (n < m) = true := by simp [hnm]
                go_wp2_with (first
                  | (refine wpList_load24 rfl _ rfl _ rfl _ (by assumption) ?_)
                  | (go_at_call 12; refine (HW2.out _).mono ?_; rintro e t10 ⟨rfl, hb⟩; have hs10 := hs9.on hb; clear hb hs9))
                go_ret
                exact ⟨rfl, hs10.base.2⟩
              · have fnm : decide (n < m) = false := by simp; omega
                have HW3 : Hid (∀ W, Calls Tryd.prog 12 #[.agg ca, .agg cb, .int .i64 m] W fun e w' => e = .returned (.bool true) ∧ Below W.heap.size W w') := Lib.hid (fun W => by have := within_c v0 v1 l0 l1 n0 n1 m W; rw [within_less b0 b1 HXX.out.symm (by omega) (by omega)] at this; rw [HCA.out, HCB.out]; exact this)
                go_wp2_with (first
                  | (refine wpList_load24 rfl _ rfl _ rfl _ (by assumption) ?_)
                  | (go_at_call 12; refine (HW2.out _).mono ?_; rintro e t10 ⟨rfl, hb⟩; have hs10 := hs9.on hb; have y0 := hs10.1; have z0 := hs10.2.1; have z1 := hs10.2.2.1; have z2 := hs10.2.2.2.1; have z3 := hs10.2.2.2.2.1; have z4 := hs10.2.2.2.2.2.1; clear hb hs9; refine Hid.out ?_))
                refine Lib.hid ?_
                go_wp2_with (first
                  | (refine wpList_load24 rfl _ rfl _ rfl _ (by assumption) ?_)
                  | (go_at_call 12; refine (HW3.out _).mono ?_; rintro e t11 ⟨rfl, hb⟩; have hs11 := hs10.on hb; clear hb hs10))
                go_ret
                exact ⟨rfl, hs11.base.2⟩
    · have q3 : e2 = 1 := by rw [HE2.out, maskE, if_neg k2]
      subst q3
      have hxf : x = false := by rw [HQ.out]; simp [k2]
      subst hxf
      go_wp2_with (first
        | (refine wpList_load24 rfl _ rfl _ rfl _ (by assumption) ?_)
        | (go_at_call 12; refine (HY.out _).mono ?_; rintro e t5 ⟨rfl, hb⟩; have hs5 := hs4.on hb; have z1 := hs5.1; have z2 := hs5.2.1; have z3 := hs5.2.2.1; have z4 := hs5.2.2.2.1; clear hb hs4; refine Hid.out ?_))
      refine Lib.hid ?_
      go_wp2_with (first
        | (refine wpList_load24 rfl _ rfl _ rfl _ (by assumption) ?_)
        | (go_at_call 11; refine (HM3.out _).mono ?_; rintro e t6 ⟨rfl, hb⟩; have hs6 := (hs5.on hb).add rm s3; have z0 := hs6.1; have z1 := hs6.2.1; have z2 := hs6.2.2.1; have z3 := hs6.2.2.2.1; have z4 := hs6.2.2.2.2.1; clear hb hs5)
        | (refine wpList_store24 rfl _ _ rfl rfl _ rfl s3 hz o3 ?_; refine Hid.out ?_))
      refine Lib.hid ?_
      generalize t6.alloc (.cells rm 24) = V6 at *
      obtain ⟨C, hC⟩ : ∃ A, t6.heap.size = A := ⟨_, rfl⟩
      rw [hC] at hs6
      simp only [hC] at z0
      simp only [hC]
      clear hC
      go_wp2_with (first
        | (refine wpList_load24 rfl _ rfl _ rfl _ (by assumption) ?_)
        | (go_at_call 11; refine (HM4.out _).mono ?_; rintro e t7 ⟨rfl, hb⟩; have hs7 := (hs6.on hb).add rn s4; have y0 := hs7.1; have z0 := hs7.2.1; have z1 := hs7.2.2.1; have z2 := hs7.2.2.2.1; have z3 := hs7.2.2.2.2.1; have z4 := hs7.2.2.2.2.2.1; clear hb hs6)
        | (refine wpList_store24 rfl _ _ rfl rfl _ rfl s4 hz o4 ?_; refine Hid.out ?_))
      refine Lib.hid ?_
      generalize t7.alloc (.cells rn 24) = V7 at *
      obtain ⟨D, hD⟩ : ∃ A, t7.heap.size = A := ⟨_, rfl⟩
      rw [hD] at hs7
      simp only [hD] at y0
      simp only [hD]
      clear hD
      have zc := rowAt_cell z4 0 _ ca0
      by_cases hv : v0 = 4
      · have fv : decide (v0 = 4) = true := by simp [hv]
        by_cases m0 : m < 0
        · have f0 : decide (m < 0) = true := by simp [m0]
          have hbad : Hid (e3 = 1) := Lib.hid (by
            have h3 : ¬ maskOk v0 (maskL n 0 l0) m = true := fun h => by
              have hk := (ok_iff.1 h).2
              split at hk <;> omega
            rw [HE3.out, maskE, if_neg h3])
          have u3 := hbad.out
          subst u3
          go_wp2_with (first
            | (refine wpList_load24 rfl _ rfl _ rfl _ (by assumption) ?_))
          go_ret
          exact ⟨rfl, hs7.base.2⟩
        · have f0 : decide (m < 0) = false := by simp; omega
          by_cases m1 : 32 < m
          · have f1 : decide (32 < m) = true := by simp [m1]
            have hbad : Hid (e3 = 1) := Lib.hid (by
              have h3 : ¬ maskOk v0 (maskL n 0 l0) m = true := fun h => by
                have hk := (ok_iff.1 h).2
                split at hk <;> omega
              rw [HE3.out, maskE, if_neg h3])
            have u3 := hbad.out
            subst u3
            go_wp2_with (first
              | (refine wpList_load24 rfl _ rfl _ rfl _ (by assumption) ?_))
            go_ret
            exact ⟨rfl, hs7.base.2⟩
          · have f1 : decide (32 < m) = false := by simp; omega
            have hok : Hid (e3 = 0 ∧ e4 = 0 ∧ rn = rm) := Lib.hid (by
              have hk := ok_iff.1 K1.out
              rw [if_pos hv] at hk
              have h3 : maskOk v0 (maskL n 0 l0) m = true := ok_iff.2 ⟨valid_mask n hk.1, by omega, by rw [if_pos hv]; omega⟩
              have h4 : maskOk v0 l0 (min n m) = true := ok_iff.2 ⟨hk.1, by omega, by rw [if_pos hv]; omega⟩
              exact ⟨by rw [HE3.out, maskE, if_pos h3], by rw [HE4.out, maskE, if_pos h4], by rw [HRM.out, HRN.out, maskA, maskA, if_pos h3, if_pos h4, maskL_maskL n m 0 l0 b0]⟩)
            obtain ⟨u3, u4, u5⟩ := hok.out
            subst u3 u4 u5
            have heqm : ∀ w, (Op.equalIn 10000 24 (.agg rn) (.agg rn)).run Tryd.prog w = .ok true w := fun w => by
              have h3 : maskOk v0 (maskL n 0 l0) m = true := by have h := HE3.out; rw [maskE] at h; by_cases k : maskOk v0 (maskL n 0 l0) m = true; exact k; rw [if_neg k] at h; omega
              rw [HRM.out, maskA, if_pos h3, eq24 v0 v0 _ _ (by rw [maskL_length, maskL_length, n0]) (by rw [maskL_length, maskL_length, n0]) w, eqL_self, decide_eq_true rfl]; rfl
            have HLS : Hid (∀ W, Calls Tryd.prog 10 #[.agg ca, .agg ma] W fun e w' => e = .returned (.bool false) ∧ Below W.heap.size W w') := Lib.hid (fun W => by have := less_c v0 v0 l0 (maskL n 0 l0) n0 (by rw [maskL_length, n0]) W; rw [less_mask v0 l0 n b0] at this; rw [HCA.out, HQ2.out]; exact this)
            have HW1 : Hid (∀ W, Calls Tryd.prog 12 #[.agg ca, .agg ma, .int .i64 n] W fun e w' => e = .returned (.bool true) ∧ Below W.heap.size W w') := Lib.hid (fun W => by have := within_c v0 v0 l0 (maskL n 0 l0) n0 (by rw [maskL_length, n0]) n W; rw [within_mask b0 K1.out] at this; rw [HCA.out, HQ2.out]; exact this)
            have HW2 : Hid (∀ W, Calls Tryd.prog 12 #[.agg ma, .agg ca, .int .i64 n] W fun e w' => e = .returned (.bool true) ∧ Below W.heap.size W w') := Lib.hid (fun W => by have := within_c v0 v0 (maskL n 0 l0) l0 (by rw [maskL_length, n0]) n0 n W; rw [within_sym, within_mask b0 K1.out] at this; rw [HCA.out, HQ2.out]; exact this)
            go_wp2_with (first
              | (refine wpList_load24 rfl _ rfl _ rfl _ (by assumption) ?_)
              | (go_at_call 10; refine (HLS.out _).mono ?_; rintro e t8 ⟨rfl, hb⟩; have hs8 := hs7.on hb; have y0 := hs8.1; have z0 := hs8.2.1; have z1 := hs8.2.2.1; have z2 := hs8.2.2.2.1; have z3 := hs8.2.2.2.2.1; have z4 := hs8.2.2.2.2.2.1; clear hb hs7; refine Hid.out ?_))
            refine Lib.hid ?_
            go_wp2_with (first
              | (refine wpList_load24 rfl _ rfl _ rfl _ (by assumption) ?_)
              | (go_at_call 12; refine (HW1.out _).mono ?_; rintro e t9 ⟨rfl, hb⟩; have hs9 := hs8.on hb; have y0 := hs9.1; have z0 := hs9.2.1; have z1 := hs9.2.2.1; have z2 := hs9.2.2.2.1; have z3 := hs9.2.2.2.2.1; have z4 := hs9.2.2.2.2.2.1; clear hb hs8; refine Hid.out ?_))
            refine Lib.hid ?_
            go_wp2_with (first
              | (refine wpList_load24 rfl _ rfl _ rfl _ (by assumption) ?_)
              | (go_at_call 12; refine (HW2.out _).mono ?_; rintro e t10 ⟨rfl, hb⟩; have hs10 := hs9.on hb; clear hb hs9))
            go_ret
            exact ⟨rfl, hs10.base.2⟩
      · have fv : decide (v0 = 4) = false := by simp [hv]
        by_cases m0 : m < 0
        · have f0 : decide (m < 0) = true := by simp [m0]
          have hbad : Hid (e3 = 1) := Lib.hid (by
            have h3 : ¬ maskOk v0 (maskL n 0 l0) m = true := fun h => by
              have hk := (ok_iff.1 h).2
              split at hk <;> omega
            rw [HE3.out, maskE, if_neg h3])
          have u3 := hbad.out
          subst u3
          go_wp2_with (first
            | (refine wpList_load24 rfl _ rfl _ rfl _ (by assumption) ?_))
          go_ret
          exact ⟨rfl, hs7.base.2⟩
        · have f0 : decide (m < 0) = false := by simp; omega
          by_cases m1 : 128 < m
          · have f1 : decide (128 < m) = true := by simp [m1]
            have hbad : Hid (e3 = 1) := Lib.hid (by
              have h3 : ¬ maskOk v0 (maskL n 0 l0) m = true := fun h => by
                have hk := (ok_iff.1 h).2
                split at hk <;> omega
              rw [HE3.out, maskE, if_neg h3])
            have u3 := hbad.out
            subst u3
            go_wp2_with (first
              | (refine wpList_load24 rfl _ rfl _ rfl _ (by assumption) ?_))
            go_ret
            exact ⟨rfl, hs7.base.2⟩
          · have f1 : decide (128 < m) = false := by simp; omega
            have hok : Hid (e3 = 0 ∧ e4 = 0 ∧ rn = rm) := Lib.hid (by
              have hk := ok_iff.1 K1.out
              rw [if_neg hv] at hk
              have h3 : maskOk v0 (maskL n 0 l0) m = true := ok_iff.2 ⟨valid_mask n hk.1, by omega, by rw [if_neg hv]; omega⟩
              have h4 : maskOk v0 l0 (min n m) = true := ok_iff.2 ⟨hk.1, by omega, by rw [if_neg hv]; omega⟩
              exact ⟨by rw [HE3.out, maskE, if_pos h3], by rw [HE4.out, maskE, if_pos h4], by rw [HRM.out, HRN.out, maskA, maskA, if_pos h3, if_pos h4, maskL_maskL n m 0 l0 b0]⟩)
            obtain ⟨u3, u4, u5⟩ := hok.out
            subst u3 u4 u5
            have heqm : ∀ w, (Op.equalIn 10000 24 (.agg rn) (.agg rn)).run Tryd.prog w = .ok true w := fun w => by
              have h3 : maskOk v0 (maskL n 0 l0) m = true := by have h := HE3.out; rw [maskE] at h; by_cases k : maskOk v0 (maskL n 0 l0) m = true; exact k; rw [if_neg k] at h; omega
              rw [HRM.out, maskA, if_pos h3, eq24 v0 v0 _ _ (by rw [maskL_length, maskL_length, n0]) (by rw [maskL_length, maskL_length, n0]) w, eqL_self, decide_eq_true rfl]; rfl
            have HLS : Hid (∀ W, Calls Tryd.prog 10 #[.agg ca, .agg ma] W fun e w' => e = .returned (.bool false) ∧ Below W.heap.size W w') := Lib.hid (fun W => by have := less_c v0 v0 l0 (maskL n 0 l0) n0 (by rw [maskL_length, n0]) W; rw [less_mask v0 l0 n b0] at this; rw [HCA.out, HQ2.out]; exact this)
            have HW1 : Hid (∀ W, Calls Tryd.prog 12 #[.agg ca, .agg ma, .int .i64 n] W fun e w' => e = .returned (.bool true) ∧ Below W.heap.size W w') := Lib.hid (fun W => by have := within_c v0 v0 l0 (maskL n 0 l0) n0 (by rw [maskL_length, n0]) n W; rw [within_mask b0 K1.out] at this; rw [HCA.out, HQ2.out]; exact this)
            have HW2 : Hid (∀ W, Calls Tryd.prog 12 #[.agg ma, .agg ca, .int .i64 n] W fun e w' => e = .returned (.bool true) ∧ Below W.heap.size W w') := Lib.hid (fun W => by have := within_c v0 v0 (maskL n 0 l0) l0 (by rw [maskL_length, n0]) n0 n W; rw [within_sym, within_mask b0 K1.out] at this; rw [HCA.out, HQ2.out]; exact this)
            go_wp2_with (first
              | (refine wpList_load24 rfl _ rfl _ rfl _ (by assumption) ?_)
              | (go_at_call 10; refine (HLS.out _).mono ?_; rintro e t8 ⟨rfl, hb⟩; have hs8 := hs7.on hb; have y0 := hs8.1; have z0 := hs8.2.1; have z1 := hs8.2.2.1; have z2 := hs8.2.2.2.1; have z3 := hs8.2.2.2.2.1; have z4 := hs8.2.2.2.2.2.1; clear hb hs7; refine Hid.out ?_))
            refine Lib.hid ?_
            go_wp2_with (first
              | (refine wpList_load24 rfl _ rfl _ rfl _ (by assumption) ?_)
              | (go_at_call 12; refine (HW1.out _).mono ?_; rintro e t9 ⟨rfl, hb⟩; have hs9 := hs8.on hb; have y0 := hs9.1; have z0 := hs9.2.1; have z1 := hs9.2.2.1; have z2 := hs9.2.2.2.1; have z3 := hs9.2.2.2.2.1; have z4 := hs9.2.2.2.2.2.1; clear hb hs8; refine Hid.out ?_))
            refine Lib.hid ?_
            go_wp2_with (first
              | (refine wpList_load24 rfl _ rfl _ rfl _ (by assumption) ?_)
              | (go_at_call 12; refine (HW2.out _).mono ?_; rintro e t10 ⟨rfl, hb⟩; have hs10 := hs9.on hb; clear hb hs9))
            go_ret
            exact ⟨rfl, hs10.base.2⟩
  · have q1 : e1 = 1 := by rw [HE1.out, maskE, if_neg k1]
    subst q1
    have q2 : ma = csA 0 z16 := by rw [HMA.out, maskA, if_neg k1]
    have hxq : x = false := by rw [HXX.out, withinP]; simp [k1]
    subst hxq
    have hqz : ∀ w, (Op.equalIn 10000 24 (.agg ma) (.agg #[.int .i64 0, .int .u8 0, .int .u8 0, .int .u8 0, .int .u8 0, .int .u8 0, .int .u8 0, .int .u8 0, .int .u8 0, .int .u8 0, .int .u8 0, .int .u8 0, .int .u8 0, .int .u8 0, .int .u8 0, .int .u8 0, .int .u8 0])).run Tryd.prog w = .ok true w := fun w => by
      rw [← csA_z, q2]; exact eq24 0 0 z16 z16 rfl rfl w
    clear k1 q2
    go_wp2_with (first
      | (refine wpList_load24 rfl _ rfl _ rfl _ (by assumption) ?_)
      | (go_at_call 12; refine (HY.out _).mono ?_; rintro e t5 ⟨rfl, hb⟩; have hs5 := hs4.on hb; have z1 := hs5.1; have z2 := hs5.2.1; have z3 := hs5.2.2.1; have z4 := hs5.2.2.2.1; clear hb hs4; refine Hid.out ?_))
    refine Lib.hid ?_
    go_wp2_with (first
      | (refine wpList_load24 rfl _ rfl _ rfl _ (by assumption) ?_))
    go_ret
    exact ⟨rfl, hs5.base.2⟩
end addrNets
namespace addrNets
theorem contract (H : Type) (enc : TypeId × Value → H) (W : World) (base : Nat) (args : Array Value) (ds gs : List (DataW H)) (before : List MemPlace)
    (hval0 : ∀ (j : Nat) t v, Tryd.f4.params[j]? = some t → args[j]? = some v → Value.okWide Tryd.prog W .any base t v)
    (hW : DataW.Whole enc Tryd.prog Tryd.f4.params.toList Rows.addrNetsSpec.vars false W args.toList ds gs before)
    (hL : laidMetH Tryd.prog Rows.addrNetsRow.laid W) (hS : W.ShapedOpen Tryd.prog) :
    Calls Tryd.prog 4 args W fun e W' => ∃ v, e = .returned v ∧ Rows.addrNetsSpec.post enc Tryd.prog Tryd.f4 false true false false W args v W' := by
  have hval := hval0
  have hW' := hW
  obtain ⟨p, q, hA0, hV, rfl, hfz, hnd⟩ := hW
  have hA : DataW.TrodAll enc Tryd.prog W 0 (fun _ => true) true Tryd.f4.params.toList args.toList ds p := hA0
  rw [Tryd.params4] at hA hval
  obtain ⟨v0, vs0, d0, ds0, p0, q0, hargs, rfl, rfl, h0, r0⟩ := trodAll_cons hA
  obtain ⟨v1, vs1, d1, ds1, p1, q1, rfl, rfl, rfl, h1, r1⟩ := trodAll_cons r0
  obtain ⟨v2, vs2, d2, ds2, p2, q2, rfl, rfl, rfl, h2, r2⟩ := trodAll_cons r1
  obtain ⟨v3, vs3, d3, ds3, p3, q3, rfl, rfl, rfl, h3, r3⟩ := trodAll_cons r2
  obtain ⟨rfl, rfl, rfl⟩ := trodAll_nil r3
  obtain rfl : args = #[v0, v1, v2, v3] := by cases args; simp_all
  obtain ⟨rfl, rfl⟩ := trodVars_none hV
  have k0 := h0
  have lt0 : ∀ x ∈ p0, x.block < W.heap.size := by obtain ⟨m, hm⟩ := k0; exact DataW.trod_lt m _ _ _ hm
  obtain ⟨x0, l0, rfl, n0, b0, w0⟩ := open_addr (hval 0 24 v0 rfl rfl) h0
  have k1 := h1
  have lt1 : ∀ x ∈ p1, x.block < W.heap.size := by obtain ⟨m, hm⟩ := k1; exact DataW.trod_lt m _ _ _ hm
  obtain ⟨x1, l1, rfl, n1, b1, w1⟩ := open_addr (hval 1 24 v1 rfl rfl) h1
  obtain ⟨a2, rfl, rfl, rfl, w2⟩ := open_int Tryd.underlying3 (hval 2 3 v2 rfl rfl) h2
  obtain ⟨a3, rfl, rfl, rfl, w3⟩ := open_int Tryd.underlying3 (hval 3 3 v3 rfl rfl) h3
  clear hA0 hval0
  refine (walk x0 l0 x1 l1 a2 a3 W (glob_of hL hS) n0 b0 n1 b1 w2 w3).mono fun e W' ⟨he, bel⟩ => ?_
  subst he
  exact ⟨_, rfl, _, _, _, [], _, [], hW', trodAll_mk1 (shut_bool Tryd.underlying4 _), (trodAll_cons_mk (Below.trod laidOut (by kernel_rfl) (of_decide_eq_true (by kernel_rfl)) k0 bel lt0) (trodAll_cons_mk (Below.trod laidOut (by kernel_rfl) (of_decide_eq_true (by kernel_rfl)) k1 bel lt1) (trodAll_cons_mk (shut_int Tryd.underlying3 w2) (trodAll_cons_mk (shut_int Tryd.underlying3 w3) trodAll_mk0)))), rfl, bel.frame _, fun h => by cases h⟩
theorem laid_met (os : Os) : laidMet Tryd.prog Rows.addrNetsRow.laid ((laidWorld Tryd.prog os).forCall (fun _ _ => 0) ⟨#[], #[.agg (csA 0 z16), .agg (csA 0 z16), .int .i64 0, .int .i64 0], []⟩).memory :=
  laidMet_of_run' 8 (by kernel_rfl) (by kernel_rfl)
theorem reads (os : Os) {H : Type} (enc : TypeId × Value → H) : ∃ places, DataW.whole enc Tryd.prog ((laidWorld Tryd.prog os).forCall (fun _ _ => 0) ⟨#[], #[.agg (csA 0 z16), .agg (csA 0 z16), .int .i64 0, .int .i64 0], []⟩).memory Tryd.f4.params.toList Rows.addrNetsSpec.vars false #[.agg (csA 0 z16), .agg (csA 0 z16), .int .i64 0, .int .i64 0].toList 8 = some ([.agg [.lit (.int .i64 0), .agg [.lit (.int .u8 0), .lit (.int .u8 0), .lit (.int .u8 0), .lit (.int .u8 0), .lit (.int .u8 0), .lit (.int .u8 0), .lit (.int .u8 0), .lit (.int .u8 0), .lit (.int .u8 0), .lit (.int .u8 0), .lit (.int .u8 0), .lit (.int .u8 0), .lit (.int .u8 0), .lit (.int .u8 0), .lit (.int .u8 0), .lit (.int .u8 0)]], .agg [.lit (.int .i64 0), .agg [.lit (.int .u8 0), .lit (.int .u8 0), .lit (.int .u8 0), .lit (.int .u8 0), .lit (.int .u8 0), .lit (.int .u8 0), .lit (.int .u8 0), .lit (.int .u8 0), .lit (.int .u8 0), .lit (.int .u8 0), .lit (.int .u8 0), .lit (.int .u8 0), .lit (.int .u8 0), .lit (.int .u8 0), .lit (.int .u8 0), .lit (.int .u8 0)]], .lit (.int .i64 0), .lit (.int .i64 0)], [], places) :=
  ⟨[], by kernel_rfl⟩
theorem lifted (os : Os) (started : os.Started) (H : Type) (enc : TypeId × Value → H) (F : Stop.Interp) :
    ReturnsInHanded {} Tryd.checked os 4 .any ((OpenSpec.ofChange Rows.addrNetsSpec).preRow enc Tryd.prog Tryd.f4 Rows.addrNetsRow.domain false Rows.addrNetsRow.laid) (((OpenSpec.ofChange Rows.addrNetsSpec).at F).post enc Tryd.prog Tryd.f4 false true false false) := by
  obtain ⟨places, hx⟩ := reads os enc
  refine returnsInHanded_of_row (C := Tryd.checked) (s := OpenSpec.ofChange Rows.addrNetsSpec) ownKn started (by kernel_rfl) Tryd.func4
    (witness_row_at (enc := enc) (C := Tryd.checked) false (laidWorld Tryd.prog os) #[.agg (csA 0 z16), .agg (csA 0 z16), .int .i64 0, .int .i64 0] rfl (by kernel_rfl) (by kernel_rfl) (by kernel_rfl)
      (OpenSpec.preRow_of_cond 8 hx (by kernel_rfl) (fun k hk => by cases hk) (by kernel_rfl) (laid_met os))) ?_
  intro W base args ds gs before hval hW _ hcond _ hL hS _
  exact contract H enc W base args ds gs before hval hW hL hS
theorem said : Rows.AddrNetsSaid :=
  OpenClaim.holds_of_cond 4 Tryd.f4 rfl rfl rfl rfl rfl rfl rfl ⟨rfl, rfl, rfl, rfl, rfl⟩ rfl rfl rfl rfl rfl (by kernel_rfl) Tryd.func4 (by kernel_rfl)
    (of_decide_eq_true (by kernel_rfl)) (by unfold Func.isWrapper; first | (rw [if_pos (by decide +kernel)]; kernel_rfl) | (rw [if_neg (by decide +kernel)]; exact ⟨rfl, rfl⟩))
    (fun os started H enc _ F => by rw [OpenClaim.pre_eq_preRow]; exact lifted os started H enc F)
theorem plain (f : FuncId) (fn : Func) (hf : Tryd.pinned.checked.prog.funcNamed "mosaic/mosaiclaw03.AddrNets" = some f) (hfn : Tryd.pinned.checked.prog.funcs[f]? = some fn) :
    false = Tryd.pinned.checked.prog.looks [] ∧ ∀ (j : Nat) t, fn.params[j]? = some t → Tryd.pinned.checked.prog.wantsStandIn t = false := by
  obtain rfl : f = 4 := Option.some.inj ((show Tryd.prog.funcNamed "mosaic/mosaiclaw03.AddrNets" = some 4 by kernel_rfl).symm.trans hf) |>.symm
  obtain rfl : fn = Tryd.f4 := (Option.some.inj (Tryd.func4.symm.trans hfn)).symm
  refine ⟨by kernel_rfl, fun j t ht => ?_⟩
  rw [Tryd.params4] at ht
  have hm := Array.mem_of_getElem? ht
  simp only [List.mem_toArray, List.mem_cons, List.not_mem_nil, or_false] at hm
  have h24 : Tryd.prog.wantsStandIn 24 = false := by kernel_rfl
  have h3 : Tryd.prog.wantsStandIn 3 = false := by kernel_rfl
  have h9 : Tryd.prog.wantsStandIn 9 = false := by kernel_rfl
  rcases hm with rfl | rfl | rfl | rfl
  all_goals first | exact h24 | exact h3 | exact h9
theorem card : Rows.AddrNetsCardSaid :=
  Claim7.holds_tied_plain_at .later [] _ _ _ _ said (fun _ h => by cases h) (by kernel_rfl) (fun _ h => by cases h) addrNets_row_tie rfl ⟨rfl, rfl⟩ (by kernel_rfl) rfl plain (by kernel_rfl)
end addrNets
theorem addrNets_holds : Rows.AddrNetsCardSaid := addrNets.card
#print axioms addrNets_holds
end Go.Proofs.YtclfhajapohogaaDoor
