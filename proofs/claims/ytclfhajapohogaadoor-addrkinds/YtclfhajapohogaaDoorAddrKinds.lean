/-
  AddrKinds.
-/
import Derived.Test.YtclfhajapohogaaDoorKinds
namespace Go.Proofs.YtclfhajapohogaaDoor
open Go.ChangeShapes Go.WideShapes Go.ChangeAt Go.RowKit
set_option linter.unusedVariables false
set_option maxHeartbeats 4000000
set_option maxRecDepth 100000

namespace addrKinds
theorem walk (v0 : Int) (l0 : List Int) (W : World) (hg : Glob W) (n0 : l0.length = 16) (b0 : ∀ y ∈ l0, 0 ≤ y ∧ y ≤ 255) :
    Calls Tryd.prog 5 #[.agg (csA v0 l0)] W fun e W' => e = .returned (.bool true) ∧ Below W.heap.size W W' := by
  obtain ⟨ca, hca⟩ : ∃ c, c = csA v0 l0 := ⟨_, rfl⟩
  obtain ⟨k, hk⟩ : ∃ c, c = kindP v0 l0 := ⟨_, rfl⟩
  obtain ⟨vd, hvd⟩ : ∃ c, c = validP v0 l0 := ⟨_, rfl⟩
  obtain ⟨cf, hcf⟩ : ∃ c, c = csA 6 ff16 := ⟨_, rfl⟩
  obtain ⟨co, hco⟩ : ∃ c, c = csA 6 one16 := ⟨_, rfl⟩
  have hcf' := hcf; have hco' := hco
  simp only [csA, cellsA, ff16, one16, List.map_cons, List.map_nil] at hcf' hco'
  have sa : ca.size = 17 := by rw [hca]; exact csA_size n0
  have sf : cf.size = 17 := by rw [hcf]; rfl
  have so : co.size = 17 := by rw [hco]; rfl
  have of : cf.all (·.oneCell') = true := by rw [hcf]; exact csA_one _ _
  have oo : co.all (·.oneCell') = true := by rw [hco]; exact csA_one _ _
  have HAL : Hid (∀ W, Glob W → Calls Tryd.prog 9 #[] W fun e w' => e = .returned (.bool true) ∧ Below W.heap.size W w') := Lib.hid (fun W hW => alive_c W hW)
  have HK : Hid (∀ W, Calls Tryd.prog 13 #[.agg ca] W fun e w' => e = .returned (.int .i64 k) ∧ Below W.heap.size W w') := Lib.hid (fun W => by rw [hca, hk]; exact kind_c v0 l0 n0 W)
  have HV : Hid (∀ W, Calls Tryd.prog 14 #[.agg ca] W fun e w' => e = .returned (.bool vd) ∧ Below W.heap.size W w') := Lib.hid (fun W => by rw [hca, hvd]; exact valid_c v0 l0 n0 W)
  have hz : (csA 0 z16).size = 17 := rfl
  rw [csA_z] at hz
  have hsa : RS W [(W.heap.size, ca)] (W.alloc (.cells ca 24)) := by
    have h0 : RS W [] W := ⟨hg, Below.refl _ _⟩
    exact h0.add ca sa
  have HCA := Lib.hid hca; have HKK := Lib.hid hk; have HVD := Lib.hid hvd; have HCF := Lib.hid hcf; have HCO := Lib.hid hco
  rw [← hca]
  clear hca hk hvd hg hcf hco
  go_enter Tryd.func5, Tryd.ntmps5
  go_wp2_with (first
    | (refine wpList_load24 rfl _ rfl _ rfl _ (by assumption) ?_)
    | (go_at_call 9; refine (HAL.out _ hsa.base.1).mono ?_; rintro e t1 ⟨rfl, hb⟩; have hs1 := hsa.on hb; have z1 := hs1.1; clear hb hsa; refine Hid.out ?_))
  refine Lib.hid ?_
  go_wp2_with (first
    | (refine wpList_load24 rfl _ rfl _ rfl _ (by assumption) ?_)
    | (go_at_call 13; refine (HK.out _).mono ?_; rintro e t2 ⟨rfl, hb⟩; have hs2 := hs1.on hb; have z1 := hs2.1; clear hb hs1; refine Hid.out ?_))
  refine Lib.hid ?_
  cases vd
  · have k0 : k = 0 := by rw [HKK.out, kindP, ← HVD.out]; rfl
    subst k0
    go_wp2_with (first
      | (refine wpList_load24 rfl _ rfl _ rfl _ (by assumption) ?_)
      | (go_at_call 14; refine (HV.out _).mono ?_; rintro e t3 ⟨rfl, hb⟩; have hs3 := hs2.on hb; clear hb hs2))
    go_ret
    exact ⟨rfl, hs3.base.2⟩
  · have ask := asked n0 b0 HVD.out.symm
    rw [← HKK.out] at ask
    obtain ⟨p1, hp1⟩ : ∃ c, c = withinP v0 l0 4 (f4 127 0 0 0) 8 := ⟨_, rfl⟩
    obtain ⟨p1', hp1'⟩ : ∃ c, c = withinP v0 l0 6 one16 128 := ⟨_, rfl⟩
    obtain ⟨p2, hp2⟩ : ∃ c, c = withinP v0 l0 4 (f4 224 0 0 0) 4 := ⟨_, rfl⟩
    obtain ⟨p2', hp2'⟩ : ∃ c, c = withinP v0 l0 6 ff16 8 := ⟨_, rfl⟩
    obtain ⟨p3, hp3⟩ : ∃ c, c = withinP v0 l0 4 (f4 0 0 0 0) 32 := ⟨_, rfl⟩
    obtain ⟨p3', hp3'⟩ : ∃ c, c = withinP v0 l0 6 z16 128 := ⟨_, rfl⟩
    obtain ⟨p4, hp4⟩ : ∃ c, c = withinP v0 l0 4 (f4 255 255 255 255) 32 := ⟨_, rfl⟩
    obtain ⟨c1, hc1⟩ : ∃ c, c = csA 4 (f4 127 0 0 0) := ⟨_, rfl⟩
    obtain ⟨c2, hc2⟩ : ∃ c, c = csA 4 (f4 224 0 0 0) := ⟨_, rfl⟩
    obtain ⟨c3, hc3⟩ : ∃ c, c = csA 4 (f4 0 0 0 0) := ⟨_, rfl⟩
    obtain ⟨c4, hc4⟩ : ∃ c, c = csA 4 (f4 255 255 255 255) := ⟨_, rfl⟩
    have HF1 : Hid (∀ W, Calls Tryd.prog 15 #[.int .u8 127, .int .u8 0, .int .u8 0, .int .u8 0] W fun e w' => e = .returned (.agg c1) ∧ Below W.heap.size W w') := Lib.hid (fun W => by rw [hc1]; exact four_c 127 0 0 0 W)
    have HF2 : Hid (∀ W, Calls Tryd.prog 15 #[.int .u8 224, .int .u8 0, .int .u8 0, .int .u8 0] W fun e w' => e = .returned (.agg c2) ∧ Below W.heap.size W w') := Lib.hid (fun W => by rw [hc2]; exact four_c 224 0 0 0 W)
    have HF3 : Hid (∀ W, Calls Tryd.prog 15 #[.int .u8 0, .int .u8 0, .int .u8 0, .int .u8 0] W fun e w' => e = .returned (.agg c3) ∧ Below W.heap.size W w') := Lib.hid (fun W => by rw [hc3]; exact four_c 0 0 0 0 W)
    have HF4 : Hid (∀ W, Calls Tryd.prog 15 #[.int .u8 255, .int .u8 255, .int .u8 255, .int .u8 255] W fun e w' => e = .returned (.agg c4) ∧ Below W.heap.size W w') := Lib.hid (fun W => by rw [hc4]; exact four_c 255 255 255 255 W)
    have HP1 : Hid (∀ W, Calls Tryd.prog 12 #[.agg ca, .agg c1, .int .i64 8] W fun e w' => e = .returned (.bool p1) ∧ Below W.heap.size W w') := Lib.hid (fun W => by rw [HCA.out, hc1, hp1]; exact within_c v0 4 l0 _ n0 rfl 8 W)
    have HP1' : Hid (∀ W, Calls Tryd.prog 12 #[.agg ca, .agg co, .int .i64 128] W fun e w' => e = .returned (.bool p1') ∧ Below W.heap.size W w') := Lib.hid (fun W => by rw [HCA.out, HCO.out, hp1']; exact within_c v0 6 l0 _ n0 rfl 128 W)
    have HP2 : Hid (∀ W, Calls Tryd.prog 12 #[.agg ca, .agg c2, .int .i64 4] W fun e w' => e = .returned (.bool p2) ∧ Below W.heap.size W w') := Lib.hid (fun W => by rw [HCA.out, hc2, hp2]; exact within_c v0 4 l0 _ n0 rfl 4 W)
    have HP2' : Hid (∀ W, Calls Tryd.prog 12 #[.agg ca, .agg cf, .int .i64 8] W fun e w' => e = .returned (.bool p2') ∧ Below W.heap.size W w') := Lib.hid (fun W => by rw [HCA.out, HCF.out, hp2']; exact within_c v0 6 l0 _ n0 rfl 8 W)
    have HP3 : Hid (∀ W, Calls Tryd.prog 12 #[.agg ca, .agg c3, .int .i64 32] W fun e w' => e = .returned (.bool p3) ∧ Below W.heap.size W w') := Lib.hid (fun W => by rw [HCA.out, hc3, hp3]; exact within_c v0 4 l0 _ n0 rfl 32 W)
    have HP3' : Hid (∀ W, Calls Tryd.prog 12 #[.agg ca, .agg #[.int .i64 6, .int .u8 0, .int .u8 0, .int .u8 0, .int .u8 0, .int .u8 0, .int .u8 0, .int .u8 0, .int .u8 0, .int .u8 0, .int .u8 0, .int .u8 0, .int .u8 0, .int .u8 0, .int .u8 0, .int .u8 0, .int .u8 0], .int .i64 128] W fun e w' => e = .returned (.bool p3') ∧ Below W.heap.size W w') := Lib.hid (fun W => by rw [HCA.out, hp3']; exact within_c v0 6 l0 z16 n0 rfl 128 W)
    have HP4 : Hid (∀ W, Calls Tryd.prog 12 #[.agg ca, .agg c4, .int .i64 32] W fun e w' => e = .returned (.bool p4) ∧ Below W.heap.size W w') := Lib.hid (fun W => by rw [HCA.out, hc4, hp4]; exact within_c v0 4 l0 _ n0 rfl 32 W)
    rw [← hp1, ← hp1', ← hp2, ← hp2', ← hp3, ← hp3', ← hp4] at ask
    have ASK := Lib.hid ask
    clear hp1 hp1' hp2 hp2' hp3 hp3' hp4 hc1 hc2 hc3 hc4 ask HKK HVD HCF HCO HCA
    go_wp2_with (first
      | (refine wpList_load24 rfl _ rfl _ rfl _ (by assumption) ?_)
      | (go_at_call 14; refine (HV.out _).mono ?_; rintro e t3 ⟨rfl, hb⟩; have hs3 := hs2.on hb; have z1 := hs3.1; clear hb hs2; refine Hid.out ?_))
    refine Lib.hid ?_
    have sfx : (#[.int .i64 6, .int .u8 255, .int .u8 0, .int .u8 0, .int .u8 0, .int .u8 0, .int .u8 0, .int .u8 0, .int .u8 0, .int .u8 0, .int .u8 0, .int .u8 0, .int .u8 0, .int .u8 0, .int .u8 0, .int .u8 0, .int .u8 0] : Array Value).size = 17 := rfl
    have ofx : (#[.int .i64 6, .int .u8 255, .int .u8 0, .int .u8 0, .int .u8 0, .int .u8 0, .int .u8 0, .int .u8 0, .int .u8 0, .int .u8 0, .int .u8 0, .int .u8 0, .int .u8 0, .int .u8 0, .int .u8 0, .int .u8 0, .int .u8 0] : Array Value).all (·.oneCell') = true := by rw [← hcf']; exact of
    have sox : (#[.int .i64 6, .int .u8 0, .int .u8 0, .int .u8 0, .int .u8 0, .int .u8 0, .int .u8 0, .int .u8 0, .int .u8 0, .int .u8 0, .int .u8 0, .int .u8 0, .int .u8 0, .int .u8 0, .int .u8 0, .int .u8 0, .int .u8 1] : Array Value).size = 17 := rfl
    have oox : (#[.int .i64 6, .int .u8 0, .int .u8 0, .int .u8 0, .int .u8 0, .int .u8 0, .int .u8 0, .int .u8 0, .int .u8 0, .int .u8 0, .int .u8 0, .int .u8 0, .int .u8 0, .int .u8 0, .int .u8 0, .int .u8 0, .int .u8 1] : Array Value).all (·.oneCell') = true := by rw [← hco']; exact oo
    go_wp2_with (first
      | (refine wpList_store24 rfl _ _ rfl rfl _ rfl sfx hz ofx ?_; refine Hid.out ?_))
    refine Lib.hid ?_
    rw [← hcf']
    have hs4 := hs3.add cf sf
    generalize t3.alloc (.cells cf 24) = V4 at *
    obtain ⟨A, hA⟩ : ∃ A, t3.heap.size = A := ⟨_, rfl⟩
    rw [hA] at hs4
    simp only [hA]
    clear hA hs3
    go_wp2_with (first
      | (refine wpList_store24 rfl _ _ rfl rfl _ rfl sox hz oox ?_; refine Hid.out ?_))
    refine Lib.hid ?_
    rw [← hco']
    have hs5 := hs4.add co so
    generalize V4.alloc (.cells co 24) = V5 at *
    obtain ⟨B, hB⟩ : ∃ A, V4.heap.size = A := ⟨_, rfl⟩
    rw [hB] at hs5
    simp only [hB]
    clear hB hs4
    rcases ASK.out with h | h | h | h | h
    · obtain ⟨k2, rfl, rfl, rfl, rfl, rfl, rfl, rfl⟩ := h
      clear ASK
      go_wp2_with fail
      refine wp_region_cls (C := fun w' => RS W [(B, co), (A, cf), (W.heap.size, ca)] w') (by kernel_rfl) (by kernel_rfl) hs5.drew ?_
      repeat (first
          | go_big_quiet_skip
          | (go_big_quiet_want
             first
               | (go_big_quiet_op; go_big_quiet_on)
               | (refine quiet_load24 _ rfl _ rfl _ (fun w h => h.2.2.1) ?_; go_simp; go_big_quiet_on)
               | (refine quiet_load24 _ rfl _ rfl _ (fun w h => h.2.1) ?_; go_simp; go_big_quiet_on)
               | (refine quiet_load24 _ rfl _ rfl _ (fun w h => h.1) ?_; go_simp; go_big_quiet_on)
               | (refine quiet_val ?_ ?_ ?_
                  rotate_left
                  · intro w; go_simp; rfl
                  go_simp; go_big_quiet_on)
               | (refine quiet_call 15 #[.int .u8 127, .int .u8 0, .int .u8 0, .int .u8 0] (.agg c1) ?_ (fun W hW => (HF1.out W).mono (fun _ _ h => ⟨h.1, hW.on h.2⟩)) ?_
                  · intro w; go_simp; done
                  go_simp; go_big_quiet_on)
               | (refine quiet_call 12 #[.agg ca, .agg c1, .int .i64 8] (.bool true) ?_ (fun W hW => (HP1.out W).mono (fun _ _ h => ⟨h.1, hW.on h.2⟩)) ?_
                  · intro w; go_simp; done
                  go_simp; go_big_quiet_on)
               | (refine quiet_call 12 #[.agg ca, .agg co, .int .i64 128] (.bool false) ?_ (fun W hW => (HP1'.out W).mono (fun _ _ h => ⟨h.1, hW.on h.2⟩)) ?_
                  · intro w; go_simp; done
                  go_simp; go_big_quiet_on)))
      refine wpQuiet_nil ?_
      intro V6 hs6
      clear hs5
      go_wp2_with fail
      refine wp_region_cls (C := fun w' => RS W [(B, co), (A, cf), (W.heap.size, ca)] w') (by kernel_rfl) (by kernel_rfl) hs6.drew ?_
      repeat (first
          | go_big_quiet_skip
          | (go_big_quiet_want
             first
               | (go_big_quiet_op; go_big_quiet_on)
               | (refine quiet_load24 _ rfl _ rfl _ (fun w h => h.2.2.1) ?_; go_simp; go_big_quiet_on)
               | (refine quiet_load24 _ rfl _ rfl _ (fun w h => h.2.1) ?_; go_simp; go_big_quiet_on)
               | (refine quiet_load24 _ rfl _ rfl _ (fun w h => h.1) ?_; go_simp; go_big_quiet_on)
               | (refine quiet_val ?_ ?_ ?_
                  rotate_left
                  · intro w; go_simp; rfl
                  go_simp; go_big_quiet_on)
               | (refine quiet_call 15 #[.int .u8 224, .int .u8 0, .int .u8 0, .int .u8 0] (.agg c2) ?_ (fun W hW => (HF2.out W).mono (fun _ _ h => ⟨h.1, hW.on h.2⟩)) ?_
                  · intro w; go_simp; done
                  go_simp; go_big_quiet_on)
               | (refine quiet_call 12 #[.agg ca, .agg c2, .int .i64 4] (.bool false) ?_ (fun W hW => (HP2.out W).mono (fun _ _ h => ⟨h.1, hW.on h.2⟩)) ?_
                  · intro w; go_simp; done
                  go_simp; go_big_quiet_on)
               | (refine quiet_call 12 #[.agg ca, .agg cf, .int .i64 8] (.bool false) ?_ (fun W hW => (HP2'.out W).mono (fun _ _ h => ⟨h.1, hW.on h.2⟩)) ?_
                  · intro w; go_simp; done
                  go_simp; go_big_quiet_on)))
      refine wpQuiet_nil ?_
      intro V7 hs7
      clear hs6
      go_wp2_with fail
      refine wp_region_cls (C := fun w' => RS W [(B, co), (A, cf), (W.heap.size, ca)] w') (by kernel_rfl) (by kernel_rfl) hs7.drew ?_
      repeat (first
          | go_big_quiet_skip
          | (go_big_quiet_want
             first
               | (go_big_quiet_op; go_big_quiet_on)
               | (refine quiet_load24 _ rfl _ rfl _ (fun w h => h.2.2.1) ?_; go_simp; go_big_quiet_on)
               | (refine quiet_load24 _ rfl _ rfl _ (fun w h => h.2.1) ?_; go_simp; go_big_quiet_on)
               | (refine quiet_load24 _ rfl _ rfl _ (fun w h => h.1) ?_; go_simp; go_big_quiet_on)
               | (refine quiet_val ?_ ?_ ?_
                  rotate_left
                  · intro w; go_simp; rfl
                  go_simp; go_big_quiet_on)
               | (refine quiet_call 15 #[.int .u8 0, .int .u8 0, .int .u8 0, .int .u8 0] (.agg c3) ?_ (fun W hW => (HF3.out W).mono (fun _ _ h => ⟨h.1, hW.on h.2⟩)) ?_
                  · intro w; go_simp; done
                  go_simp; go_big_quiet_on)
               | (refine quiet_call 12 #[.agg ca, .agg c3, .int .i64 32] (.bool false) ?_ (fun W hW => (HP3.out W).mono (fun _ _ h => ⟨h.1, hW.on h.2⟩)) ?_
                  · intro w; go_simp; done
                  go_simp; go_big_quiet_on)
               | (refine quiet_call 12 #[.agg ca, .agg #[.int .i64 6, .int .u8 0, .int .u8 0, .int .u8 0, .int .u8 0, .int .u8 0, .int .u8 0, .int .u8 0, .int .u8 0, .int .u8 0, .int .u8 0, .int .u8 0, .int .u8 0, .int .u8 0, .int .u8 0, .int .u8 0, .int .u8 0], .int .i64 128] (.bool false) ?_ (fun W hW => (HP3'.out W).mono (fun _ _ h => ⟨h.1, hW.on h.2⟩)) ?_
                  · intro w; go_simp; done
                  go_simp; go_big_quiet_on)))
      refine wpQuiet_nil ?_
      intro V8 hs8
      clear hs7
      go_wp2_with fail
      refine wp_region_cls (C := fun w' => RS W [(B, co), (A, cf), (W.heap.size, ca)] w') (by kernel_rfl) (by kernel_rfl) hs8.drew ?_
      repeat (first
          | go_big_quiet_skip
          | (go_big_quiet_want
             first
               | (go_big_quiet_op; go_big_quiet_on)
               | (refine quiet_load24 _ rfl _ rfl _ (fun w h => h.2.2.1) ?_; go_simp; go_big_quiet_on)
               | (refine quiet_load24 _ rfl _ rfl _ (fun w h => h.2.1) ?_; go_simp; go_big_quiet_on)
               | (refine quiet_load24 _ rfl _ rfl _ (fun w h => h.1) ?_; go_simp; go_big_quiet_on)
               | (refine quiet_val ?_ ?_ ?_
                  rotate_left
                  · intro w; go_simp; rfl
                  go_simp; go_big_quiet_on)
               | (refine quiet_call 15 #[.int .u8 255, .int .u8 255, .int .u8 255, .int .u8 255] (.agg c4) ?_ (fun W hW => (HF4.out W).mono (fun _ _ h => ⟨h.1, hW.on h.2⟩)) ?_
                  · intro w; go_simp; done
                  go_simp; go_big_quiet_on)
               | (refine quiet_call 12 #[.agg ca, .agg c4, .int .i64 32] (.bool false) ?_ (fun W hW => (HP4.out W).mono (fun _ _ h => ⟨h.1, hW.on h.2⟩)) ?_
                  · intro w; go_simp; done
                  go_simp; go_big_quiet_on)))
      refine wpQuiet_nil ?_
      intro V9 hs9
      clear hs8
      subst k2
      go_wp2_with fail
      go_ret
      exact ⟨rfl, hs9.base.2⟩
    · obtain ⟨k2, rfl, rfl, rfl, rfl, rfl, rfl, rfl⟩ := h
      clear ASK
      go_wp2_with fail
      refine wp_region_cls (C := fun w' => RS W [(B, co), (A, cf), (W.heap.size, ca)] w') (by kernel_rfl) (by kernel_rfl) hs5.drew ?_
      repeat (first
          | go_big_quiet_skip
          | (go_big_quiet_want
             first
               | (go_big_quiet_op; go_big_quiet_on)
               | (refine quiet_load24 _ rfl _ rfl _ (fun w h => h.2.2.1) ?_; go_simp; go_big_quiet_on)
               | (refine quiet_load24 _ rfl _ rfl _ (fun w h => h.2.1) ?_; go_simp; go_big_quiet_on)
               | (refine quiet_load24 _ rfl _ rfl _ (fun w h => h.1) ?_; go_simp; go_big_quiet_on)
               | (refine quiet_val ?_ ?_ ?_
                  rotate_left
                  · intro w; go_simp; rfl
                  go_simp; go_big_quiet_on)
               | (refine quiet_call 15 #[.int .u8 127, .int .u8 0, .int .u8 0, .int .u8 0] (.agg c1) ?_ (fun W hW => (HF1.out W).mono (fun _ _ h => ⟨h.1, hW.on h.2⟩)) ?_
                  · intro w; go_simp; done
                  go_simp; go_big_quiet_on)
               | (refine quiet_call 12 #[.agg ca, .agg c1, .int .i64 8] (.bool false) ?_ (fun W hW => (HP1.out W).mono (fun _ _ h => ⟨h.1, hW.on h.2⟩)) ?_
                  · intro w; go_simp; done
                  go_simp; go_big_quiet_on)
               | (refine quiet_call 12 #[.agg ca, .agg co, .int .i64 128] (.bool false) ?_ (fun W hW => (HP1'.out W).mono (fun _ _ h => ⟨h.1, hW.on h.2⟩)) ?_
                  · intro w; go_simp; done
                  go_simp; go_big_quiet_on)))
      refine wpQuiet_nil ?_
      intro V6 hs6
      clear hs5
      go_wp2_with fail
      refine wp_region_cls (C := fun w' => RS W [(B, co), (A, cf), (W.heap.size, ca)] w') (by kernel_rfl) (by kernel_rfl) hs6.drew ?_
      repeat (first
          | go_big_quiet_skip
          | (go_big_quiet_want
             first
               | (go_big_quiet_op; go_big_quiet_on)
               | (refine quiet_load24 _ rfl _ rfl _ (fun w h => h.2.2.1) ?_; go_simp; go_big_quiet_on)
               | (refine quiet_load24 _ rfl _ rfl _ (fun w h => h.2.1) ?_; go_simp; go_big_quiet_on)
               | (refine quiet_load24 _ rfl _ rfl _ (fun w h => h.1) ?_; go_simp; go_big_quiet_on)
               | (refine quiet_val ?_ ?_ ?_
                  rotate_left
                  · intro w; go_simp; rfl
                  go_simp; go_big_quiet_on)
               | (refine quiet_call 15 #[.int .u8 224, .int .u8 0, .int .u8 0, .int .u8 0] (.agg c2) ?_ (fun W hW => (HF2.out W).mono (fun _ _ h => ⟨h.1, hW.on h.2⟩)) ?_
                  · intro w; go_simp; done
                  go_simp; go_big_quiet_on)
               | (refine quiet_call 12 #[.agg ca, .agg c2, .int .i64 4] (.bool true) ?_ (fun W hW => (HP2.out W).mono (fun _ _ h => ⟨h.1, hW.on h.2⟩)) ?_
                  · intro w; go_simp; done
                  go_simp; go_big_quiet_on)
               | (refine quiet_call 12 #[.agg ca, .agg cf, .int .i64 8] (.bool false) ?_ (fun W hW => (HP2'.out W).mono (fun _ _ h => ⟨h.1, hW.on h.2⟩)) ?_
                  · intro w; go_simp; done
                  go_simp; go_big_quiet_on)))
      refine wpQuiet_nil ?_
      intro V7 hs7
      clear hs6
      go_wp2_with fail
      refine wp_region_cls (C := fun w' => RS W [(B, co), (A, cf), (W.heap.size, ca)] w') (by kernel_rfl) (by kernel_rfl) hs7.drew ?_
      repeat (first
          | go_big_quiet_skip
          | (go_big_quiet_want
             first
               | (go_big_quiet_op; go_big_quiet_on)
               | (refine quiet_load24 _ rfl _ rfl _ (fun w h => h.2.2.1) ?_; go_simp; go_big_quiet_on)
               | (refine quiet_load24 _ rfl _ rfl _ (fun w h => h.2.1) ?_; go_simp; go_big_quiet_on)
               | (refine quiet_load24 _ rfl _ rfl _ (fun w h => h.1) ?_; go_simp; go_big_quiet_on)
               | (refine quiet_val ?_ ?_ ?_
                  rotate_left
                  · intro w; go_simp; rfl
                  go_simp; go_big_quiet_on)
               | (refine quiet_call 15 #[.int .u8 0, .int .u8 0, .int .u8 0, .int .u8 0] (.agg c3) ?_ (fun W hW => (HF3.out W).mono (fun _ _ h => ⟨h.1, hW.on h.2⟩)) ?_
                  · intro w; go_simp; done
                  go_simp; go_big_quiet_on)
               | (refine quiet_call 12 #[.agg ca, .agg c3, .int .i64 32] (.bool false) ?_ (fun W hW => (HP3.out W).mono (fun _ _ h => ⟨h.1, hW.on h.2⟩)) ?_
                  · intro w; go_simp; done
                  go_simp; go_big_quiet_on)
               | (refine quiet_call 12 #[.agg ca, .agg #[.int .i64 6, .int .u8 0, .int .u8 0, .int .u8 0, .int .u8 0, .int .u8 0, .int .u8 0, .int .u8 0, .int .u8 0, .int .u8 0, .int .u8 0, .int .u8 0, .int .u8 0, .int .u8 0, .int .u8 0, .int .u8 0, .int .u8 0], .int .i64 128] (.bool false) ?_ (fun W hW => (HP3'.out W).mono (fun _ _ h => ⟨h.1, hW.on h.2⟩)) ?_
                  · intro w; go_simp; done
                  go_simp; go_big_quiet_on)))
      refine wpQuiet_nil ?_
      intro V8 hs8
      clear hs7
      go_wp2_with fail
      refine wp_region_cls (C := fun w' => RS W [(B, co), (A, cf), (W.heap.size, ca)] w') (by kernel_rfl) (by kernel_rfl) hs8.drew ?_
      repeat (first
          | go_big_quiet_skip
          | (go_big_quiet_want
             first
               | (go_big_quiet_op; go_big_quiet_on)
               | (refine quiet_load24 _ rfl _ rfl _ (fun w h => h.2.2.1) ?_; go_simp; go_big_quiet_on)
               | (refine quiet_load24 _ rfl _ rfl _ (fun w h => h.2.1) ?_; go_simp; go_big_quiet_on)
               | (refine quiet_load24 _ rfl _ rfl _ (fun w h => h.1) ?_; go_simp; go_big_quiet_on)
               | (refine quiet_val ?_ ?_ ?_
                  rotate_left
                  · intro w; go_simp; rfl
                  go_simp; go_big_quiet_on)
               | (refine quiet_call 15 #[.int .u8 255, .int .u8 255, .int .u8 255, .int .u8 255] (.agg c4) ?_ (fun W hW => (HF4.out W).mono (fun _ _ h => ⟨h.1, hW.on h.2⟩)) ?_
                  · intro w; go_simp; done
                  go_simp; go_big_quiet_on)
               | (refine quiet_call 12 #[.agg ca, .agg c4, .int .i64 32] (.bool false) ?_ (fun W hW => (HP4.out W).mono (fun _ _ h => ⟨h.1, hW.on h.2⟩)) ?_
                  · intro w; go_simp; done
                  go_simp; go_big_quiet_on)))
      refine wpQuiet_nil ?_
      intro V9 hs9
      clear hs8
      subst k2
      go_wp2_with fail
      go_ret
      exact ⟨rfl, hs9.base.2⟩
    · obtain ⟨k2, rfl, rfl, rfl, rfl, rfl, rfl, rfl⟩ := h
      clear ASK
      go_wp2_with fail
      refine wp_region_cls (C := fun w' => RS W [(B, co), (A, cf), (W.heap.size, ca)] w') (by kernel_rfl) (by kernel_rfl) hs5.drew ?_
      repeat (first
          | go_big_quiet_skip
          | (go_big_quiet_want
             first
               | (go_big_quiet_op; go_big_quiet_on)
               | (refine quiet_load24 _ rfl _ rfl _ (fun w h => h.2.2.1) ?_; go_simp; go_big_quiet_on)
               | (refine quiet_load24 _ rfl _ rfl _ (fun w h => h.2.1) ?_; go_simp; go_big_quiet_on)
               | (refine quiet_load24 _ rfl _ rfl _ (fun w h => h.1) ?_; go_simp; go_big_quiet_on)
               | (refine quiet_val ?_ ?_ ?_
                  rotate_left
                  · intro w; go_simp; rfl
                  go_simp; go_big_quiet_on)
               | (refine quiet_call 15 #[.int .u8 127, .int .u8 0, .int .u8 0, .int .u8 0] (.agg c1) ?_ (fun W hW => (HF1.out W).mono (fun _ _ h => ⟨h.1, hW.on h.2⟩)) ?_
                  · intro w; go_simp; done
                  go_simp; go_big_quiet_on)
               | (refine quiet_call 12 #[.agg ca, .agg c1, .int .i64 8] (.bool false) ?_ (fun W hW => (HP1.out W).mono (fun _ _ h => ⟨h.1, hW.on h.2⟩)) ?_
                  · intro w; go_simp; done
                  go_simp; go_big_quiet_on)
               | (refine quiet_call 12 #[.agg ca, .agg co, .int .i64 128] (.bool false) ?_ (fun W hW => (HP1'.out W).mono (fun _ _ h => ⟨h.1, hW.on h.2⟩)) ?_
                  · intro w; go_simp; done
                  go_simp; go_big_quiet_on)))
      refine wpQuiet_nil ?_
      intro V6 hs6
      clear hs5
      go_wp2_with fail
      refine wp_region_cls (C := fun w' => RS W [(B, co), (A, cf), (W.heap.size, ca)] w') (by kernel_rfl) (by kernel_rfl) hs6.drew ?_
      repeat (first
          | go_big_quiet_skip
          | (go_big_quiet_want
             first
               | (go_big_quiet_op; go_big_quiet_on)
               | (refine quiet_load24 _ rfl _ rfl _ (fun w h => h.2.2.1) ?_; go_simp; go_big_quiet_on)
               | (refine quiet_load24 _ rfl _ rfl _ (fun w h => h.2.1) ?_; go_simp; go_big_quiet_on)
               | (refine quiet_load24 _ rfl _ rfl _ (fun w h => h.1) ?_; go_simp; go_big_quiet_on)
               | (refine quiet_val ?_ ?_ ?_
                  rotate_left
                  · intro w; go_simp; rfl
                  go_simp; go_big_quiet_on)
               | (refine quiet_call 15 #[.int .u8 224, .int .u8 0, .int .u8 0, .int .u8 0] (.agg c2) ?_ (fun W hW => (HF2.out W).mono (fun _ _ h => ⟨h.1, hW.on h.2⟩)) ?_
                  · intro w; go_simp; done
                  go_simp; go_big_quiet_on)
               | (refine quiet_call 12 #[.agg ca, .agg c2, .int .i64 4] (.bool false) ?_ (fun W hW => (HP2.out W).mono (fun _ _ h => ⟨h.1, hW.on h.2⟩)) ?_
                  · intro w; go_simp; done
                  go_simp; go_big_quiet_on)
               | (refine quiet_call 12 #[.agg ca, .agg cf, .int .i64 8] (.bool false) ?_ (fun W hW => (HP2'.out W).mono (fun _ _ h => ⟨h.1, hW.on h.2⟩)) ?_
                  · intro w; go_simp; done
                  go_simp; go_big_quiet_on)))
      refine wpQuiet_nil ?_
      intro V7 hs7
      clear hs6
      go_wp2_with fail
      refine wp_region_cls (C := fun w' => RS W [(B, co), (A, cf), (W.heap.size, ca)] w') (by kernel_rfl) (by kernel_rfl) hs7.drew ?_
      repeat (first
          | go_big_quiet_skip
          | (go_big_quiet_want
             first
               | (go_big_quiet_op; go_big_quiet_on)
               | (refine quiet_load24 _ rfl _ rfl _ (fun w h => h.2.2.1) ?_; go_simp; go_big_quiet_on)
               | (refine quiet_load24 _ rfl _ rfl _ (fun w h => h.2.1) ?_; go_simp; go_big_quiet_on)
               | (refine quiet_load24 _ rfl _ rfl _ (fun w h => h.1) ?_; go_simp; go_big_quiet_on)
               | (refine quiet_val ?_ ?_ ?_
                  rotate_left
                  · intro w; go_simp; rfl
                  go_simp; go_big_quiet_on)
               | (refine quiet_call 15 #[.int .u8 0, .int .u8 0, .int .u8 0, .int .u8 0] (.agg c3) ?_ (fun W hW => (HF3.out W).mono (fun _ _ h => ⟨h.1, hW.on h.2⟩)) ?_
                  · intro w; go_simp; done
                  go_simp; go_big_quiet_on)
               | (refine quiet_call 12 #[.agg ca, .agg c3, .int .i64 32] (.bool true) ?_ (fun W hW => (HP3.out W).mono (fun _ _ h => ⟨h.1, hW.on h.2⟩)) ?_
                  · intro w; go_simp; done
                  go_simp; go_big_quiet_on)
               | (refine quiet_call 12 #[.agg ca, .agg #[.int .i64 6, .int .u8 0, .int .u8 0, .int .u8 0, .int .u8 0, .int .u8 0, .int .u8 0, .int .u8 0, .int .u8 0, .int .u8 0, .int .u8 0, .int .u8 0, .int .u8 0, .int .u8 0, .int .u8 0, .int .u8 0, .int .u8 0], .int .i64 128] (.bool false) ?_ (fun W hW => (HP3'.out W).mono (fun _ _ h => ⟨h.1, hW.on h.2⟩)) ?_
                  · intro w; go_simp; done
                  go_simp; go_big_quiet_on)))
      refine wpQuiet_nil ?_
      intro V8 hs8
      clear hs7
      go_wp2_with fail
      refine wp_region_cls (C := fun w' => RS W [(B, co), (A, cf), (W.heap.size, ca)] w') (by kernel_rfl) (by kernel_rfl) hs8.drew ?_
      repeat (first
          | go_big_quiet_skip
          | (go_big_quiet_want
             first
               | (go_big_quiet_op; go_big_quiet_on)
               | (refine quiet_load24 _ rfl _ rfl _ (fun w h => h.2.2.1) ?_; go_simp; go_big_quiet_on)
               | (refine quiet_load24 _ rfl _ rfl _ (fun w h => h.2.1) ?_; go_simp; go_big_quiet_on)
               | (refine quiet_load24 _ rfl _ rfl _ (fun w h => h.1) ?_; go_simp; go_big_quiet_on)
               | (refine quiet_val ?_ ?_ ?_
                  rotate_left
                  · intro w; go_simp; rfl
                  go_simp; go_big_quiet_on)
               | (refine quiet_call 15 #[.int .u8 255, .int .u8 255, .int .u8 255, .int .u8 255] (.agg c4) ?_ (fun W hW => (HF4.out W).mono (fun _ _ h => ⟨h.1, hW.on h.2⟩)) ?_
                  · intro w; go_simp; done
                  go_simp; go_big_quiet_on)
               | (refine quiet_call 12 #[.agg ca, .agg c4, .int .i64 32] (.bool false) ?_ (fun W hW => (HP4.out W).mono (fun _ _ h => ⟨h.1, hW.on h.2⟩)) ?_
                  · intro w; go_simp; done
                  go_simp; go_big_quiet_on)))
      refine wpQuiet_nil ?_
      intro V9 hs9
      clear hs8
      subst k2
      go_wp2_with fail
      go_ret
      exact ⟨rfl, hs9.base.2⟩
    · obtain ⟨k2, rfl, rfl, rfl, rfl, rfl, rfl⟩ := h
      clear ASK
      have K2 := Lib.hid k2
      clear k2
      go_wp2_with fail
      refine wp_region_cls (C := fun w' => RS W [(B, co), (A, cf), (W.heap.size, ca)] w') (by kernel_rfl) (by kernel_rfl) hs5.drew ?_
      repeat (first
          | go_big_quiet_skip
          | (go_big_quiet_want
             first
               | (go_big_quiet_op; go_big_quiet_on)
               | (refine quiet_load24 _ rfl _ rfl _ (fun w h => h.2.2.1) ?_; go_simp; go_big_quiet_on)
               | (refine quiet_load24 _ rfl _ rfl _ (fun w h => h.2.1) ?_; go_simp; go_big_quiet_on)
               | (refine quiet_load24 _ rfl _ rfl _ (fun w h => h.1) ?_; go_simp; go_big_quiet_on)
               | (refine quiet_val ?_ ?_ ?_
                  rotate_left
                  · intro w; go_simp; rfl
                  go_simp; go_big_quiet_on)
               | (refine quiet_call 15 #[.int .u8 127, .int .u8 0, .int .u8 0, .int .u8 0] (.agg c1) ?_ (fun W hW => (HF1.out W).mono (fun _ _ h => ⟨h.1, hW.on h.2⟩)) ?_
                  · intro w; go_simp; done
                  go_simp; go_big_quiet_on)
               | (refine quiet_call 12 #[.agg ca, .agg c1, .int .i64 8] (.bool false) ?_ (fun W hW => (HP1.out W).mono (fun _ _ h => ⟨h.1, hW.on h.2⟩)) ?_
                  · intro w; go_simp; done
                  go_simp; go_big_quiet_on)
               | (refine quiet_call 12 #[.agg ca, .agg co, .int .i64 128] (.bool false) ?_ (fun W hW => (HP1'.out W).mono (fun _ _ h => ⟨h.1, hW.on h.2⟩)) ?_
                  · intro w; go_simp; done
                  go_simp; go_big_quiet_on)))
      refine wpQuiet_nil ?_
      intro V6 hs6
      clear hs5
      go_wp2_with fail
      refine wp_region_cls (C := fun w' => RS W [(B, co), (A, cf), (W.heap.size, ca)] w') (by kernel_rfl) (by kernel_rfl) hs6.drew ?_
      repeat (first
          | go_big_quiet_skip
          | (go_big_quiet_want
             first
               | (go_big_quiet_op; go_big_quiet_on)
               | (refine quiet_load24 _ rfl _ rfl _ (fun w h => h.2.2.1) ?_; go_simp; go_big_quiet_on)
               | (refine quiet_load24 _ rfl _ rfl _ (fun w h => h.2.1) ?_; go_simp; go_big_quiet_on)
               | (refine quiet_load24 _ rfl _ rfl _ (fun w h => h.1) ?_; go_simp; go_big_quiet_on)
               | (refine quiet_val ?_ ?_ ?_
                  rotate_left
                  · intro w; go_simp; rfl
                  go_simp; go_big_quiet_on)
               | (refine quiet_call 15 #[.int .u8 224, .int .u8 0, .int .u8 0, .int .u8 0] (.agg c2) ?_ (fun W hW => (HF2.out W).mono (fun _ _ h => ⟨h.1, hW.on h.2⟩)) ?_
                  · intro w; go_simp; done
                  go_simp; go_big_quiet_on)
               | (refine quiet_call 12 #[.agg ca, .agg c2, .int .i64 4] (.bool false) ?_ (fun W hW => (HP2.out W).mono (fun _ _ h => ⟨h.1, hW.on h.2⟩)) ?_
                  · intro w; go_simp; done
                  go_simp; go_big_quiet_on)
               | (refine quiet_call 12 #[.agg ca, .agg cf, .int .i64 8] (.bool false) ?_ (fun W hW => (HP2'.out W).mono (fun _ _ h => ⟨h.1, hW.on h.2⟩)) ?_
                  · intro w; go_simp; done
                  go_simp; go_big_quiet_on)))
      refine wpQuiet_nil ?_
      intro V7 hs7
      clear hs6
      go_wp2_with fail
      refine wp_region_cls (C := fun w' => RS W [(B, co), (A, cf), (W.heap.size, ca)] w') (by kernel_rfl) (by kernel_rfl) hs7.drew ?_
      repeat (first
          | go_big_quiet_skip
          | (go_big_quiet_want
             first
               | (go_big_quiet_op; go_big_quiet_on)
               | (refine quiet_load24 _ rfl _ rfl _ (fun w h => h.2.2.1) ?_; go_simp; go_big_quiet_on)
               | (refine quiet_load24 _ rfl _ rfl _ (fun w h => h.2.1) ?_; go_simp; go_big_quiet_on)
               | (refine quiet_load24 _ rfl _ rfl _ (fun w h => h.1) ?_; go_simp; go_big_quiet_on)
               | (refine quiet_val ?_ ?_ ?_
                  rotate_left
                  · intro w; go_simp; rfl
                  go_simp; go_big_quiet_on)
               | (refine quiet_call 15 #[.int .u8 0, .int .u8 0, .int .u8 0, .int .u8 0] (.agg c3) ?_ (fun W hW => (HF3.out W).mono (fun _ _ h => ⟨h.1, hW.on h.2⟩)) ?_
                  · intro w; go_simp; done
                  go_simp; go_big_quiet_on)
               | (refine quiet_call 12 #[.agg ca, .agg c3, .int .i64 32] (.bool false) ?_ (fun W hW => (HP3.out W).mono (fun _ _ h => ⟨h.1, hW.on h.2⟩)) ?_
                  · intro w; go_simp; done
                  go_simp; go_big_quiet_on)
               | (refine quiet_call 12 #[.agg ca, .agg #[.int .i64 6, .int .u8 0, .int .u8 0, .int .u8 0, .int .u8 0, .int .u8 0, .int .u8 0, .int .u8 0, .int .u8 0, .int .u8 0, .int .u8 0, .int .u8 0, .int .u8 0, .int .u8 0, .int .u8 0, .int .u8 0, .int .u8 0], .int .i64 128] (.bool false) ?_ (fun W hW => (HP3'.out W).mono (fun _ _ h => ⟨h.1, hW.on h.2⟩)) ?_
                  · intro w; go_simp; done
                  go_simp; go_big_quiet_on)))
      refine wpQuiet_nil ?_
      intro V8 hs8
      clear hs7
      go_wp2_with fail
      refine wp_region_cls (C := fun w' => RS W [(B, co), (A, cf), (W.heap.size, ca)] w') (by kernel_rfl) (by kernel_rfl) hs8.drew ?_
      repeat (first
          | go_big_quiet_skip
          | (go_big_quiet_want
             first
               | (go_big_quiet_op; go_big_quiet_on)
               | (refine quiet_load24 _ rfl _ rfl _ (fun w h => h.2.2.1) ?_; go_simp; go_big_quiet_on)
               | (refine quiet_load24 _ rfl _ rfl _ (fun w h => h.2.1) ?_; go_simp; go_big_quiet_on)
               | (refine quiet_load24 _ rfl _ rfl _ (fun w h => h.1) ?_; go_simp; go_big_quiet_on)
               | (refine quiet_val ?_ ?_ ?_
                  rotate_left
                  · intro w; go_simp; rfl
                  go_simp; go_big_quiet_on)
               | (refine quiet_call 15 #[.int .u8 255, .int .u8 255, .int .u8 255, .int .u8 255] (.agg c4) ?_ (fun W hW => (HF4.out W).mono (fun _ _ h => ⟨h.1, hW.on h.2⟩)) ?_
                  · intro w; go_simp; done
                  go_simp; go_big_quiet_on)
               | (refine quiet_call 12 #[.agg ca, .agg c4, .int .i64 32] (.bool p4) ?_ (fun W hW => (HP4.out W).mono (fun _ _ h => ⟨h.1, hW.on h.2⟩)) ?_
                  · intro w; go_simp; done
                  go_simp; go_big_quiet_on)))
      refine wpQuiet_nil ?_
      intro V9 hs9
      clear hs8
      cases p4
      all_goals (have k2 := K2.out; simp at k2; subst k2; go_wp2_with fail; go_ret; exact ⟨rfl, hs9.base.2⟩)
    · obtain ⟨k2, rfl, rfl, rfl, rfl, k3, k4⟩ := h
      clear ASK
      have K2 := Lib.hid k2
      clear k2
      go_wp2_with fail
      refine wp_region_cls (C := fun w' => RS W [(B, co), (A, cf), (W.heap.size, ca)] w') (by kernel_rfl) (by kernel_rfl) hs5.drew ?_
      repeat (first
          | go_big_quiet_skip
          | (go_big_quiet_want
             first
               | (go_big_quiet_op; go_big_quiet_on)
               | (refine quiet_load24 _ rfl _ rfl _ (fun w h => h.2.2.1) ?_; go_simp; go_big_quiet_on)
               | (refine quiet_load24 _ rfl _ rfl _ (fun w h => h.2.1) ?_; go_simp; go_big_quiet_on)
               | (refine quiet_load24 _ rfl _ rfl _ (fun w h => h.1) ?_; go_simp; go_big_quiet_on)
               | (refine quiet_val ?_ ?_ ?_
                  rotate_left
                  · intro w; go_simp; rfl
                  go_simp; go_big_quiet_on)
               | (refine quiet_call 15 #[.int .u8 127, .int .u8 0, .int .u8 0, .int .u8 0] (.agg c1) ?_ (fun W hW => (HF1.out W).mono (fun _ _ h => ⟨h.1, hW.on h.2⟩)) ?_
                  · intro w; go_simp; done
                  go_simp; go_big_quiet_on)
               | (refine quiet_call 12 #[.agg ca, .agg c1, .int .i64 8] (.bool false) ?_ (fun W hW => (HP1.out W).mono (fun _ _ h => ⟨h.1, hW.on h.2⟩)) ?_
                  · intro w; go_simp; done
                  go_simp; go_big_quiet_on)
               | (refine quiet_call 12 #[.agg ca, .agg co, .int .i64 128] (.bool p1') ?_ (fun W hW => (HP1'.out W).mono (fun _ _ h => ⟨h.1, hW.on h.2⟩)) ?_
                  · intro w; go_simp; done
                  go_simp; go_big_quiet_on)))
      refine wpQuiet_nil ?_
      intro V6 hs6
      clear hs5
      go_wp2_with fail
      refine wp_region_cls (C := fun w' => RS W [(B, co), (A, cf), (W.heap.size, ca)] w') (by kernel_rfl) (by kernel_rfl) hs6.drew ?_
      repeat (first
          | go_big_quiet_skip
          | (go_big_quiet_want
             first
               | (go_big_quiet_op; go_big_quiet_on)
               | (refine quiet_load24 _ rfl _ rfl _ (fun w h => h.2.2.1) ?_; go_simp; go_big_quiet_on)
               | (refine quiet_load24 _ rfl _ rfl _ (fun w h => h.2.1) ?_; go_simp; go_big_quiet_on)
               | (refine quiet_load24 _ rfl _ rfl _ (fun w h => h.1) ?_; go_simp; go_big_quiet_on)
               | (refine quiet_val ?_ ?_ ?_
                  rotate_left
                  · intro w; go_simp; rfl
                  go_simp; go_big_quiet_on)
               | (refine quiet_call 15 #[.int .u8 224, .int .u8 0, .int .u8 0, .int .u8 0] (.agg c2) ?_ (fun W hW => (HF2.out W).mono (fun _ _ h => ⟨h.1, hW.on h.2⟩)) ?_
                  · intro w; go_simp; done
                  go_simp; go_big_quiet_on)
               | (refine quiet_call 12 #[.agg ca, .agg c2, .int .i64 4] (.bool false) ?_ (fun W hW => (HP2.out W).mono (fun _ _ h => ⟨h.1, hW.on h.2⟩)) ?_
                  · intro w; go_simp; done
                  go_simp; go_big_quiet_on)
               | (refine quiet_call 12 #[.agg ca, .agg cf, .int .i64 8] (.bool p2') ?_ (fun W hW => (HP2'.out W).mono (fun _ _ h => ⟨h.1, hW.on h.2⟩)) ?_
                  · intro w; go_simp; done
                  go_simp; go_big_quiet_on)))
      refine wpQuiet_nil ?_
      intro V7 hs7
      clear hs6
      go_wp2_with fail
      refine wp_region_cls (C := fun w' => RS W [(B, co), (A, cf), (W.heap.size, ca)] w') (by kernel_rfl) (by kernel_rfl) hs7.drew ?_
      repeat (first
          | go_big_quiet_skip
          | (go_big_quiet_want
             first
               | (go_big_quiet_op; go_big_quiet_on)
               | (refine quiet_load24 _ rfl _ rfl _ (fun w h => h.2.2.1) ?_; go_simp; go_big_quiet_on)
               | (refine quiet_load24 _ rfl _ rfl _ (fun w h => h.2.1) ?_; go_simp; go_big_quiet_on)
               | (refine quiet_load24 _ rfl _ rfl _ (fun w h => h.1) ?_; go_simp; go_big_quiet_on)
               | (refine quiet_val ?_ ?_ ?_
                  rotate_left
                  · intro w; go_simp; rfl
                  go_simp; go_big_quiet_on)
               | (refine quiet_call 15 #[.int .u8 0, .int .u8 0, .int .u8 0, .int .u8 0] (.agg c3) ?_ (fun W hW => (HF3.out W).mono (fun _ _ h => ⟨h.1, hW.on h.2⟩)) ?_
                  · intro w; go_simp; done
                  go_simp; go_big_quiet_on)
               | (refine quiet_call 12 #[.agg ca, .agg c3, .int .i64 32] (.bool false) ?_ (fun W hW => (HP3.out W).mono (fun _ _ h => ⟨h.1, hW.on h.2⟩)) ?_
                  · intro w; go_simp; done
                  go_simp; go_big_quiet_on)
               | (refine quiet_call 12 #[.agg ca, .agg #[.int .i64 6, .int .u8 0, .int .u8 0, .int .u8 0, .int .u8 0, .int .u8 0, .int .u8 0, .int .u8 0, .int .u8 0, .int .u8 0, .int .u8 0, .int .u8 0, .int .u8 0, .int .u8 0, .int .u8 0, .int .u8 0, .int .u8 0], .int .i64 128] (.bool p3') ?_ (fun W hW => (HP3'.out W).mono (fun _ _ h => ⟨h.1, hW.on h.2⟩)) ?_
                  · intro w; go_simp; done
                  go_simp; go_big_quiet_on)))
      refine wpQuiet_nil ?_
      intro V8 hs8
      clear hs7
      go_wp2_with fail
      refine wp_region_cls (C := fun w' => RS W [(B, co), (A, cf), (W.heap.size, ca)] w') (by kernel_rfl) (by kernel_rfl) hs8.drew ?_
      repeat (first
          | go_big_quiet_skip
          | (go_big_quiet_want
             first
               | (go_big_quiet_op; go_big_quiet_on)
               | (refine quiet_load24 _ rfl _ rfl _ (fun w h => h.2.2.1) ?_; go_simp; go_big_quiet_on)
               | (refine quiet_load24 _ rfl _ rfl _ (fun w h => h.2.1) ?_; go_simp; go_big_quiet_on)
               | (refine quiet_load24 _ rfl _ rfl _ (fun w h => h.1) ?_; go_simp; go_big_quiet_on)
               | (refine quiet_val ?_ ?_ ?_
                  rotate_left
                  · intro w; go_simp; rfl
                  go_simp; go_big_quiet_on)
               | (refine quiet_call 15 #[.int .u8 255, .int .u8 255, .int .u8 255, .int .u8 255] (.agg c4) ?_ (fun W hW => (HF4.out W).mono (fun _ _ h => ⟨h.1, hW.on h.2⟩)) ?_
                  · intro w; go_simp; done
                  go_simp; go_big_quiet_on)
               | (refine quiet_call 12 #[.agg ca, .agg c4, .int .i64 32] (.bool false) ?_ (fun W hW => (HP4.out W).mono (fun _ _ h => ⟨h.1, hW.on h.2⟩)) ?_
                  · intro w; go_simp; done
                  go_simp; go_big_quiet_on)))
      refine wpQuiet_nil ?_
      intro V9 hs9
      clear hs8
      cases p3' <;> cases p1' <;> cases p2'
      all_goals (have k2 := K2.out; simp at k2; subst k2)
      all_goals first | (exact absurd (k3 rfl).1 (by decide)) | (exact absurd (k3 rfl).2 (by decide)) | (exact absurd (k4 rfl) (by decide)) | (go_wp2_with fail; go_ret; exact ⟨rfl, hs9.base.2⟩)
end addrKinds
namespace addrKinds
theorem contract (H : Type) (enc : TypeId × Value → H) (W : World) (base : Nat) (args : Array Value) (ds gs : List (DataW H)) (before : List MemPlace)
    (hval0 : ∀ (j : Nat) t v, Tryd.f5.params[j]? = some t → args[j]? = some v → Value.okWide Tryd.prog W .any base t v)
    (hW : DataW.Whole enc Tryd.prog Tryd.f5.params.toList Rows.addrKindsSpec.vars false W args.toList ds gs before)
    (hL : laidMetH Tryd.prog Rows.addrKindsRow.laid W) (hS : W.ShapedOpen Tryd.prog) :
    Calls Tryd.prog 5 args W fun e W' => ∃ v, e = .returned v ∧ Rows.addrKindsSpec.post enc Tryd.prog Tryd.f5 false true false false W args v W' := by
  have hval := hval0
  have hW' := hW
  obtain ⟨p, q, hA0, hV, rfl, hfz, hnd⟩ := hW
  have hA : DataW.TrodAll enc Tryd.prog W 0 (fun _ => true) true Tryd.f5.params.toList args.toList ds p := hA0
  rw [Tryd.params5] at hA hval
  obtain ⟨v0, vs0, d0, ds0, p0, q0, hargs, rfl, rfl, h0, r0⟩ := trodAll_cons hA
  obtain ⟨rfl, rfl, rfl⟩ := trodAll_nil r0
  obtain rfl : args = #[v0] := by cases args; simp_all
  obtain ⟨rfl, rfl⟩ := trodVars_none hV
  have k0 := h0
  have lt0 : ∀ x ∈ p0, x.block < W.heap.size := by obtain ⟨m, hm⟩ := k0; exact DataW.trod_lt m _ _ _ hm
  obtain ⟨x0, l0, rfl, n0, b0, w0⟩ := open_addr (hval 0 24 v0 rfl rfl) h0
  clear hA0 hval0
  refine (walk x0 l0 W (glob_of hL hS) n0 b0).mono fun e W' ⟨he, bel⟩ => ?_
  subst he
  exact ⟨_, rfl, _, _, _, [], _, [], hW', trodAll_mk1 (shut_bool Tryd.underlying4 _), (trodAll_cons_mk (Below.trod laidOut (by kernel_rfl) (of_decide_eq_true (by kernel_rfl)) k0 bel lt0) trodAll_mk0), rfl, bel.frame _, fun h => by cases h⟩
theorem laid_met (os : Os) : laidMet Tryd.prog Rows.addrKindsRow.laid ((laidWorld Tryd.prog os).forCall (fun _ _ => 0) ⟨#[], #[.agg (csA 0 z16)], []⟩).memory :=
  laidMet_of_run' 8 (by kernel_rfl) (by kernel_rfl)
theorem reads (os : Os) {H : Type} (enc : TypeId × Value → H) : ∃ places, DataW.whole enc Tryd.prog ((laidWorld Tryd.prog os).forCall (fun _ _ => 0) ⟨#[], #[.agg (csA 0 z16)], []⟩).memory Tryd.f5.params.toList Rows.addrKindsSpec.vars false #[.agg (csA 0 z16)].toList 8 = some ([.agg [.lit (.int .i64 0), .agg [.lit (.int .u8 0), .lit (.int .u8 0), .lit (.int .u8 0), .lit (.int .u8 0), .lit (.int .u8 0), .lit (.int .u8 0), .lit (.int .u8 0), .lit (.int .u8 0), .lit (.int .u8 0), .lit (.int .u8 0), .lit (.int .u8 0), .lit (.int .u8 0), .lit (.int .u8 0), .lit (.int .u8 0), .lit (.int .u8 0), .lit (.int .u8 0)]]], [], places) :=
  ⟨[], by kernel_rfl⟩
theorem lifted (os : Os) (started : os.Started) (H : Type) (enc : TypeId × Value → H) (F : Stop.Interp) :
    ReturnsInHanded {} Tryd.checked os 5 .any ((OpenSpec.ofChange Rows.addrKindsSpec).preRow enc Tryd.prog Tryd.f5 Rows.addrKindsRow.domain false Rows.addrKindsRow.laid) (((OpenSpec.ofChange Rows.addrKindsSpec).at F).post enc Tryd.prog Tryd.f5 false true false false) := by
  obtain ⟨places, hx⟩ := reads os enc
  refine returnsInHanded_of_row (C := Tryd.checked) (s := OpenSpec.ofChange Rows.addrKindsSpec) ownKn started (by kernel_rfl) Tryd.func5
    (witness_row_at (enc := enc) (C := Tryd.checked) false (laidWorld Tryd.prog os) #[.agg (csA 0 z16)] rfl (by kernel_rfl) (by kernel_rfl) (by kernel_rfl)
      (OpenSpec.preRow_of_cond 8 hx (by kernel_rfl) (fun k hk => by cases hk) (by kernel_rfl) (laid_met os))) ?_
  intro W base args ds gs before hval hW _ hcond _ hL hS _
  exact contract H enc W base args ds gs before hval hW hL hS
theorem said : Rows.AddrKindsSaid :=
  OpenClaim.holds_of_cond 5 Tryd.f5 rfl rfl rfl rfl rfl rfl rfl ⟨rfl, rfl, rfl, rfl, rfl⟩ rfl rfl rfl rfl rfl (by kernel_rfl) Tryd.func5 (by kernel_rfl)
    (of_decide_eq_true (by kernel_rfl)) (by unfold Func.isWrapper; first | (rw [if_pos (by decide +kernel)]; kernel_rfl) | (rw [if_neg (by decide +kernel)]; exact ⟨rfl, rfl⟩))
    (fun os started H enc _ F => by rw [OpenClaim.pre_eq_preRow]; exact lifted os started H enc F)
theorem plain (f : FuncId) (fn : Func) (hf : Tryd.pinned.checked.prog.funcNamed "mosaic/mosaiclaw03.AddrKinds" = some f) (hfn : Tryd.pinned.checked.prog.funcs[f]? = some fn) :
    false = Tryd.pinned.checked.prog.looks [] ∧ ∀ (j : Nat) t, fn.params[j]? = some t → Tryd.pinned.checked.prog.wantsStandIn t = false := by
  obtain rfl : f = 5 := Option.some.inj ((show Tryd.prog.funcNamed "mosaic/mosaiclaw03.AddrKinds" = some 5 by kernel_rfl).symm.trans hf) |>.symm
  obtain rfl : fn = Tryd.f5 := (Option.some.inj (Tryd.func5.symm.trans hfn)).symm
  refine ⟨by kernel_rfl, fun j t ht => ?_⟩
  rw [Tryd.params5] at ht
  have hm := Array.mem_of_getElem? ht
  simp only [List.mem_toArray, List.mem_cons, List.not_mem_nil, or_false] at hm
  have h24 : Tryd.prog.wantsStandIn 24 = false := by kernel_rfl
  have h3 : Tryd.prog.wantsStandIn 3 = false := by kernel_rfl
  have h9 : Tryd.prog.wantsStandIn 9 = false := by kernel_rfl
  subst hm
  all_goals first | exact h24 | exact h3 | exact h9
theorem card : Rows.AddrKindsCardSaid :=
  Claim7.holds_tied_plain_at .later [] _ _ _ _ said (fun _ h => by cases h) (by kernel_rfl) (fun _ h => by cases h) addrKinds_row_tie rfl ⟨rfl, rfl⟩ (by kernel_rfl) rfl plain (by kernel_rfl)
end addrKinds
theorem addrKinds_holds : Rows.AddrKindsCardSaid := addrKinds.card
#print axioms addrKinds_holds
end Go.Proofs.YtclfhajapohogaaDoor
