/-
  AddrAsks.
-/
import Derived.Test.YtclfhajapohogaaDoorAsQ
import Derived.Test.YtclfhajapohogaaDoorAsM
import Derived.Test.YtclfhajapohogaaDoorPrint
import Derived.Test.YtclfhajapohogaaDoorAlive
import Derived.Test.YtclfhajapohogaaDoorRows4
import Derived.Test.YtclfhajapohogaaDoorKit
import Derived.Test.YtclfhajapohogaaDoorRef4
import Derived.Test.YtclfhajapohogaaDoorRef5
import Derived.Test.YtclfhajapohogaaDoorRef2
import Derived.Test.YtclfhajapohogaaDoorWithin
import Derived.Test.YtclfhajapohogaaDoorKind
namespace Go.Proofs.YtclfhajapohogaaDoor
open Go.ChangeShapes Go.WideShapes Go.ChangeAt Go.RowKit
set_option linter.unusedVariables false
set_option maxHeartbeats 4000000
set_option maxRecDepth 100000

namespace addrAsks
theorem walk (v0 : Int) (l0 : List Int) (v1 : Int) (l1 : List Int) (n : Int) (W : World) (hg : Glob W) (n0 : l0.length = 16) (b0 : ∀ y ∈ l0, 0 ≤ y ∧ y ≤ 255) (n1 : l1.length = 16) (b1 : ∀ y ∈ l1, 0 ≤ y ∧ y ≤ 255) (wn : (Lit.int .i64 n).wf = true) :
    Calls Tryd.prog 8 #[.agg (csA v0 l0), .agg (csA v1 l1), .int .i64 n] W fun e W' => e = .returned (.bool true) ∧ Below W.heap.size W W' := by
  obtain ⟨ca, hca⟩ : ∃ c, c = csA v0 l0 := ⟨_, rfl⟩
  obtain ⟨cb, hcb⟩ : ∃ c, c = csA v1 l1 := ⟨_, rfl⟩
  obtain ⟨ma, hma⟩ : ∃ c, c = maskA v0 l0 n := ⟨_, rfl⟩
  obtain ⟨e1, he1⟩ : ∃ c, c = maskE v0 l0 n := ⟨_, rfl⟩
  obtain ⟨vd, hvd⟩ : ∃ c, c = validP v0 l0 := ⟨_, rfl⟩
  obtain ⟨k, hk⟩ : ∃ c, c = kindP v0 l0 := ⟨_, rfl⟩
  obtain ⟨s, hs⟩ : ∃ c : ByteArray, c = ⟨(printP v0 l0).toArray⟩ := ⟨_, rfl⟩
  obtain ⟨x1, hx1⟩ : ∃ c, c = lessP v0 l0 v1 l1 := ⟨_, rfl⟩
  obtain ⟨x2, hx2⟩ : ∃ c, c = lessP v1 l1 v0 l0 := ⟨_, rfl⟩
  obtain ⟨y, hy⟩ : ∃ c, c = withinP v0 l0 v1 l1 n := ⟨_, rfl⟩
  have sa : ca.size = 17 := by rw [hca]; exact csA_size n0
  have sb : cb.size = 17 := by rw [hcb]; exact csA_size n1
  have s1 : ma.size = 17 := by rw [hma]; exact maskA_size v0 n0 n
  have o1 : ma.all (·.oneCell') = true := by rw [hma]; exact maskA_one v0 l0 n
  have HAL : Hid (∀ W, Glob W → Calls Tryd.prog 9 #[] W fun e w' => e = .returned (.bool true) ∧ Below W.heap.size W w') := Lib.hid (fun W hW => alive_c W hW)
  have HM1 : Hid (∀ W, Calls Tryd.prog 11 #[.agg ca, .int .i64 n] W fun e w' => e = .returned (.tuple #[.agg ma, .int .i64 e1]) ∧ Below W.heap.size W w') := Lib.hid (fun W => by rw [hca, hma, he1]; exact mask_c v0 l0 n0 n W)
  have HM2 : Hid (∀ W, Calls Tryd.prog 20 #[.agg ca, .int .i64 n] W fun e w' => e = .returned (.tuple #[.agg ma, .int .i64 e1]) ∧ Below W.heap.size W w') := Lib.hid (fun W => by rw [hca, hma, he1]; exact rmask_c v0 l0 n0 b0 n W)
  have HV14 : Hid (∀ W, Calls Tryd.prog 14 #[.agg ca] W fun e w' => e = .returned (.bool vd) ∧ Below W.heap.size W w') := Lib.hid (fun W => by rw [hca, hvd]; exact valid_c v0 l0 n0 W)
  have HV21 : Hid (∀ W, Calls Tryd.prog 21 #[.agg ca] W fun e w' => e = .returned (.bool vd) ∧ Below W.heap.size W w') := Lib.hid (fun W => by rw [hca, hvd]; exact rvalid_c v0 l0 n0 W)
  have HK13 : Hid (∀ W, Calls Tryd.prog 13 #[.agg ca] W fun e w' => e = .returned (.int .i64 k) ∧ Below W.heap.size W w') := Lib.hid (fun W => by rw [hca, hk]; exact kind_c v0 l0 n0 W)
  have HK22 : Hid (∀ W, Glob W → Calls Tryd.prog 22 #[.agg ca] W fun e w' => e = .returned (.int .i64 k) ∧ Below W.heap.size W w') := Lib.hid (fun W hW => by rw [hca, hk]; exact rkind_c v0 l0 n0 b0 W hW)
  have HP17 : Hid (∀ W, Glob W → Calls Tryd.prog 17 #[.agg ca] W fun e w' => e = .returned (.string s) ∧ Below W.heap.size W w') := Lib.hid (fun W hW => by rw [hca, hs]; exact print_c v0 l0 n0 b0 W hW)
  have HP23 : Hid (∀ W, Calls Tryd.prog 23 #[.agg ca] W fun e w' => e = .returned (.string s) ∧ Below W.heap.size W w') := Lib.hid (fun W => by rw [hca, hs]; exact rprint_c v0 l0 n0 b0 W)
  have HL1 : Hid (∀ W, Calls Tryd.prog 10 #[.agg ca, .agg cb] W fun e w' => e = .returned (.bool x1) ∧ Below W.heap.size W w') := Lib.hid (fun W => by rw [hca, hcb, hx1]; exact less_c v0 v1 l0 l1 n0 n1 W)
  have HL2 : Hid (∀ W, Calls Tryd.prog 24 #[.agg ca, .agg cb] W fun e w' => e = .returned (.bool x1) ∧ Below W.heap.size W w') := Lib.hid (fun W => by rw [hca, hcb, hx1]; exact rless_c v0 v1 l0 l1 n0 n1 b0 b1 W)
  have HL3 : Hid (∀ W, Calls Tryd.prog 10 #[.agg cb, .agg ca] W fun e w' => e = .returned (.bool x2) ∧ Below W.heap.size W w') := Lib.hid (fun W => by rw [hca, hcb, hx2]; exact less_c v1 v0 l1 l0 n1 n0 W)
  have HL4 : Hid (∀ W, Calls Tryd.prog 24 #[.agg cb, .agg ca] W fun e w' => e = .returned (.bool x2) ∧ Below W.heap.size W w') := Lib.hid (fun W => by rw [hca, hcb, hx2]; exact rless_c v1 v0 l1 l0 n1 n0 b1 b0 W)
  have HW1 : Hid (∀ W, Calls Tryd.prog 12 #[.agg ca, .agg cb, .int .i64 n] W fun e w' => e = .returned (.bool y) ∧ Below W.heap.size W w') := Lib.hid (fun W => by rw [hca, hcb, hy]; exact within_c v0 v1 l0 l1 n0 n1 n W)
  have HW2 : Hid (∀ W, Glob W → Calls Tryd.prog 25 #[.agg ca, .agg cb, .int .i64 n] W fun e w' => e = .returned (.bool y) ∧ Below W.heap.size W w') := Lib.hid (fun W hW => by rw [hca, hcb, hy]; exact rwithin_c v0 v1 l0 l1 n0 n1 b0 b1 n W hW)
  have hqe : ∀ w, (Op.equalIn 10000 24 (.agg ma) (.agg ma)).run Tryd.prog w = .ok true w := fun w => by
    rw [hma, maskA]
    split
    · have h := eq24 v0 v0 (maskL n 0 l0) (maskL n 0 l0) (by rw [maskL_length, n0]) (by rw [maskL_length, n0]) w
      rw [h, eqL_self]; simp
    · have h := eq24 0 0 z16 z16 rfl rfl w
      rw [h, eqL_self]; simp
  have hz : (csA 0 z16).size = 17 := rfl
  rw [csA_z] at hz
  have hsa : RS W [(W.heap.size + 1, cb), (W.heap.size, ca)] ((W.alloc (.cells ca 24)).alloc (.cells cb 24)) := by
    have h0 : RS W [] W := ⟨hg, Below.refl _ _⟩
    have h2 := (h0.add ca sa).add cb sb
    rwa [show (W.alloc (.cells ca 24)).heap.size = W.heap.size + 1 by simp] at h2
  rw [← hca, ← hcb]
  clear hca hcb hma he1 hg hvd hk hs hx1 hx2 hy
  go_enter Tryd.func8, Tryd.ntmps8
  go_wp2_with (first
    | (refine wpList_load24 rfl _ rfl _ rfl _ (by assumption) ?_)
    | (go_at_call 9; refine (HAL.out _ hsa.base.1).mono ?_; rintro e t1 ⟨rfl, hb⟩; have hs1 := hsa.on hb; have z1 := hs1.1; have z2 := hs1.2.1; clear hb hsa; refine Hid.out ?_))
  refine Lib.hid ?_
  go_wp2_with (first
    | (refine wpList_load24 rfl _ rfl _ rfl _ (by assumption) ?_)
    | (go_at_call 11; refine (HM1.out _).mono ?_; rintro e t2 ⟨rfl, hb⟩; have hs2 := (hs1.on hb).add ma s1; have z1 := hs2.1; have z2 := hs2.2.1; have z3 := hs2.2.2.1; clear hb hs1)
    | (refine wpList_store24 rfl _ _ rfl rfl _ rfl s1 hz o1 ?_; refine Hid.out ?_))
  refine Lib.hid ?_
  go_wp2_with (first
    | (refine wpList_load24 rfl _ rfl _ rfl _ (by assumption) ?_)
    | (go_at_call 20; refine (HM2.out _).mono ?_; rintro e t3 ⟨rfl, hb⟩; have hs3 := (hs2.on hb).add ma s1; have z1 := hs3.1; have z2 := hs3.2.1; have z3 := hs3.2.2.1; have z4 := hs3.2.2.2.1; clear hb hs2)
    | (refine wpList_store24 rfl _ _ rfl rfl _ rfl s1 hz o1 ?_; refine Hid.out ?_))
  refine Lib.hid ?_
  generalize t3.alloc (.cells ma 24) = V at *
  obtain ⟨A, hA⟩ : ∃ A, t2.heap.size = A := ⟨_, rfl⟩
  obtain ⟨B, hB⟩ : ∃ A, t3.heap.size = A := ⟨_, rfl⟩
  rw [hA, hB] at hs3
  simp only [hA, hB]
  clear z1 z2 z3 z4
  clear hA hB
  go_wp2_with fail
  refine wp_region_cls (C := fun w' => RS W [(B, ma), (A, ma), (W.heap.size + 1, cb), (W.heap.size, ca)] w') (by kernel_rfl) (by kernel_rfl) hs3.drew ?_
  repeat (first
      | go_big_quiet_skip
      | (go_big_quiet_want
         first
           | (go_big_quiet_op; go_big_quiet_on)
           | (refine quiet_load24 _ rfl _ rfl _ (fun w h => h.2.2.2.1) ?_; go_simp; go_big_quiet_on)
           | (refine quiet_load24 _ rfl _ rfl _ (fun w h => h.2.2.1) ?_; go_simp; go_big_quiet_on)
           | (refine quiet_load24 _ rfl _ rfl _ (fun w h => h.2.1) ?_; go_simp; go_big_quiet_on)
           | (refine quiet_load24 _ rfl _ rfl _ (fun w h => h.1) ?_; go_simp; go_big_quiet_on)
           | (refine quiet_val ?_ ?_ ?_
              rotate_left
              · intro w; go_simp; rfl
              go_simp; go_big_quiet_on)
           | (refine quiet_call 14 #[.agg ca] (.bool vd) ?_ (fun W hW => (HV14.out W).mono (fun _ _ h => ⟨h.1, hW.on h.2⟩)) ?_
              · intro w; go_simp; done
              go_simp; go_big_quiet_on)
           | (refine quiet_call 21 #[.agg ca] (.bool vd) ?_ (fun W hW => (HV21.out W).mono (fun _ _ h => ⟨h.1, hW.on h.2⟩)) ?_
              · intro w; go_simp; done
              go_simp; go_big_quiet_on)
           | (refine quiet_call 13 #[.agg ca] (.int .i64 k) ?_ (fun W hW => (HK13.out W).mono (fun _ _ h => ⟨h.1, hW.on h.2⟩)) ?_
              · intro w; go_simp; done
              go_simp; go_big_quiet_on)
           | (refine quiet_call 22 #[.agg ca] (.int .i64 k) ?_ (fun W hW => (HK22.out W hW.base.1).mono (fun _ _ h => ⟨h.1, hW.on h.2⟩)) ?_
              · intro w; go_simp; done
              go_simp; go_big_quiet_on)
           | (refine quiet_call 17 #[.agg ca] (.string s) ?_ (fun W hW => (HP17.out W hW.base.1).mono (fun _ _ h => ⟨h.1, hW.on h.2⟩)) ?_
              · intro w; go_simp; done
              go_simp; go_big_quiet_on)
           | (refine quiet_call 23 #[.agg ca] (.string s) ?_ (fun W hW => (HP23.out W).mono (fun _ _ h => ⟨h.1, hW.on h.2⟩)) ?_
              · intro w; go_simp; done
              go_simp; go_big_quiet_on)))
  refine wpQuiet_nil ?_
  intro V4 hs4
  clear hs3
  go_wp2_with fail
  refine wp_region_cls (C := fun w' => RS W [(B, ma), (A, ma), (W.heap.size + 1, cb), (W.heap.size, ca)] w') (by kernel_rfl) (by kernel_rfl) hs4.drew ?_
  repeat (first
      | go_big_quiet_skip
      | (go_big_quiet_want
         first
           | (go_big_quiet_op; go_big_quiet_on)
           | (refine quiet_load24 _ rfl _ rfl _ (fun w h => h.2.2.2.1) ?_; go_simp; go_big_quiet_on)
           | (refine quiet_load24 _ rfl _ rfl _ (fun w h => h.2.2.1) ?_; go_simp; go_big_quiet_on)
           | (refine quiet_load24 _ rfl _ rfl _ (fun w h => h.2.1) ?_; go_simp; go_big_quiet_on)
           | (refine quiet_load24 _ rfl _ rfl _ (fun w h => h.1) ?_; go_simp; go_big_quiet_on)
           | (refine quiet_val ?_ ?_ ?_
              rotate_left
              · intro w; go_simp; rfl
              go_simp; go_big_quiet_on)
           | (refine quiet_call 10 #[.agg ca, .agg cb] (.bool x1) ?_ (fun W hW => (HL1.out W).mono (fun _ _ h => ⟨h.1, hW.on h.2⟩)) ?_
              · intro w; go_simp; done
              go_simp; go_big_quiet_on)
           | (refine quiet_call 24 #[.agg ca, .agg cb] (.bool x1) ?_ (fun W hW => (HL2.out W).mono (fun _ _ h => ⟨h.1, hW.on h.2⟩)) ?_
              · intro w; go_simp; done
              go_simp; go_big_quiet_on)
           | (refine quiet_call 10 #[.agg cb, .agg ca] (.bool x2) ?_ (fun W hW => (HL3.out W).mono (fun _ _ h => ⟨h.1, hW.on h.2⟩)) ?_
              · intro w; go_simp; done
              go_simp; go_big_quiet_on)
           | (refine quiet_call 24 #[.agg cb, .agg ca] (.bool x2) ?_ (fun W hW => (HL4.out W).mono (fun _ _ h => ⟨h.1, hW.on h.2⟩)) ?_
              · intro w; go_simp; done
              go_simp; go_big_quiet_on)
           | (refine quiet_call 12 #[.agg ca, .agg cb, .int .i64 n] (.bool y) ?_ (fun W hW => (HW1.out W).mono (fun _ _ h => ⟨h.1, hW.on h.2⟩)) ?_
              · intro w; go_simp; done
              go_simp; go_big_quiet_on)
           | (refine quiet_call 25 #[.agg ca, .agg cb, .int .i64 n] (.bool y) ?_ (fun W hW => (HW2.out W hW.base.1).mono (fun _ _ h => ⟨h.1, hW.on h.2⟩)) ?_
              · intro w; go_simp; done
              go_simp; go_big_quiet_on)))
  refine wpQuiet_nil ?_
  intro V5 hs5
  clear hs4
  go_wp2_with fail
  go_ret
  exact ⟨by simp, hs5.base.2⟩
end addrAsks
namespace addrAsks
theorem contract (H : Type) (enc : TypeId × Value → H) (W : World) (base : Nat) (args : Array Value) (ds gs : List (DataW H)) (before : List MemPlace)
    (hval0 : ∀ (j : Nat) t v, Tryd.f8.params[j]? = some t → args[j]? = some v → Value.okWide Tryd.prog W .any base t v)
    (hW : DataW.Whole enc Tryd.prog Tryd.f8.params.toList Rows.addrAsksSpec.vars false W args.toList ds gs before)
    (hL : laidMetH Tryd.prog Rows.addrAsksRow.laid W) (hS : W.ShapedOpen Tryd.prog) :
    Calls Tryd.prog 8 args W fun e W' => ∃ v, e = .returned v ∧ Rows.addrAsksSpec.post enc Tryd.prog Tryd.f8 false true false false W args v W' := by
  have hval := hval0
  have hW' := hW
  obtain ⟨p, q, hA0, hV, rfl, hfz, hnd⟩ := hW
  have hA : DataW.TrodAll enc Tryd.prog W 0 (fun _ => true) true Tryd.f8.params.toList args.toList ds p := hA0
  rw [Tryd.params8] at hA hval
  obtain ⟨v0, vs0, d0, ds0, p0, q0, hargs, rfl, rfl, h0, r0⟩ := trodAll_cons hA
  obtain ⟨v1, vs1, d1, ds1, p1, q1, rfl, rfl, rfl, h1, r1⟩ := trodAll_cons r0
  obtain ⟨v2, vs2, d2, ds2, p2, q2, rfl, rfl, rfl, h2, r2⟩ := trodAll_cons r1
  obtain ⟨rfl, rfl, rfl⟩ := trodAll_nil r2
  obtain rfl : args = #[v0, v1, v2] := by cases args; simp_all
  obtain ⟨rfl, rfl⟩ := trodVars_none hV
  have k0 := h0
  have lt0 : ∀ x ∈ p0, x.block < W.heap.size := by obtain ⟨m, hm⟩ := k0; exact DataW.trod_lt m _ _ _ hm
  obtain ⟨x0, l0, rfl, n0, b0, w0⟩ := open_addr (hval 0 24 v0 rfl rfl) h0
  have k1 := h1
  have lt1 : ∀ x ∈ p1, x.block < W.heap.size := by obtain ⟨m, hm⟩ := k1; exact DataW.trod_lt m _ _ _ hm
  obtain ⟨x1, l1, rfl, n1, b1, w1⟩ := open_addr (hval 1 24 v1 rfl rfl) h1
  obtain ⟨a2, rfl, rfl, rfl, w2⟩ := open_int Tryd.underlying3 (hval 2 3 v2 rfl rfl) h2
  clear hA0 hval0
  refine (walk x0 l0 x1 l1 a2 W (glob_of hL hS) n0 b0 n1 b1 w2).mono fun e W' ⟨he, bel⟩ => ?_
  subst he
  exact ⟨_, rfl, _, _, _, [], _, [], hW', trodAll_mk1 (shut_bool Tryd.underlying4 _), (trodAll_cons_mk (Below.trod laidOut (by kernel_rfl) (of_decide_eq_true (by kernel_rfl)) k0 bel lt0) (trodAll_cons_mk (Below.trod laidOut (by kernel_rfl) (of_decide_eq_true (by kernel_rfl)) k1 bel lt1) (trodAll_cons_mk (shut_int Tryd.underlying3 w2) trodAll_mk0))), rfl, bel.frame _, fun h => by cases h⟩
theorem laid_met (os : Os) : laidMet Tryd.prog Rows.addrAsksRow.laid ((laidWorld Tryd.prog os).forCall (fun _ _ => 0) ⟨#[], #[.agg (csA 0 z16), .agg (csA 0 z16), .int .i64 0], []⟩).memory :=
  laidMet_of_run' 8 (by kernel_rfl) (by kernel_rfl)
theorem reads (os : Os) {H : Type} (enc : TypeId × Value → H) : ∃ places, DataW.whole enc Tryd.prog ((laidWorld Tryd.prog os).forCall (fun _ _ => 0) ⟨#[], #[.agg (csA 0 z16), .agg (csA 0 z16), .int .i64 0], []⟩).memory Tryd.f8.params.toList Rows.addrAsksSpec.vars false #[.agg (csA 0 z16), .agg (csA 0 z16), .int .i64 0].toList 8 = some ([.agg [.lit (.int .i64 0), .agg [.lit (.int .u8 0), .lit (.int .u8 0), .lit (.int .u8 0), .lit (.int .u8 0), .lit (.int .u8 0), .lit (.int .u8 0), .lit (.int .u8 0), .lit (.int .u8 0), .lit (.int .u8 0), .lit (.int .u8 0), .lit (.int .u8 0), .lit (.int .u8 0), .lit (.int .u8 0), .lit (.int .u8 0), .lit (.int .u8 0), .lit (.int .u8 0)]], .agg [.lit (.int .i64 0), .agg [.lit (.int .u8 0), .lit (.int .u8 0), .lit (.int .u8 0), .lit (.int .u8 0), .lit (.int .u8 0), .lit (.int .u8 0), .lit (.int .u8 0), .lit (.int .u8 0), .lit (.int .u8 0), .lit (.int .u8 0), .lit (.int .u8 0), .lit (.int .u8 0), .lit (.int .u8 0), .lit (.int .u8 0), .lit (.int .u8 0), .lit (.int .u8 0)]], .lit (.int .i64 0)], [], places) :=
  ⟨[], by kernel_rfl⟩
theorem lifted (os : Os) (started : os.Started) (H : Type) (enc : TypeId × Value → H) (F : Stop.Interp) :
    ReturnsInHanded {} Tryd.checked os 8 .any ((OpenSpec.ofChange Rows.addrAsksSpec).preRow enc Tryd.prog Tryd.f8 Rows.addrAsksRow.domain false Rows.addrAsksRow.laid) (((OpenSpec.ofChange Rows.addrAsksSpec).at F).post enc Tryd.prog Tryd.f8 false true false false) := by
  obtain ⟨places, hx⟩ := reads os enc
  refine returnsInHanded_of_row (C := Tryd.checked) (s := OpenSpec.ofChange Rows.addrAsksSpec) ownKn started (by kernel_rfl) Tryd.func8
    (witness_row_at (enc := enc) (C := Tryd.checked) false (laidWorld Tryd.prog os) #[.agg (csA 0 z16), .agg (csA 0 z16), .int .i64 0] rfl (by kernel_rfl) (by kernel_rfl) (by kernel_rfl)
      (OpenSpec.preRow_of_cond 8 hx (by kernel_rfl) (fun k hk => by cases hk) (by kernel_rfl) (laid_met os))) ?_
  intro W base args ds gs before hval hW _ hcond _ hL hS _
  exact contract H enc W base args ds gs before hval hW hL hS
theorem said : Rows.AddrAsksSaid :=
  OpenClaim.holds_of_cond 8 Tryd.f8 rfl rfl rfl rfl rfl rfl rfl ⟨rfl, rfl, rfl, rfl, rfl⟩ rfl rfl rfl rfl rfl (by kernel_rfl) Tryd.func8 (by kernel_rfl)
    (of_decide_eq_true (by kernel_rfl)) (by unfold Func.isWrapper; first | (rw [if_pos (by decide +kernel)]; kernel_rfl) | (rw [if_neg (by decide +kernel)]; exact ⟨rfl, rfl⟩))
    (fun os started H enc _ F => by rw [OpenClaim.pre_eq_preRow]; exact lifted os started H enc F)
theorem plain (f : FuncId) (fn : Func) (hf : Tryd.pinned.checked.prog.funcNamed "mosaic/mosaiclaw03.AddrAsks" = some f) (hfn : Tryd.pinned.checked.prog.funcs[f]? = some fn) :
    false = Tryd.pinned.checked.prog.looks [] ∧ ∀ (j : Nat) t, fn.params[j]? = some t → Tryd.pinned.checked.prog.wantsStandIn t = false := by
  obtain rfl : f = 8 := Option.some.inj ((show Tryd.prog.funcNamed "mosaic/mosaiclaw03.AddrAsks" = some 8 by kernel_rfl).symm.trans hf) |>.symm
  obtain rfl : fn = Tryd.f8 := (Option.some.inj (Tryd.func8.symm.trans hfn)).symm
  refine ⟨by kernel_rfl, fun j t ht => ?_⟩
  rw [Tryd.params8] at ht
  have hm := Array.mem_of_getElem? ht
  simp only [List.mem_toArray, List.mem_cons, List.not_mem_nil, or_false] at hm
  have h24 : Tryd.prog.wantsStandIn 24 = false := by kernel_rfl
  have h3 : Tryd.prog.wantsStandIn 3 = false := by kernel_rfl
  have h9 : Tryd.prog.wantsStandIn 9 = false := by kernel_rfl
  rcases hm with rfl | rfl | rfl
  all_goals first | exact h24 | exact h3 | exact h9
theorem card : Rows.AddrAsksCardSaid :=
  Claim7.holds_tied_plain_at .later [] _ _ _ _ said (fun _ h => by cases h) (by kernel_rfl) (fun _ h => by cases h) addrAsks_row_tie rfl ⟨rfl, rfl⟩ (by kernel_rfl) rfl plain (by kernel_rfl)
end addrAsks
theorem addrAsks_holds : Rows.AddrAsksCardSaid := addrAsks.card
#print axioms addrAsks_holds
end Go.Proofs.YtclfhajapohogaaDoor
