/-
  RecutCuts.
-/
import Derived.Test.YtaicckenpplceabGreatDoorKit
import Derived.Test.YtaicckenpplceabGreatDoorDq11
import Derived.Test.YtaicckenpplceabGreatDoorSm2
import Derived.Test.YtaicckenpplceabGreatDoorPlZ
namespace Go.Proofs.YtaicckenpplceabGreatDoor
open Go.ChangeShapes Go.WideShapes Go.ChangeAt Go.RowKit Go.Deep Num
open S6 (ld26 load28_run load24m_run)
set_option linter.unusedVariables false
set_option linter.unusedSimpArgs false
set_option maxHeartbeats 8000000
set_option maxRecDepth 100000

namespace recutCuts
theorem walk (p : Pk) (ov dv : Value) (m : Int) (w : World) (hg : Glob w) (hp : Pkt w p ov dv) (hol : p.o.length ≤ 140737488351232) (hdl : p.d.length ≤ 140737488351232) (hm : (Lit.int .i64 m).wf = true) :
    Calls Tryz.prog 3 #[.agg (csP p ov dv), .int .i64 m] w fun E w' => E = .returned (.bool true) ∧ Below w.heap.size w w' := by
  have HAD := Lib.hid hp.wf.ad
  have HW := Lib.hid hp.wf
  have HP := Lib.hid hp; have HG := Lib.hid hg
  have HM := Lib.hid (wf64 hm)
  clear hp hg hol hdl hm
  go_enter Tryz.func3, Tryz.ntmps3
  go_wp2_with (refine wpList_box28 rfl _ rfl p _ _ rfl ?_; refine Hid.out ?_)
  refine Lib.hid ?_
  intro g w1 hg1 hb haw
  have HA := Lib.hid haw
  have HB := Lib.hid hb
  clear hb haw hg1
  have K1 := Lib.hid (R.lown_c p ov dv w1 (HP.out.on HA.out))
  go_wp2_with (first
    | (refine wpList_load28 rfl _ rfl g rfl p _ _ (by exact HB.out) HAD.out ?_)
    | (go_at_call 6; refine K1.out.mono ?_; refine Hid.out ?_))
  refine Lib.hid ?_
  first
    | rintro E w2 oq dq rfl hmi haw
    | rintro E w2 ⟨oq, dq, rfl, hmi, haw⟩
  have HPQ := Lib.hid (hmi.pkt HW.out)
  replace HA := Lib.hid (HA.out.trans haw)
  replace HB := Lib.hid (HB.out.on haw)
  clear hmi haw K1
  have K2 := Lib.hid (R.recut_c p oq dq m w2 HPQ.out (HG.out.on HA.out))
  go_wp2_with (go_at_call 5; refine K2.out.mono ?_; refine Hid.out ?_)
  refine Lib.hid ?_
  first
    | rintro E w3 v xs rfl hcu hxs haw
    | rintro E w3 ⟨v, xs, rfl, hcu, hxs, haw⟩
  have HCU := Lib.hid hcu
  have HXS := Lib.hid hxs
  replace HA := Lib.hid (HA.out.trans haw)
  replace HB := Lib.hid (HB.out.on haw)
  clear hcu hxs haw K2 HPQ
  have K3 := Lib.hid (R.drecut_c p ov dv m w3 (HP.out.on HA.out) HM.out)
  go_wp2_with (first
    | (refine wpList_load28 rfl _ rfl g rfl p _ _ (by exact HB.out) HAD.out ?_)
    | (go_at_call 7; refine K3.out.mono ?_; refine Hid.out ?_))
  refine Lib.hid ?_
  first
    | rintro E w4 v2 ys rfl hcu hys haw
    | rintro E w4 ⟨v2, ys, rfl, hcu, hys, haw⟩
  have HCV := Lib.hid hcu
  have HYS := Lib.hid hys
  replace HA := Lib.hid (HA.out.trans haw)
  replace HCU := Lib.hid (HCU.out.on haw)
  clear hcu hys haw K3 HB
  generalize (R.recutP p m).2 = e
  have K4 := Lib.hid (R.known_c w4 (HG.out.on HA.out))
  go_wp2_with (go_at_call 8; refine K4.out.mono ?_; refine Hid.out ?_)
  refine Lib.hid ?_
  first
    | rintro E w5 rfl haw
    | rintro E w5 ⟨rfl, haw⟩
  replace HA := Lib.hid (HA.out.trans haw)
  replace HCU := Lib.hid (HCU.out.on haw)
  replace HCV := Lib.hid (HCV.out.on haw)
  clear haw K4
  have hlx : xs.length ≤ 70000 := by
    have h := congrArg List.length HXS.out
    rw [List.length_map] at h; rw [h]; exact R.recut_len p m
  have hly : ys.length = xs.length := by
    have h := congrArg List.length (HXS.out.trans HYS.out.symm)
    rw [List.length_map, List.length_map] at h; exact h.symm
  obtain ⟨a1, c1, hv1, -, -, hp1, -⟩ := HCU.out.pks (by omega)
  obtain ⟨a2, c2, hv2, -, -, hp2, -⟩ := HCV.out.pks (by omega)
  rw [hly] at hv2
  subst hv1; subst hv2
  have K5 := Lib.hid (R.sameL_yes a1 a2 xs ys xs.length c1 c2 w5 rfl hp1 hp2 (HXS.out.trans HYS.out.symm))
  have hee : (e == e) = true := by simp
  generalize xs.length = nx at *
  clear hp1 hp2 hly HCU HCV
  go_wp2_with (go_at_call 9; refine K5.out.mono ?_; refine Hid.out ?_)
  refine Lib.hid ?_
  first
    | rintro E w6 rfl haw
    | rintro E w6 ⟨rfl, haw⟩
  replace HA := Lib.hid (HA.out.trans haw)
  clear haw K5
  go_wp2_with fail
  go_ret
  exact ⟨rfl, HA.out.to_below⟩
end recutCuts
namespace recutCuts
theorem contract (H : Type) (enc : TypeId × Value → H) (W : World) (base : Nat) (args : Array Value) (ds gs : List (DataW H)) (before : List MemPlace)
    (hval0 : ∀ (j : Nat) t v, Tryz.f3.params[j]? = some t → args[j]? = some v → Value.okWide Tryz.prog W .any base t v)
    (hW : DataW.Whole enc Tryz.prog Tryz.f3.params.toList Rows.recutCutsSpec.vars false W args.toList ds gs before)
    (hsz0 : (DataW.weightsEach Tryz.prog (Tryz.f3.params.toList ++ Rows.recutCutsSpec.plain.varTypes Tryz.prog) (ds ++ gs)).all (· ≤ reachBytes) = true)
    (hL : laidMetH Tryz.prog Rows.recutCutsRow.laid W) :
    Calls Tryz.prog 3 args W fun e W' => ∃ v, e = .returned v ∧ Rows.recutCutsSpec.post enc Tryz.prog Tryz.f3 false true false false W args v W' := by
  have hval := hval0
  have hsz := hsz0
  have hW' := hW
  obtain ⟨p, q, hA0, hV, rfl, hfz, hnd⟩ := hW
  have hA : DataW.TrodAll enc Tryz.prog W 0 (fun _ => true) true Tryz.f3.params.toList args.toList ds p := hA0
  rw [Tryz.params3] at hA hval hsz
  obtain ⟨v0, vs0, d0, ds0, p0, q0, hargs, rfl, rfl, h0, r0⟩ := trodAll_cons hA
  obtain ⟨v1, vs1, d1, ds1, p1, q1, rfl, rfl, rfl, h1, r1⟩ := trodAll_cons r0
  obtain ⟨rfl, rfl, rfl⟩ := trodAll_nil r1
  obtain rfl : args = #[v0, v1] := by cases args; simp_all
  obtain ⟨rfl, rfl⟩ := trodVars_none hV
  have k0 := h0
  have lt0 : ∀ x ∈ p0, x.block < W.heap.size := by obtain ⟨m, hm⟩ := k0; exact DataW.trod_lt m _ _ _ hm
  have z0 : ∀ m ∈ d0.weights Tryz.prog 28, m ≤ reachBytes := fun m hm => by
    have := List.all_eq_true.1 hsz m (DataW.weights_mem_each (j := 0) (t := 28) rfl rfl m hm)
    simpa using this
  obtain ⟨x0, ov0, dv0, rfl, w0, ol0, dl0⟩ := open_pkt (hval 0 28 v0 rfl rfl) h0 z0
  obtain ⟨a1, rfl, rfl, rfl, w1⟩ := open_int Tryz.underlying3 (hval 1 3 v1 rfl rfl) h1
  clear hA0 hval0
  refine (walk x0 ov0 dv0 a1 W (glob_of hL) w0 ol0 dl0 w1).mono fun e W' ⟨he, bel⟩ => ?_
  subst he
  exact ⟨_, rfl, _, _, _, [], _, [], hW', trodAll_mk1 (shut_bool Tryz.underlying4 _), (trodAll_cons_mk (Below.trod laidOut (by kernel_rfl) (of_decide_eq_true (by kernel_rfl)) k0 bel lt0) (trodAll_cons_mk (shut_int Tryz.underlying3 w1) trodAll_mk0)), rfl, bel.frame _, fun h => by cases h⟩
theorem laid_met (os : Os) : laidMet Tryz.prog Rows.recutCutsRow.laid ((laidWorld Tryz.prog os).forCall (fun _ _ => 0) ⟨#[], #[.agg (csP zeroPk (.slice none 0 0) (.slice none 0 0)), .int .i64 0], []⟩).memory :=
  laidMet_of_run' 8 (by kernel_rfl) (by kernel_rfl)
theorem reads (os : Os) {H : Type} (enc : TypeId × Value → H) : ∃ places, DataW.whole enc Tryz.prog ((laidWorld Tryz.prog os).forCall (fun _ _ => 0) ⟨#[], #[.agg (csP zeroPk (.slice none 0 0) (.slice none 0 0)), .int .i64 0], []⟩).memory Tryz.f3.params.toList Rows.recutCutsSpec.vars false #[.agg (csP zeroPk (.slice none 0 0) (.slice none 0 0)), .int .i64 0].toList 8 = some ([.agg [.lit (.int .i64 0), .lit (.int .i64 0), .lit (.int .i64 0), .agg [.lit (.int .i64 0), .agg [.lit (.int .u8 0), .lit (.int .u8 0), .lit (.int .u8 0), .lit (.int .u8 0), .lit (.int .u8 0), .lit (.int .u8 0), .lit (.int .u8 0), .lit (.int .u8 0), .lit (.int .u8 0), .lit (.int .u8 0), .lit (.int .u8 0), .lit (.int .u8 0), .lit (.int .u8 0), .lit (.int .u8 0), .lit (.int .u8 0), .lit (.int .u8 0)]], .agg [.lit (.int .i64 0), .agg [.lit (.int .u8 0), .lit (.int .u8 0), .lit (.int .u8 0), .lit (.int .u8 0), .lit (.int .u8 0), .lit (.int .u8 0), .lit (.int .u8 0), .lit (.int .u8 0), .lit (.int .u8 0), .lit (.int .u8 0), .lit (.int .u8 0), .lit (.int .u8 0), .lit (.int .u8 0), .lit (.int .u8 0), .lit (.int .u8 0), .lit (.int .u8 0)]], .lit (.int .i64 0), .lit (.int .i64 0), .lit (.int .u32 0), .lit (.bool false), .lit (.bool false), .lit (.bool false), .lit (.int .i64 0), .nil, .nil], .lit (.int .i64 0)], [], places) :=
  ⟨[], by kernel_rfl⟩
theorem lifted (os : Os) (started : os.Started) (H : Type) (enc : TypeId × Value → H) (F : Stop.Interp) :
    ReturnsInHanded {} Tryz.checked os 3 .any ((OpenSpec.ofChange Rows.recutCutsSpec).preRow enc Tryz.prog Tryz.f3 Rows.recutCutsRow.domain false Rows.recutCutsRow.laid) (((OpenSpec.ofChange Rows.recutCutsSpec).at F).post enc Tryz.prog Tryz.f3 false true false false) := by
  obtain ⟨places, hx⟩ := reads os enc
  refine returnsInHanded_of_row (C := Tryz.checked) (s := OpenSpec.ofChange Rows.recutCutsSpec) ownKn started (by kernel_rfl) Tryz.func3
    (witness_row_at (enc := enc) (C := Tryz.checked) false (laidWorld Tryz.prog os) #[.agg (csP zeroPk (.slice none 0 0) (.slice none 0 0)), .int .i64 0] rfl (by kernel_rfl) (by kernel_rfl) (by kernel_rfl)
      (OpenSpec.preRow_of_cond 8 hx (by kernel_rfl) (fun k hk => by cases hk) (by kernel_rfl) (laid_met os))) ?_
  intro W base args ds gs before hval hW _ hcond hsz hL hS _
  exact contract H enc W base args ds gs before hval hW hsz hL
theorem said : Rows.RecutCutsSaid :=
  OpenClaim.holds_of_cond 3 Tryz.f3 rfl rfl rfl rfl rfl rfl rfl ⟨rfl, rfl, rfl, rfl, rfl⟩ rfl rfl rfl rfl rfl (by kernel_rfl) Tryz.func3 (by kernel_rfl)
    (of_decide_eq_true (by kernel_rfl)) (by unfold Func.isWrapper; first | (rw [if_pos (by decide +kernel)]; kernel_rfl) | (rw [if_neg (by decide +kernel)]; exact ⟨rfl, rfl⟩))
    (fun os started H enc _ F => by rw [OpenClaim.pre_eq_preRow]; exact lifted os started H enc F)
theorem plain (f : FuncId) (fn : Func) (hf : Tryz.pinned.checked.prog.funcNamed "mosaic/mosaiclaw11.RecutCuts" = some f) (hfn : Tryz.pinned.checked.prog.funcs[f]? = some fn) :
    false = Tryz.pinned.checked.prog.looks [] ∧ ∀ (j : Nat) t, fn.params[j]? = some t → Tryz.pinned.checked.prog.wantsStandIn t = false := by
  obtain rfl : f = 3 := Option.some.inj ((show Tryz.prog.funcNamed "mosaic/mosaiclaw11.RecutCuts" = some 3 by kernel_rfl).symm.trans hf) |>.symm
  obtain rfl : fn = Tryz.f3 := (Option.some.inj (Tryz.func3.symm.trans hfn)).symm
  refine ⟨by kernel_rfl, fun j t ht => ?_⟩
  rw [Tryz.params3] at ht
  have hm := Array.mem_of_getElem? ht
  simp only [List.mem_toArray, List.mem_cons, List.not_mem_nil, or_false] at hm
  have hw0 : Tryz.prog.wantsStandIn 28 = false := by kernel_rfl
  have hw1 : Tryz.prog.wantsStandIn 3 = false := by kernel_rfl
  rcases hm with rfl | rfl
  all_goals first | exact hw0 | exact hw1
theorem card : Rows.RecutCutsCardSaid :=
  Claim7.holds_tied_plain_at .later [] _ _ _ _ said (fun _ h => by cases h) (by kernel_rfl) (fun _ h => by cases h) recutCuts_row_tie rfl ⟨rfl, rfl⟩ (by kernel_rfl) rfl plain (by kernel_rfl)
end recutCuts
theorem recutCuts_holds : Rows.RecutCutsCardSaid := recutCuts.card
#print axioms recutCuts_holds
end Go.Proofs.YtaicckenpplceabGreatDoor
