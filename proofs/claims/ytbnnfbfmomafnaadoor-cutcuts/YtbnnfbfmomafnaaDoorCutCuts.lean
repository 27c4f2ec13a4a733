/-
  CutCuts.
-/
import Derived.Test.YtbnnfbfmomafnaaDoorKit
import Derived.Test.YtbnnfbfmomafnaaDoorSm
import Derived.Test.YtbnnfbfmomafnaaDoorKept
import Derived.Test.YtbnnfbfmomafnaaDoorAlv
namespace Go.Proofs.YtbnnfbfmomafnaaDoor
open Go.ChangeShapes Go.WideShapes Go.ChangeAt Go.RowKit Go.Deep Num S6
set_option linter.unusedVariables false
set_option maxHeartbeats 40000000
set_option maxRecDepth 100000

theorem xs_len {p : Pk} {m id : Int} {xs : List X} (h : xs.map X.p = (cutP p m id).1) (hd : p.d.length ≤ 140737488351232) : xs.length ≤ 500000000000 := by
  have e := congrArg List.length h
  rw [List.length_map] at e
  rw [e]
  unfold cutP
  split
  · rename_i hu
    rw [Bool.and_eq_true] at hu
    have hun := (uncut_iff p).1 hu.1
    have hall := hun.all.1
    split
    · simp
    · split
      · simp
      · have hk : ∀ (k : Nat) (f : Pk) (n : Nat), (pcsP p m (latP p id) k f n).length ≤ k := by
          intro k
          induction k with
          | zero => intro f n; simp [pcsP]
          | succ k ih =>
            intro f n
            rw [pcsP]
            split
            · rw [List.length_cons]; have := ih (latP p id) (n + shareP (p.d.length - n) (roomP f m) p.v); omega
            · simp
        have := hk p.d.length (fstP p id) 0
        show (cutL p m id).length ≤ _
        unfold cutL
        omega
  · simp
namespace cutCuts
theorem walk (p : Pk) (ov dv : Value) (m id : Int) (w : World) (hg : Glob w) (hp : Pkt w p ov dv) (hol : p.o.length ≤ 140737488351232) (hdl : p.d.length ≤ 140737488351232) (hwn : (Lit.int .i64 m).wf = true) (h0 : 0 ≤ id) (h1 : id ≤ 4294967295) :
    Calls Tryd.prog 7 #[.agg (csP p ov dv), .int .i64 m, .int .u32 id] w fun E w' => E = .returned (.bool true) ∧ Below w.heap.size w w' := by
  have HAD := Lib.hid hp.wf.ad
  have HW := Lib.hid hp.wf
  have HP := Lib.hid hp; have HG := Lib.hid hg
  have HOL := Lib.hid hol
  have HDL := Lib.hid hdl
  have hm64 : -9223372036854775808 ≤ m ∧ m ≤ 9223372036854775807 := by
    have h5 : IntKind.i64.min ≤ m ∧ m ≤ IntKind.i64.max := by simpa [Lit.wf] using hwn
    exact h5
  have HM64 := Lib.hid hm64
  have KA := Lib.hid (fun w hg => alive_c w hg)
  have KR : Hid (∀ w', Away [] w w' → Calls Tryd.prog 26 #[.agg (csP p ov dv), .int .i64 m, .int .u32 id] w' fun E w'' => CutOut w' p m id E w'') := fun w' h => rcut_c p ov dv m id w' (hp.on h) h0 h1 hm64
  have KL : Hid (∀ w', Away [] w w' → Calls Tryd.prog 25 #[.agg (csP p ov dv)] w' fun E w'' => ∃ ou du, E = .returned (.agg (csP p ou du)) ∧ U5.Lent w'.heap.size w'' ou p.o [165, 166] ∧ U5.Lent w'.heap.size w'' du p.d [167, 168] ∧ Away [] w' w'') := fun w' h => U5.lent_c p ov dv w' (hp.on h) (by omega) (by omega)
  have HOV := Lib.hid hp.o.one
  have HDV := Lib.hid hp.d.one
  clear hp hg hol hdl hwn hm64
  go_enter Tryd.func7, Tryd.ntmps7
  go_wp2_with (refine wpList_box28 rfl _ rfl p _ _ rfl ?_; refine Hid.out ?_)
  refine Lib.hid ?_
  intro g3 w1 hg3 hb3 haw
  have HA := Lib.hid haw
  have HB3 := Lib.hid hb3
  clear hb3 haw hg3
  go_wp2_with (go_at_call 9; refine (KA.out _ (HG.out.on HA.out)).mono ?_; refine Hid.out ?_)
  refine Lib.hid ?_
  rintro E w2 ⟨rfl, haw⟩
  replace HA := Lib.hid (HA.out.trans haw)
  replace HB3 := Lib.hid (HB3.out.on haw)
  clear haw KA
  go_wp2_with (first
    | (refine wpList_load28 rfl _ rfl g3 rfl p _ _ (by exact HB3.out) HAD.out ?_)
    | (go_at_call 25; refine (KL.out _ HA.out).mono ?_; refine Hid.out ?_))
  refine Lib.hid ?_
  rintro E w3 ⟨ou, du, rfl, hl1, hl2, haw⟩
  have HL1 := Lib.hid hl1
  have HL2 := Lib.hid hl2
  have HBB : Hid (g3 < w2.heap.size) := HB3.out.lt
  replace HA := Lib.hid (HA.out.trans haw)
  replace HB3 := Lib.hid (HB3.out.on haw)
  have H1O := Lib.hid hl1.one
  have H2O := Lib.hid hl2.one
  clear hl1 hl2 haw KL
  go_wp2_with (refine wpList_new28 rfl rfl rfl _ _ rfl p _ _ (fun _ => rfl) (fun _ => rfl) HAD.out H1O.out H2O.out ?_; refine Hid.out ?_)
  refine Lib.hid ?_
  intro g7 w4 hg7 hb7 haw
  have HB7 := Lib.hid hb7
  replace HA := Lib.hid (HA.out.trans haw)
  replace HB3 := Lib.hid (HB3.out.on haw)
  replace HL1 := Lib.hid (HL1.out.away haw (by simp))
  replace HL2 := Lib.hid (HL2.out.away haw (by simp))
  have HPL : Hid (Pkt w4 p ou du) := ⟨HW.out, by
      obtain ⟨_, _, _, _, _, h⟩ := HL1.out.parts HW.out.o (U5.bytes2 (by omega) (by omega)) (by simp; have := HOL.out; omega); exact h, by
      obtain ⟨_, _, _, _, _, h⟩ := HL2.out.parts HW.out.d (U5.bytes2 (by omega) (by omega)) (by simp; have := HDL.out; omega); exact h⟩
  have KC := Lib.hid (cut_c p ou du m id w4 HPL.out (HG.out.on HA.out) h0 h1)
  clear hb7 haw hg7
  go_wp2_with (first
    | (refine wpList_load28 rfl _ rfl g7 rfl p _ _ (by exact HB7.out) HAD.out ?_)
    | (go_at_call 13; refine KC.out.mono ?_; refine Hid.out ?_))
  refine Lib.hid ?_
  rintro E w5 ⟨v5, xs, rfl, hcu, hxm, haw⟩
  have HC := Lib.hid hcu
  have HXM := Lib.hid hxm
  replace HA := Lib.hid (HA.out.trans haw)
  replace HB3 := Lib.hid (HB3.out.on haw)
  replace HB7 := Lib.hid (HB7.out.on haw)
  replace HL1 := Lib.hid (HL1.out.away haw (by simp))
  replace HL2 := Lib.hid (HL2.out.away haw (by simp))
  clear hcu hxm haw KC HPL
  go_wp2_with (first
    | (refine wpList_load28 rfl _ rfl g3 rfl p _ _ (by exact HB3.out) HAD.out ?_)
    | (go_at_call 26; refine (KR.out _ HA.out).mono ?_; refine Hid.out ?_))
  refine Lib.hid ?_
  rintro E w6 ⟨v6, ys, rfl, hcu, hym, haw⟩
  replace HC := Lib.hid (HC.out.on haw)
  have HD := Lib.hid hcu
  have HYM := Lib.hid hym
  replace HA := Lib.hid (HA.out.trans haw)
  replace HB3 := Lib.hid (HB3.out.on haw)
  replace HB7 := Lib.hid (HB7.out.on haw)
  replace HL1 := Lib.hid (HL1.out.away haw (by simp))
  replace HL2 := Lib.hid (HL2.out.away haw (by simp))
  clear hcu hym haw KR
  have hxl := xs_len HXM.out HDL.out
  have hyl := xs_len HYM.out HDL.out
  obtain ⟨a5, c5, hv5, -, -, hpx, -⟩ := HC.out.pks hxl
  obtain ⟨a6, c6, hv6, -, -, hpy, -⟩ := HD.out.pks hyl
  have hle : ys.length = xs.length := by
    have e1 := congrArg List.length HXM.out
    have e2 := congrArg List.length HYM.out
    rw [List.length_map] at e1 e2
    omega
  rw [hle] at hv6
  have KS := Lib.hid (sameL_yes a5 a6 xs ys xs.length c5 c6 w6 rfl hpx hpy (by rw [HXM.out, HYM.out]))
  obtain ⟨n, hn⟩ : ∃ n, n = xs.length := ⟨_, rfl⟩
  rw [← hn] at KS hv5 hv6
  obtain ⟨er, her⟩ : ∃ e, e = (cutP p m id).2 := ⟨_, rfl⟩
  rw [← her]
  have HER : Hid (er = 0 ∨ er = 1 ∨ er = 100) := by
    show _ ∨ _ ∨ _
    rw [her]
    unfold cutP
    split
    · split
      · exact .inl rfl
      · split
        · exact .inr (.inr rfl)
        · exact .inl rfl
    · exact .inr (.inl rfl)
  subst hv5
  subst hv6
  clear hn her hle hxl hyl hpx hpy HC HD HXM HYM
  go_wp2_with (go_at_call 20; refine KS.out.mono ?_; refine Hid.out ?_)
  refine Lib.hid ?_
  first
    | rintro E w7 rfl haw
    | rintro E w7 ⟨rfl, haw⟩
  replace HA := Lib.hid (HA.out.trans haw)
  replace HB3 := Lib.hid (HB3.out.on haw)
  replace HB7 := Lib.hid (HB7.out.on haw)
  replace HL1 := Lib.hid (HL1.out.away haw (by simp))
  replace HL2 := Lib.hid (HL2.out.away haw (by simp))
  have KK := Lib.hid (U5.kept_c p w2.heap.size ov dv ou du w7 (HP.out.on HA.out) (by have := HOL.out; omega) (by have := HDL.out; omega) HL1.out HL2.out)
  have hee : (er == er) = true := by simp
  clear haw KS
  go_wp2_with (first
    | (refine wpList_load28 rfl _ rfl g7 rfl p _ _ (by exact HB7.out) HAD.out ?_)
    | (refine wpList_load28 rfl _ rfl g3 rfl p _ _ (by exact HB3.out) HAD.out ?_)
    | (go_at_call 27; refine KK.out.mono ?_; refine Hid.out ?_))
  refine Lib.hid ?_
  first
    | rintro E w8 rfl haw
    | rintro E w8 ⟨rfl, haw⟩
  replace HA := Lib.hid (HA.out.trans haw)
  clear haw KK
  go_wp2_with fail
  go_ret
  exact ⟨rfl, HA.out.to_below⟩
end cutCuts
namespace cutCuts
theorem contract (H : Type) (enc : TypeId × Value → H) (W : World) (base : Nat) (args : Array Value) (ds gs : List (DataW H)) (before : List MemPlace)
    (hval0 : ∀ (j : Nat) t v, Tryd.f7.params[j]? = some t → args[j]? = some v → Value.okWide Tryd.prog W .any base t v)
    (hW : DataW.Whole enc Tryd.prog Tryd.f7.params.toList Rows.cutCutsSpec.vars false W args.toList ds gs before)
    (hsz0 : (DataW.weightsEach Tryd.prog (Tryd.f7.params.toList ++ Rows.cutCutsSpec.plain.varTypes Tryd.prog) (ds ++ gs)).all (· ≤ reachBytes) = true)
    (hL : laidMetH Tryd.prog Rows.cutCutsRow.laid W) :
    Calls Tryd.prog 7 args W fun e W' => ∃ v, e = .returned v ∧ Rows.cutCutsSpec.post enc Tryd.prog Tryd.f7 false true false false W args v W' := by
  have hval := hval0
  have hsz := hsz0
  have hW' := hW
  obtain ⟨p, q, hA0, hV, rfl, hfz, hnd⟩ := hW
  have hA : DataW.TrodAll enc Tryd.prog W 0 (fun _ => true) true Tryd.f7.params.toList args.toList ds p := hA0
  rw [Tryd.params7] at hA hval hsz
  obtain ⟨v0, vs0, d0, ds0, p0, q0, hargs, rfl, rfl, h0, r0⟩ := trodAll_cons hA
  obtain ⟨v1, vs1, d1, ds1, p1, q1, rfl, rfl, rfl, h1, r1⟩ := trodAll_cons r0
  obtain ⟨v2, vs2, d2, ds2, p2, q2, rfl, rfl, rfl, h2, r2⟩ := trodAll_cons r1
  obtain ⟨rfl, rfl, rfl⟩ := trodAll_nil r2
  obtain rfl : args = #[v0, v1, v2] := by cases args; simp_all
  obtain ⟨rfl, rfl⟩ := trodVars_none hV
  have k0 := h0
  have lt0 : ∀ x ∈ p0, x.block < W.heap.size := by obtain ⟨m, hm⟩ := k0; exact DataW.trod_lt m _ _ _ hm
  have z0 : ∀ m ∈ d0.weights Tryd.prog 28, m ≤ reachBytes := fun m hm => by
    have := List.all_eq_true.1 hsz m (DataW.weights_mem_each (j := 0) (t := 28) rfl rfl m hm)
    simpa using this
  obtain ⟨x0, ov0, dv0, rfl, w0, ol0, dl0⟩ := open_pkt (hval 0 28 v0 rfl rfl) h0 z0
  obtain ⟨a1, rfl, rfl, rfl, w1⟩ := open_int Tryd.underlying3 (hval 1 3 v1 rfl rfl) h1
  obtain ⟨a2, rfl, rfl, rfl, w2⟩ := open_int Tryd.underlying25 (hval 2 25 v2 rfl rfl) h2
  clear hA0 hval0
  refine (walk x0 ov0 dv0 a1 a2 W (glob_of hL) w0 ol0 dl0 w1 (wf32 w2).1 (wf32 w2).2).mono fun e W' ⟨he, bel⟩ => ?_
  subst he
  exact ⟨_, rfl, _, _, _, [], _, [], hW', trodAll_mk1 (shut_bool Tryd.underlying4 _), (trodAll_cons_mk (Below.trod laidOut (by kernel_rfl) (of_decide_eq_true (by kernel_rfl)) k0 bel lt0) (trodAll_cons_mk (shut_int Tryd.underlying3 w1) (trodAll_cons_mk (shut_int Tryd.underlying25 w2) trodAll_mk0))), rfl, bel.frame _, fun h => by cases h⟩
theorem laid_met (os : Os) : laidMet Tryd.prog Rows.cutCutsRow.laid ((laidWorld Tryd.prog os).forCall (fun _ _ => 0) ⟨#[], #[.agg (csP zeroPk (.slice none 0 0) (.slice none 0 0)), .int .i64 0, .int .u32 0], []⟩).memory :=
  laidMet_of_run' 8 (by kernel_rfl) (by kernel_rfl)
theorem reads (os : Os) {H : Type} (enc : TypeId × Value → H) : ∃ places, DataW.whole enc Tryd.prog ((laidWorld Tryd.prog os).forCall (fun _ _ => 0) ⟨#[], #[.agg (csP zeroPk (.slice none 0 0) (.slice none 0 0)), .int .i64 0, .int .u32 0], []⟩).memory Tryd.f7.params.toList Rows.cutCutsSpec.vars false #[.agg (csP zeroPk (.slice none 0 0) (.slice none 0 0)), .int .i64 0, .int .u32 0].toList 8 = some ([.agg [.lit (.int .i64 0), .lit (.int .i64 0), .lit (.int .i64 0), .agg [.lit (.int .i64 0), .agg [.lit (.int .u8 0), .lit (.int .u8 0), .lit (.int .u8 0), .lit (.int .u8 0), .lit (.int .u8 0), .lit (.int .u8 0), .lit (.int .u8 0), .lit (.int .u8 0), .lit (.int .u8 0), .lit (.int .u8 0), .lit (.int .u8 0), .lit (.int .u8 0), .lit (.int .u8 0), .lit (.int .u8 0), .lit (.int .u8 0), .lit (.int .u8 0)]], .agg [.lit (.int .i64 0), .agg [.lit (.int .u8 0), .lit (.int .u8 0), .lit (.int .u8 0), .lit (.int .u8 0), .lit (.int .u8 0), .lit (.int .u8 0), .lit (.int .u8 0), .lit (.int .u8 0), .lit (.int .u8 0), .lit (.int .u8 0), .lit (.int .u8 0), .lit (.int .u8 0), .lit (.int .u8 0), .lit (.int .u8 0), .lit (.int .u8 0), .lit (.int .u8 0)]], .lit (.int .i64 0), .lit (.int .i64 0), .lit (.int .u32 0), .lit (.bool false), .lit (.bool false), .lit (.bool false), .lit (.int .i64 0), .nil, .nil], .lit (.int .i64 0), .lit (.int .u32 0)], [], places) :=
  ⟨[], by kernel_rfl⟩
theorem lifted (os : Os) (started : os.Started) (H : Type) (enc : TypeId × Value → H) (F : Stop.Interp) :
    ReturnsInHanded {} Tryd.checked os 7 .any ((OpenSpec.ofChange Rows.cutCutsSpec).preRow enc Tryd.prog Tryd.f7 Rows.cutCutsRow.domain false Rows.cutCutsRow.laid) (((OpenSpec.ofChange Rows.cutCutsSpec).at F).post enc Tryd.prog Tryd.f7 false true false false) := by
  obtain ⟨places, hx⟩ := reads os enc
  refine returnsInHanded_of_row (C := Tryd.checked) (s := OpenSpec.ofChange Rows.cutCutsSpec) ownKn started (by kernel_rfl) Tryd.func7
    (witness_row_at (enc := enc) (C := Tryd.checked) false (laidWorld Tryd.prog os) #[.agg (csP zeroPk (.slice none 0 0) (.slice none 0 0)), .int .i64 0, .int .u32 0] rfl (by kernel_rfl) (by kernel_rfl) (by kernel_rfl)
      (OpenSpec.preRow_of_cond 8 hx (by kernel_rfl) (fun k hk => by cases hk) (by kernel_rfl) (laid_met os))) ?_
  intro W base args ds gs before hval hW _ hcond hsz hL hS _
  exact contract H enc W base args ds gs before hval hW hsz hL
theorem said : Rows.CutCutsSaid :=
  OpenClaim.holds_of_cond 7 Tryd.f7 rfl rfl rfl rfl rfl rfl rfl ⟨rfl, rfl, rfl, rfl, rfl⟩ rfl rfl rfl rfl rfl (by kernel_rfl) Tryd.func7 (by kernel_rfl)
    (of_decide_eq_true (by kernel_rfl)) (by unfold Func.isWrapper; first | (rw [if_pos (by decide +kernel)]; kernel_rfl) | (rw [if_neg (by decide +kernel)]; exact ⟨rfl, rfl⟩))
    (fun os started H enc _ F => by rw [OpenClaim.pre_eq_preRow]; exact lifted os started H enc F)
theorem plain (f : FuncId) (fn : Func) (hf : Tryd.pinned.checked.prog.funcNamed "mosaic/mosaiclaw10.CutCuts" = some f) (hfn : Tryd.pinned.checked.prog.funcs[f]? = some fn) :
    false = Tryd.pinned.checked.prog.looks [] ∧ ∀ (j : Nat) t, fn.params[j]? = some t → Tryd.pinned.checked.prog.wantsStandIn t = false := by
  obtain rfl : f = 7 := Option.some.inj ((show Tryd.prog.funcNamed "mosaic/mosaiclaw10.CutCuts" = some 7 by kernel_rfl).symm.trans hf) |>.symm
  obtain rfl : fn = Tryd.f7 := (Option.some.inj (Tryd.func7.symm.trans hfn)).symm
  refine ⟨by kernel_rfl, fun j t ht => ?_⟩
  rw [Tryd.params7] at ht
  have hm := Array.mem_of_getElem? ht
  simp only [List.mem_toArray, List.mem_cons, List.not_mem_nil, or_false] at hm
  have h28 : Tryd.prog.wantsStandIn 28 = false := by kernel_rfl
  have h26 : Tryd.prog.wantsStandIn 26 = false := by kernel_rfl
  have h3 : Tryd.prog.wantsStandIn 3 = false := by kernel_rfl
  have h25 : Tryd.prog.wantsStandIn 25 = false := by kernel_rfl
  rcases hm with rfl | rfl | rfl
  all_goals first | exact h28 | exact h26 | exact h3 | exact h25
theorem card : Rows.CutCutsCardSaid :=
  Claim7.holds_tied_plain_at .later [] _ _ _ _ said (fun _ h => by cases h) (by kernel_rfl) (fun _ h => by cases h) cutCuts_row_tie rfl ⟨rfl, rfl⟩ (by kernel_rfl) rfl plain (by kernel_rfl)
end cutCuts
theorem cutCuts_holds : Rows.CutCutsCardSaid := cutCuts.card
#print axioms cutCuts_holds
end Go.Proofs.YtbnnfbfmomafnaaDoor
