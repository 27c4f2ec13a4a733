/-
  OptsBuilds (P4.3): every Build is the document's.
-/
import Derived.Test.YtokhmlpajfhbpaaDoorRBuild
namespace Go.Proofs.YtokhmlpajfhbpaaDoor
open Go.ChangeShapes Go.WideShapes Go.ChangeAt Go.RowKit Go.Deep
set_option linter.unusedVariables false
set_option maxRecDepth 100000
theorem build_len (os : List O) : (buildP os).1.length ≤ 40 := by
  unfold buildP
  split
  · split
    · simp
    · simp only [laidP_len]; exact fill40 (by omega)
  · simp
theorem build_bytes {os : List O} (h : ∀ o ∈ os, Bytes o.2) : Bytes (buildP os).1 := by
  unfold buildP
  split
  · rename_i hr
    split
    · exact Bytes.nil
    · exact laid_bytes (List.all_eq_true.1 hr) h
  · exact Bytes.nil
namespace optsBuilds
set_option maxHeartbeats 4000000 in
theorem walk (a : Option Addr) (ls : List V) (c : Nat) (w : World) (hg : Glob w) (hc : ls.length ≤ c) (ho : Opts w a ls) :
    Calls Tryd.prog 4 #[.slice a ls.length c] w fun e w' => e = .returned (.bool true) ∧ Below w.heap.size w w' := by
  have HG : Hid (Glob w) := hg
  have HO : Hid (Opts w a ls) := ho
  have hbs : ∀ o ∈ ls.map V.o, Bytes o.2 := fun o h => by
    obtain ⟨x, hx, rfl⟩ := List.mem_map.1 h
    exact (ho.2.1 x hx).2.1.2.1
  have hbl := build_len (ls.map V.o)
  have hbb := build_bytes hbs
  clear hg ho hbs
  go_enter Tryd.func4, Tryd.ntmps4
  go_wp2_with fail
  refine (build_c a ls _ _ _ rfl (by exact HO.out) (by exact HG.out)).mono ?_
  rintro E w1 ⟨haw1, v1, rfl, hown1, hnew1⟩
  obtain ⟨ba, bc, rfl, hbc, hbn, hbr, _⟩ := hown1.row (by omega) hbb
  have HO1 : Hid (Opts w1 a ls) := HO.out.on haw1
  have HB1 : Hid (Row w1 ba (buildP (ls.map V.o)).1) := hbr
  clear hown1 hnew1 hbr
  go_wp2_with fail
  refine (rbuild_c a ls _ _ _ rfl (by exact HO1.out)).mono ?_
  rintro E w2 ⟨haw2, v2, rfl, hown2, hnew2⟩
  obtain ⟨ca, cc, rfl, hcc, hcn, hcr, _⟩ := hown2.row (by omega) hbb
  have HB2 : Hid (Row w2 ba (buildP (ls.map V.o)).1) := HB1.out.away haw2 (by simp)
  have HC2 : Hid (Row w2 ca (buildP (ls.map V.o)).1) := hcr
  have haw3 := haw1.next haw2 (by simp)
  clear hown2 hnew2 hcr haw1 haw2
  generalize (buildP (ls.map V.o)).1 = L at *
  generalize (buildP (ls.map V.o)).2 = er at *
  go_wp2_with fail
  refine (known_c _ (by exact HG.out.on haw3)).mono ?_
  rintro E w4 ⟨rfl, haw4⟩
  have HB4 : Hid (Row w4 ba L) := HB2.out.away haw4 (by simp)
  have HC4 : Hid (Row w4 ca L) := HC2.out.away haw4 (by simp)
  have haw5 := haw3.next haw4 (by simp)
  clear haw3 haw4
  go_wp2_with fail
  refine (same_b (z := true) _ _ L L _ _ _ _ _ rfl rfl (by exact HB4.out) (by exact HC4.out) (by simp)).mono ?_
  rintro E w6 ⟨rfl, n6, hw6⟩
  have haw7 : Away [] w w6 := by rw [hw6]; exact haw5.drewN _
  clear hw6
  go_wp2_with fail
  go_ret
  exact ⟨rfl, haw7.to_below⟩
end optsBuilds
namespace optsBuilds
theorem contract (H : Type) (enc : TypeId × Value → H) (W : World) (base : Nat) (args : Array Value) (ds gs : List (DataW H)) (before : List MemPlace)
    (hval0 : ∀ (j : Nat) t v, Tryd.f4.params[j]? = some t → args[j]? = some v → Value.okWide Tryd.prog W .any base t v)
    (hW : DataW.Whole enc Tryd.prog Tryd.f4.params.toList Rows.optsBuildsSpec.vars false W args.toList ds gs before)
    (hsz0 : (DataW.weightsEach Tryd.prog (Tryd.f4.params.toList ++ Rows.optsBuildsSpec.plain.varTypes Tryd.prog) (ds ++ gs)).all (· ≤ reachBytes) = true)
    (hL : laidMetH Tryd.prog Rows.optsBuildsRow.laid W) :
    Calls Tryd.prog 4 args W fun e W' => ∃ v, e = .returned v ∧ Rows.optsBuildsSpec.post enc Tryd.prog Tryd.f4 false true false false W args v W' := by
  have hval := hval0
  have hsz := hsz0
  have hW' := hW
  obtain ⟨p, q, hA0, hV, rfl, hfz, hnd⟩ := hW
  have hA : DataW.TrodAll enc Tryd.prog W 0 (fun _ => true) true Tryd.f4.params.toList args.toList ds p := hA0
  rw [Tryd.params4] at hA hval hsz
  obtain ⟨v0, vs0, d0, ds0, p0, q0, hargs, rfl, rfl, h0, r0⟩ := trodAll_cons hA
  obtain ⟨rfl, rfl, rfl⟩ := trodAll_nil r0
  obtain rfl : args = #[v0] := by cases args; simp_all
  obtain ⟨rfl, rfl⟩ := trodVars_none hV
  have k0 := h0
  have lt0 : ∀ x ∈ p0, x.block < W.heap.size := by obtain ⟨m, hm⟩ := k0; exact DataW.trod_lt m _ _ _ hm
  obtain ⟨a0, len0, cap0, rfl⟩ := okWide_slice Tryd.underlying23 (hval 0 23 v0 rfl rfl)
  have z0 : ∀ m ∈ d0.weights Tryd.prog 23, m ≤ reachBytes := fun m hm => by
    have := List.all_eq_true.1 hsz m (DataW.weights_mem_each (j := 0) (t := 23) rfl rfl m hm)
    simpa using this
  obtain ⟨l0, rfl, c0, w0, u0⟩ := open_opts h0 z0
  clear hA0 hval0
  refine (walk a0 l0 cap0 W (glob_of hL) c0 w0).mono fun e W' ⟨he, bel⟩ => ?_
  subst he
  exact ⟨_, rfl, _, _, _, [], _, [], hW', trodAll_mk1 (shut_bool Tryd.underlying4 _), (trodAll_cons_mk (Below.trod laidOut (by kernel_rfl) (of_decide_eq_true (by kernel_rfl)) k0 bel lt0) trodAll_mk0), rfl, bel.frame _, fun h => by cases h⟩
theorem laid_met (os : Os) : laidMet Tryd.prog Rows.optsBuildsRow.laid ((laidWorld Tryd.prog os).forCall (fun _ _ => 0) ⟨#[], #[.slice none 0 0], []⟩).memory :=
  laidMet_of_run' 8 (by kernel_rfl) (by kernel_rfl)
theorem reads (os : Os) {H : Type} (enc : TypeId × Value → H) : ∃ places, DataW.whole enc Tryd.prog ((laidWorld Tryd.prog os).forCall (fun _ _ => 0) ⟨#[], #[.slice none 0 0], []⟩).memory Tryd.f4.params.toList Rows.optsBuildsSpec.vars false #[.slice none 0 0].toList 8 = some ([.nil], [], places) :=
  ⟨[], by kernel_rfl⟩
theorem lifted (os : Os) (started : os.Started) (H : Type) (enc : TypeId × Value → H) (F : Stop.Interp) :
    ReturnsInHanded {} Tryd.checked os 4 .any ((OpenSpec.ofChange Rows.optsBuildsSpec).preRow enc Tryd.prog Tryd.f4 Rows.optsBuildsRow.domain false Rows.optsBuildsRow.laid) (((OpenSpec.ofChange Rows.optsBuildsSpec).at F).post enc Tryd.prog Tryd.f4 false true false false) := by
  obtain ⟨places, hx⟩ := reads os enc
  refine returnsInHanded_of_row (C := Tryd.checked) (s := OpenSpec.ofChange Rows.optsBuildsSpec) ownKn started (by kernel_rfl) Tryd.func4
    (witness_row_at (enc := enc) (C := Tryd.checked) false (laidWorld Tryd.prog os) #[.slice none 0 0] rfl (by kernel_rfl) (by kernel_rfl) (by kernel_rfl)
      (OpenSpec.preRow_of_cond 8 hx (by kernel_rfl) (fun k hk => by cases hk) (by kernel_rfl) (laid_met os))) ?_
  intro W base args ds gs before hval hW _ hcond hsz hL hS _
  exact contract H enc W base args ds gs before hval hW hsz hL
theorem said : Rows.OptsBuildsSaid :=
  OpenClaim.holds_of_cond 4 Tryd.f4 rfl rfl rfl rfl rfl rfl rfl ⟨rfl, rfl, rfl, rfl, rfl⟩ rfl rfl rfl rfl rfl (by kernel_rfl) Tryd.func4 (by kernel_rfl)
    (of_decide_eq_true (by kernel_rfl)) (by unfold Func.isWrapper; first | (rw [if_pos (by decide +kernel)]; kernel_rfl) | (rw [if_neg (by decide +kernel)]; exact ⟨rfl, rfl⟩))
    (fun os started H enc _ F => by rw [OpenClaim.pre_eq_preRow]; exact lifted os started H enc F)
theorem plain (f : FuncId) (fn : Func) (hf : Tryd.pinned.checked.prog.funcNamed "mosaic/mosaiclaw04.OptsBuilds" = some f) (hfn : Tryd.pinned.checked.prog.funcs[f]? = some fn) :
    false = Tryd.pinned.checked.prog.looks [] ∧ ∀ (j : Nat) t, fn.params[j]? = some t → Tryd.pinned.checked.prog.wantsStandIn t = false := by
  obtain rfl : f = 4 := Option.some.inj ((show Tryd.prog.funcNamed "mosaic/mosaiclaw04.OptsBuilds" = some 4 by kernel_rfl).symm.trans hf) |>.symm
  obtain rfl : fn = Tryd.f4 := (Option.some.inj (Tryd.func4.symm.trans hfn)).symm
  refine ⟨by kernel_rfl, fun j t ht => ?_⟩
  rw [Tryd.params4] at ht
  have hm := Array.mem_of_getElem? ht
  simp only [List.mem_toArray, List.mem_cons, List.not_mem_nil, or_false] at hm
  have h22 : Tryd.prog.wantsStandIn 22 = false := by kernel_rfl
  have h23 : Tryd.prog.wantsStandIn 23 = false := by kernel_rfl
  subst hm
  all_goals first | exact h22 | exact h23
theorem card : Rows.OptsBuildsCardSaid :=
  Claim7.holds_tied_plain_at .later [] _ _ _ _ said (fun _ h => by cases h) (by kernel_rfl) (fun _ h => by cases h) optsBuilds_row_tie rfl ⟨rfl, rfl⟩ (by kernel_rfl) rfl plain (by kernel_rfl)
end optsBuilds
theorem optsBuilds_holds : Rows.OptsBuildsCardSaid := optsBuilds.card
#print axioms optsBuilds_holds
end Go.Proofs.YtokhmlpajfhbpaaDoor
