/-
  OptsBack (P4.5): options that may be are laid and read back.
-/
import Derived.Test.YtokhmlpajfhbpaaDoorFit
namespace Go.Proofs.YtokhmlpajfhbpaaDoor
open Go.ChangeShapes Go.WideShapes Go.ChangeAt Go.RowKit Go.Deep
set_option linter.unusedVariables false
set_option maxRecDepth 100000

theorem right_map {xs : List V} (h : ∀ x ∈ xs, rightB x.o = true) : ∀ o ∈ xs.map V.o, rightB o = true := fun o ho => by obtain ⟨x, hx, rfl⟩ := List.mem_map.1 ho; exact h x hx
theorem bytes_map {w : World} {B : Nat} {v : Value} {xs : List V} (h : Made w B v xs) : ∀ o ∈ xs.map V.o, Bytes o.2 := fun o ho => by obtain ⟨x, hx, rfl⟩ := List.mem_map.1 ho; exact (h.each x hx).2.2.1
namespace optsBack
set_option maxHeartbeats 4000000 in
theorem walk (a : Option Addr) (ls : List V) (c : Nat) (w : World) (hg : Glob w) (hc : ls.length ≤ c) (ho : Opts w a ls) :
    Calls Tryd.prog 6 #[.slice a ls.length c] w fun e w' => e = .returned (.bool true) ∧ Below w.heap.size w w' := by
  have HG : Hid (Glob w) := hg
  have HO : Hid (Opts w a ls) := ho
  clear hg ho
  go_enter Tryd.func6, Tryd.ntmps6
  go_wp2_with fail
  refine (fitting_c a ls _ _ _ rfl (by exact HO.out)).mono ?_
  rintro E w1 ⟨v, xs, rfl, hm, hright, htot, haw1⟩
  have hxl : xs.length ≤ 40 := by have := len_tot xs; omega
  obtain ⟨va, vc, rfl, hvc, hvn, hopts, _⟩ := hm.opts (by omega)
  have HX : Hid (Opts w1 va xs) := hopts
  have hB := buildP_ok (right_map hright) htot
  have hlb := laid_bytes (right_map hright) (bytes_map hm)
  have HP : Hid (parseP (laidP (xs.map V.o)) = some (xs.map V.o)) := parse_laidP (right_map hright)
  have HV : Hid (validP (laidP (xs.map V.o)) = true) := valid_laid (right_map hright) htot
  have hL : (laidP (xs.map V.o)).length ≤ 40 ∧ (laidP (xs.map V.o)).length % 4 = 0 := by
    rw [laidP_len]; exact ⟨fill40 htot, (fillP_le _).2.2⟩
  have HB : Hid (buildP (xs.map V.o) = (laidP (xs.map V.o), 0)) := hB
  clear hm hopts hright htot hB
  go_wp2_with fail
  refine (build_c va xs _ _ _ rfl (by exact HX.out) (by exact HG.out.on haw1)).mono ?_
  rintro E w2 ⟨haw2, v2, rfl, hown2, hnew2⟩
  rw [HB.out] at hown2 ⊢
  simp only at hown2 ⊢
  generalize laidP (xs.map V.o) = L at *
  obtain ⟨hL1, hL2⟩ := hL
  obtain ⟨ba, bc, rfl, hbc, hbn, hbr, _⟩ := hown2.row (by omega) hlb
  have haw3 := haw1.next haw2 (by simp)
  have HX2 : Hid (Opts w2 va xs) := HX.out.on haw2
  have HBR : Hid (Row w2 ba L) := hbr
  clear hown2 hnew2 haw1 haw2 hbr
  go_wp2_with fail
  refine (parse_c ba L _ _ _ rfl hbc (by omega) (by exact HBR.out) (by exact HG.out.on haw3)).mono ?_
  rintro E w4 ⟨haw4, ⟨hp, rfl⟩ | ⟨v4, ys, hp, rfl, hm4, hyl⟩⟩
  · rw [HP.out] at hp; simp at hp
  · rw [HP.out] at hp
    have hxy : xs.map V.o = ys.map V.o := Option.some.inj hp
    have HXY : Hid (xs.map V.o = ys.map V.o) := hxy
    obtain ⟨ya, yc, rfl, hyc, hyn, hyo, _⟩ := hm4.opts (by omega)
    have HY : Hid (Opts w4 ya ys) := hyo
    have HX4 : Hid (Opts w4 va xs) := HX2.out.on haw4
    have HBR4 : Hid (Row w4 ba L) := HBR.out.away haw4 (by simp)
    have haw5 := haw3.next haw4 (by simp)
    clear hp hxy hm4 hyo haw3 haw4
    go_wp2_with fail
    refine (known_c _ (by exact HG.out.on haw5)).mono ?_
    rintro E w6 ⟨rfl, haw6⟩
    have haw7 := haw5.next haw6 (by simp)
    have HY6 : Hid (Opts w6 ya ys) := HY.out.on haw6
    have HX6 : Hid (Opts w6 va xs) := HX4.out.on haw6
    have HBR6 : Hid (Row w6 ba L) := HBR4.out.away haw6 (by simp)
    clear haw5 haw6
    go_wp2_with fail
    refine (valid_c ba L _ _ _ rfl hbc (by exact HBR6.out) (by exact HG.out.on haw7)).mono ?_
    rintro E w8 ⟨rfl, haw8⟩
    rw [HV.out]
    have haw9 := haw7.next haw8 (by simp)
    have HY8 : Hid (Opts w8 ya ys) := HY6.out.on haw8
    have HX8 : Hid (Opts w8 va xs) := HX6.out.on haw8
    have b1 : decide ((L.length : Int) ≤ 40) = true := by simp; omega
    have b3 : ((L.length : Int) % 4 == 0) = true := by simp; omega
    clear haw7 haw8
    go_wp2_with fail
    refine (sameOpts_c va ya xs ys _ _ _ _ _ rfl rfl (by exact HX8.out) (by exact HY8.out)).mono ?_
    rintro E w10 ⟨rfl, n10, hw10⟩
    rw [decide_eq_true HXY.out]
    have haw11 : Away [] w w10 := by rw [hw10]; exact haw9.drewN _
    clear hw10
    go_wp2_with fail
    go_ret
    exact ⟨rfl, haw11.to_below⟩
end optsBack
namespace optsBack
theorem contract (H : Type) (enc : TypeId × Value → H) (W : World) (base : Nat) (args : Array Value) (ds gs : List (DataW H)) (before : List MemPlace)
    (hval0 : ∀ (j : Nat) t v, Tryd.f6.params[j]? = some t → args[j]? = some v → Value.okWide Tryd.prog W .any base t v)
    (hW : DataW.Whole enc Tryd.prog Tryd.f6.params.toList Rows.optsBackSpec.vars false W args.toList ds gs before)
    (hsz0 : (DataW.weightsEach Tryd.prog (Tryd.f6.params.toList ++ Rows.optsBackSpec.plain.varTypes Tryd.prog) (ds ++ gs)).all (· ≤ reachBytes) = true)
    (hL : laidMetH Tryd.prog Rows.optsBackRow.laid W) :
    Calls Tryd.prog 6 args W fun e W' => ∃ v, e = .returned v ∧ Rows.optsBackSpec.post enc Tryd.prog Tryd.f6 false true false false W args v W' := by
  have hval := hval0
  have hsz := hsz0
  have hW' := hW
  obtain ⟨p, q, hA0, hV, rfl, hfz, hnd⟩ := hW
  have hA : DataW.TrodAll enc Tryd.prog W 0 (fun _ => true) true Tryd.f6.params.toList args.toList ds p := hA0
  rw [Tryd.params6] at hA hval hsz
  obtain ⟨v0, vs0, d0, ds0, p0, q0, hargs, rfl, rfl, h0, r0⟩ := trodAll_cons hA
  obtain ⟨rfl, rfl, rfl⟩ := trodAll_nil r0
  obtain rfl : args = #[v0] := by cases args; simp_all
  obtain ⟨rfl, rfl⟩ := trodVars_none hV
  have k0 := h0
  have lt0 : ∀ x ∈ p0, x.block < W.heap.size := by obtain ⟨m, hm⟩ := k0; exact DataW.trod_lt m _ _ _ hm
  obtain ⟨a0, len0, cap0, rfl⟩ := okWide_slice Tryd.underlying23 (hval 0 23 v0 rfl rfl)
  have z0 : ∀ m ∈ d0.weights Tryd.prog 23, m ≤ reachBytes := fun m hm => by
    have := List.all_eq_true.1 hsz m (DataW.weights_mem_each (j := 0) (t := 23) rfl rfl m hm)
    simpa using this
  obtain ⟨l0, rfl, c0, w0, u0⟩ := open_opts h0 z0
  clear hA0 hval0
  refine (walk a0 l0 cap0 W (glob_of hL) c0 w0).mono fun e W' ⟨he, bel⟩ => ?_
  subst he
  exact ⟨_, rfl, _, _, _, [], _, [], hW', trodAll_mk1 (shut_bool Tryd.underlying4 _), (trodAll_cons_mk (Below.trod laidOut (by kernel_rfl) (of_decide_eq_true (by kernel_rfl)) k0 bel lt0) trodAll_mk0), rfl, bel.frame _, fun h => by cases h⟩
theorem laid_met (os : Os) : laidMet Tryd.prog Rows.optsBackRow.laid ((laidWorld Tryd.prog os).forCall (fun _ _ => 0) ⟨#[], #[.slice none 0 0], []⟩).memory :=
  laidMet_of_run' 8 (by kernel_rfl) (by kernel_rfl)
theorem reads (os : Os) {H : Type} (enc : TypeId × Value → H) : ∃ places, DataW.whole enc Tryd.prog ((laidWorld Tryd.prog os).forCall (fun _ _ => 0) ⟨#[], #[.slice none 0 0], []⟩).memory Tryd.f6.params.toList Rows.optsBackSpec.vars false #[.slice none 0 0].toList 8 = some ([.nil], [], places) :=
  ⟨[], by kernel_rfl⟩
theorem lifted (os : Os) (started : os.Started) (H : Type) (enc : TypeId × Value → H) (F : Stop.Interp) :
    ReturnsInHanded {} Tryd.checked os 6 .any ((OpenSpec.ofChange Rows.optsBackSpec).preRow enc Tryd.prog Tryd.f6 Rows.optsBackRow.domain false Rows.optsBackRow.laid) (((OpenSpec.ofChange Rows.optsBackSpec).at F).post enc Tryd.prog Tryd.f6 false true false false) := by
  obtain ⟨places, hx⟩ := reads os enc
  refine returnsInHanded_of_row (C := Tryd.checked) (s := OpenSpec.ofChange Rows.optsBackSpec) ownKn started (by kernel_rfl) Tryd.func6
    (witness_row_at (enc := enc) (C := Tryd.checked) false (laidWorld Tryd.prog os) #[.slice none 0 0] rfl (by kernel_rfl) (by kernel_rfl) (by kernel_rfl)
      (OpenSpec.preRow_of_cond 8 hx (by kernel_rfl) (fun k hk => by cases hk) (by kernel_rfl) (laid_met os))) ?_
  intro W base args ds gs before hval hW _ hcond hsz hL hS _
  exact contract H enc W base args ds gs before hval hW hsz hL
theorem said : Rows.OptsBackSaid :=
  OpenClaim.holds_of_cond 6 Tryd.f6 rfl rfl rfl rfl rfl rfl rfl ⟨rfl, rfl, rfl, rfl, rfl⟩ rfl rfl rfl rfl rfl (by kernel_rfl) Tryd.func6 (by kernel_rfl)
    (of_decide_eq_true (by kernel_rfl)) (by unfold Func.isWrapper; first | (rw [if_pos (by decide +kernel)]; kernel_rfl) | (rw [if_neg (by decide +kernel)]; exact ⟨rfl, rfl⟩))
    (fun os started H enc _ F => by rw [OpenClaim.pre_eq_preRow]; exact lifted os started H enc F)
theorem plain (f : FuncId) (fn : Func) (hf : Tryd.pinned.checked.prog.funcNamed "mosaic/mosaiclaw04.OptsBack" = some f) (hfn : Tryd.pinned.checked.prog.funcs[f]? = some fn) :
    false = Tryd.pinned.checked.prog.looks [] ∧ ∀ (j : Nat) t, fn.params[j]? = some t → Tryd.pinned.checked.prog.wantsStandIn t = false := by
  obtain rfl : f = 6 := Option.some.inj ((show Tryd.prog.funcNamed "mosaic/mosaiclaw04.OptsBack" = some 6 by kernel_rfl).symm.trans hf) |>.symm
  obtain rfl : fn = Tryd.f6 := (Option.some.inj (Tryd.func6.symm.trans hfn)).symm
  refine ⟨by kernel_rfl, fun j t ht => ?_⟩
  rw [Tryd.params6] at ht
  have hm := Array.mem_of_getElem? ht
  simp only [List.mem_toArray, List.mem_cons, List.not_mem_nil, or_false] at hm
  have h22 : Tryd.prog.wantsStandIn 22 = false := by kernel_rfl
  have h23 : Tryd.prog.wantsStandIn 23 = false := by kernel_rfl
  subst hm
  all_goals first | exact h22 | exact h23
theorem card : Rows.OptsBackCardSaid :=
  Claim7.holds_tied_plain_at .later [] _ _ _ _ said (fun _ h => by cases h) (by kernel_rfl) (fun _ h => by cases h) optsBack_row_tie rfl ⟨rfl, rfl⟩ (by kernel_rfl) rfl plain (by kernel_rfl)
end optsBack
theorem optsBack_holds : Rows.OptsBackCardSaid := optsBack.card
#print axioms optsBack_holds
end Go.Proofs.YtokhmlpajfhbpaaDoor
