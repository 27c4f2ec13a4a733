/-
  OptsParses (P4.1, P4.2, P4.4): every Parse, Valid and Carry is the document's.
-/
import Derived.Test.YtokhmlpajfhbpabDoorRCarry
namespace Go.Proofs.YtokhmlpajfhbpabDoor
open Go.ChangeShapes Go.WideShapes Go.ChangeAt Go.RowKit Go.Deep
set_option linter.unusedVariables false
set_option maxRecDepth 100000
namespace optsParses
/-- The two lists say the same. -/
def Both (w : World) (va : Option Addr) (vn : Nat) (ma : Option Addr) (mn : Nat) : Prop := ∃ xs ys : List V, vn = xs.length ∧ mn = ys.length ∧ xs.map V.o = ys.map V.o ∧ Opts w va xs ∧ Opts w ma ys
theorem Both.on {w w' : World} {va : Option Addr} {vn : Nat} {ma : Option Addr} {mn : Nat} (h : Both w va vn ma mn) (hw : Away [] w w') : Both w' va vn ma mn := by
  obtain ⟨xs, ys, h1, h2, h3, h4, h5⟩ := h
  exact ⟨xs, ys, h1, h2, h3, h4.on hw, h5.on hw⟩
set_option maxHeartbeats 4000000 in
theorem walk (a : Option Addr) (l : List Int) (c : Nat) (w : World) (hg : Glob w) (hc : l.length ≤ c) (hr : Row w a l) (hn : a = none → c = 0) (hu : l.length ≤ 1048576) :
    Calls Tryd.prog 3 #[.slice a l.length c] w fun e w' => e = .returned (.bool true) ∧ Below w.heap.size w w' := by
  have HG : Hid (Glob w) := hg
  have HR : Hid (Row w a l) := hr
  have hlb := hr.2.1
  clear hg hr
  go_enter Tryd.func3, Tryd.ntmps3
  go_wp2_with fail
  refine (parse_c a l _ _ _ rfl hc (by omega) (by exact HR.out) (by exact HG.out)).mono ?_
  have key2 : ∀ (w0 : World) (E : Ending) (w1 : World), ParseOut w0 l E w1 → ∃ va vn vc e, E = .returned (.tuple #[.slice va vn vc, .int .i64 e]) ∧ Away [] w0 w1 ∧ ((parseP l = none ∧ vn = 0 ∧ e = 40) ∨ ∃ xs : List V, parseP l = some (xs.map V.o) ∧ e = 0 ∧ vn = xs.length ∧ Opts w1 va xs) := by
    rintro w0 E w' ⟨haw, ⟨hp, rfl⟩ | ⟨v, xs, hp, rfl, hm, hxl⟩⟩
    · exact ⟨none, 0, 0, 40, rfl, haw, .inl ⟨hp, rfl, rfl⟩⟩
    · obtain ⟨va, vc, rfl, hvc, hvn, hopts, _⟩ := hm.opts (by omega)
      exact ⟨va, xs.length, vc, 0, rfl, haw, .inr ⟨xs, hp, rfl, rfl, hopts⟩⟩
  have KEY2 : Hid (∀ (w0 : World) (E : Ending) (w1 : World), ParseOut w0 l E w1 → ∃ va vn vc e, E = .returned (.tuple #[.slice va vn vc, .int .i64 e]) ∧ Away [] w0 w1 ∧ ((parseP l = none ∧ vn = 0 ∧ e = 40) ∨ ∃ xs : List V, parseP l = some (xs.map V.o) ∧ e = 0 ∧ vn = xs.length ∧ Opts w1 va xs)) := key2
  clear key2
  intro E w1 h1
  obtain ⟨va, vn, vc, e, rfl, haw1, hd1⟩ := KEY2.out _ E w1 h1
  have HD1 : Hid ((parseP l = none ∧ vn = 0 ∧ e = 40) ∨ ∃ xs : List V, parseP l = some (xs.map V.o) ∧ e = 0 ∧ vn = xs.length ∧ Opts w1 va xs) := hd1
  clear h1 hd1
  go_wp2_with fail
  refine (rparse_c a l _ _ _ rfl hc (by omega) (by exact HR.out.away haw1 (by simp))).mono ?_
  intro E w2 h2
  obtain ⟨ma, mn, mc, f, rfl, haw2, hd2⟩ := KEY2.out _ E w2 h2
  have hb : e = f ∧ Both w2 va vn ma mn := by
    rcases HD1.out with ⟨hp, rfl, rfl⟩ | ⟨xs, hp, rfl, rfl, ho⟩
    · rcases hd2 with ⟨_, rfl, rfl⟩ | ⟨ys, hq, _⟩
      · exact ⟨rfl, [], [], rfl, rfl, rfl, Opts.nil _ _, Opts.nil _ _⟩
      · rw [hp] at hq; simp at hq
    · rcases hd2 with ⟨hq, _⟩ | ⟨ys, hq, rfl, rfl, hy⟩
      · rw [hp] at hq; simp at hq
      · rw [hp] at hq
        exact ⟨rfl, xs, ys, rfl, rfl, Option.some.inj hq, ho.on haw2, hy⟩
  obtain ⟨rfl, hb⟩ := hb
  have HB : Hid (Both w2 va vn ma mn) := hb
  have haw3 := haw1.next haw2 (by simp)
  clear h2 hd2 hb haw1 haw2 HD1
  go_wp2_with fail
  refine (known_c _ (by exact HG.out.on haw3)).mono ?_
  rintro E w4 ⟨rfl, haw4⟩
  have hb4 := HB.out.on haw4
  have haw5 := haw3.next haw4 (by simp)
  clear haw3 haw4
  obtain ⟨xs, ys, rfl, rfl, hxy, hox, hoy⟩ := hb4
  have HXY : Hid (xs.map V.o = ys.map V.o) := hxy
  have HX : Hid (Opts w4 va xs) := hox
  have HY : Hid (Opts w4 ma ys) := hoy
  clear hxy hox hoy
  go_wp2_with fail
  refine (sameOpts_c va ma xs ys _ _ _ _ _ rfl rfl (by exact HX.out) (by exact HY.out)).mono ?_
  rintro E w6 ⟨rfl, n6, hw6⟩
  rw [decide_eq_true HXY.out]
  have haw7 : Away [] w w6 := by rw [hw6]; exact haw5.drewN _
  clear hw6 haw5
  go_wp2_with fail
  refine (valid_c a l _ _ _ rfl hc (by exact HR.out.away haw7 (by simp)) (by exact HG.out.on haw7)).mono ?_
  rintro E w8 ⟨rfl, haw8⟩
  have haw9 := haw7.next haw8 (by simp)
  clear haw7 haw8
  go_wp2_with fail
  refine (rvalid_c a l _ _ _ rfl hc (by exact HR.out.away haw9 (by simp))).mono ?_
  rintro E w10 ⟨rfl, haw10⟩
  have haw11 := haw9.next haw10 (by simp)
  clear haw9 haw10
  generalize validP l = z
  obtain ⟨_, _, q3, q4⟩ := carry_valid hlb
  go_wp2_with fail
  refine (carry_c a l _ _ _ rfl hc (by exact HR.out.away haw11 (by simp)) (by exact HG.out.on haw11)).mono ?_
  rintro E w12 ⟨v12, rfl, hown12, hnew12, haw12⟩
  obtain ⟨da, dc, rfl, hdc, hdn, hdr, _⟩ := hown12.row (by omega) q3
  have haw13 := haw11.next haw12 (by simp)
  have HD12 : Hid (Row w12 da (carryP l)) := hdr
  clear hown12 hnew12 haw11 haw12 hdr
  go_wp2_with fail
  refine (rcarry_c a l _ _ _ rfl hc (by exact HR.out.away haw13 (by simp))).mono ?_
  rintro E w14 ⟨v14, rfl, hown14, hnew14, haw14⟩
  obtain ⟨ea, ec, rfl, hec, hen, her, _⟩ := hown14.row (by omega) q3
  have haw15 := haw13.next haw14 (by simp)
  have HD14 : Hid (Row w14 da (carryP l)) := HD12.out.away haw14 (by simp)
  have HE14 : Hid (Row w14 ea (carryP l)) := her
  clear hown14 hnew14 haw13 haw14 her
  generalize carryP l = X at *
  go_wp2_with fail
  refine (same_b (z := true) _ _ X X _ _ _ _ _ rfl rfl (by exact HD14.out) (by exact HE14.out) (by simp)).mono ?_
  rintro E w16 ⟨rfl, n16, hw16⟩
  have haw17 : Away [] w w16 := by rw [hw16]; exact haw15.drewN _
  clear hw16
  go_wp2_with fail
  go_ret
  exact ⟨rfl, haw17.to_below⟩
end optsParses
namespace optsParses
theorem contract (H : Type) (enc : TypeId × Value → H) (W : World) (base : Nat) (args : Array Value) (ds gs : List (DataW H)) (before : List MemPlace)
    (hval0 : ∀ (j : Nat) t v, Tryd.f3.params[j]? = some t → args[j]? = some v → Value.okWide Tryd.prog W .any base t v)
    (hW : DataW.Whole enc Tryd.prog Tryd.f3.params.toList Rows.optsParsesSpec.vars false W args.toList ds gs before) (hk : Rows.uptoSmall H (ds ++ gs) = true)
    (hsz0 : (DataW.weightsEach Tryd.prog (Tryd.f3.params.toList ++ Rows.optsParsesSpec.plain.varTypes Tryd.prog) (ds ++ gs)).all (· ≤ reachBytes) = true)
    (hL : laidMetH Tryd.prog Rows.optsParsesUptoRow.laid W) :
    Calls Tryd.prog 3 args W fun e W' => ∃ v, e = .returned v ∧ Rows.optsParsesSpec.post enc Tryd.prog Tryd.f3 false true false false W args v W' := by
  have hval := hval0
  have hsz := hsz0
  have hW' := hW
  obtain ⟨p, q, hA0, hV, rfl, hfz, hnd⟩ := hW
  have hA : DataW.TrodAll enc Tryd.prog W 0 (fun _ => true) true Tryd.f3.params.toList args.toList ds p := hA0
  rw [Tryd.params3] at hA hval hsz
  obtain ⟨v0, vs0, d0, ds0, p0, q0, hargs, rfl, rfl, h0, r0⟩ := trodAll_cons hA
  obtain ⟨rfl, rfl, rfl⟩ := trodAll_nil r0
  obtain rfl : args = #[v0] := by cases args; simp_all
  obtain ⟨rfl, rfl⟩ := trodVars_none hV
  have k0 := h0
  have lt0 : ∀ x ∈ p0, x.block < W.heap.size := by obtain ⟨m, hm⟩ := k0; exact DataW.trod_lt m _ _ _ hm
  obtain ⟨a0, len0, cap0, rfl⟩ := okWide_slice Tryd.underlying22 (hval 0 22 v0 rfl rfl)
  have z0 : ∀ m ∈ d0.weights Tryd.prog 22, m ≤ reachBytes := fun m hm => by
    have := List.all_eq_true.1 hsz m (DataW.weights_mem_each (j := 0) (t := 22) rfl rfl m hm)
    simpa using this
  obtain ⟨l0, rfl, c0, _, w0, n0, u0⟩ := open_bytes h0 z0
  clear hA0 hval0
  refine (walk a0 l0 cap0 W (glob_of hL) c0 w0 n0 (Nat.le_trans u0 (small_mem hk (by simp)))).mono fun e W' ⟨he, bel⟩ => ?_
  subst he
  exact ⟨_, rfl, _, _, _, [], _, [], hW', trodAll_mk1 (shut_bool Tryd.underlying4 _), (trodAll_cons_mk (Below.trod laidOut (by kernel_rfl) (of_decide_eq_true (by kernel_rfl)) k0 bel lt0) trodAll_mk0), rfl, bel.frame _, fun h => by cases h⟩
theorem laid_met (os : Os) : laidMet Tryd.prog Rows.optsParsesUptoRow.laid ((laidWorld Tryd.prog os).forCall (fun _ _ => 0) ⟨#[], #[.slice none 0 0], []⟩).memory :=
  laidMet_of_run' 8 (by kernel_rfl) (by kernel_rfl)
theorem reads (os : Os) {H : Type} (enc : TypeId × Value → H) : ∃ places, DataW.whole enc Tryd.prog ((laidWorld Tryd.prog os).forCall (fun _ _ => 0) ⟨#[], #[.slice none 0 0], []⟩).memory Tryd.f3.params.toList Rows.optsParsesSpec.vars false #[.slice none 0 0].toList 8 = some ([.nil], [], places) :=
  ⟨[], by kernel_rfl⟩
theorem lifted (os : Os) (started : os.Started) (H : Type) (enc : TypeId × Value → H) (F : Stop.Interp) :
    ReturnsInHanded {} Tryd.checked os 3 .any ((Rows.OpenSpec.upto Rows.optsParsesSpec).preRow enc Tryd.prog Tryd.f3 Rows.optsParsesUptoRow.domain false Rows.optsParsesUptoRow.laid) (((Rows.OpenSpec.upto Rows.optsParsesSpec).at F).post enc Tryd.prog Tryd.f3 false true false false) := by
  obtain ⟨places, hx⟩ := reads os enc
  refine returnsInHanded_of_row (C := Tryd.checked) (s := Rows.OpenSpec.upto Rows.optsParsesSpec) ownKn started (by kernel_rfl) Tryd.func3
    (witness_row_at (enc := enc) (C := Tryd.checked) false (laidWorld Tryd.prog os) #[.slice none 0 0] rfl (by kernel_rfl) (by kernel_rfl) (by kernel_rfl)
      (OpenSpec.preRow_of_cond 8 hx (by kernel_rfl) (fun k hk => by cases hk; kernel_rfl) (by kernel_rfl) (laid_met os))) ?_
  intro W base args ds gs before hval hW _ hcond hsz hL hS _
  exact contract H enc W base args ds gs before hval hW (hcond _ rfl) hsz hL
theorem said : Rows.OptsParsesUptoSaid :=
  OpenClaim.holds_of_cond 3 Tryd.f3 rfl rfl rfl rfl rfl rfl rfl ⟨rfl, rfl, rfl, rfl, rfl⟩ rfl rfl rfl rfl rfl (by kernel_rfl) Tryd.func3 (by kernel_rfl)
    (of_decide_eq_true (by kernel_rfl)) (by unfold Func.isWrapper; first | (rw [if_pos (by decide +kernel)]; kernel_rfl) | (rw [if_neg (by decide +kernel)]; exact ⟨rfl, rfl⟩))
    (fun os started H enc _ F => by rw [OpenClaim.pre_eq_preRow]; exact lifted os started H enc F)
theorem plain (f : FuncId) (fn : Func) (hf : Tryd.pinned.checked.prog.funcNamed "mosaic/mosaiclaw04.OptsParses" = some f) (hfn : Tryd.pinned.checked.prog.funcs[f]? = some fn) :
    false = Tryd.pinned.checked.prog.looks [] ∧ ∀ (j : Nat) t, fn.params[j]? = some t → Tryd.pinned.checked.prog.wantsStandIn t = false := by
  obtain rfl : f = 3 := Option.some.inj ((show Tryd.prog.funcNamed "mosaic/mosaiclaw04.OptsParses" = some 3 by kernel_rfl).symm.trans hf) |>.symm
  obtain rfl : fn = Tryd.f3 := (Option.some.inj (Tryd.func3.symm.trans hfn)).symm
  refine ⟨by kernel_rfl, fun j t ht => ?_⟩
  rw [Tryd.params3] at ht
  have hm := Array.mem_of_getElem? ht
  simp only [List.mem_toArray, List.mem_cons, List.not_mem_nil, or_false] at hm
  have h22 : Tryd.prog.wantsStandIn 22 = false := by kernel_rfl
  have h23 : Tryd.prog.wantsStandIn 23 = false := by kernel_rfl
  subst hm
  all_goals first | exact h22 | exact h23
theorem card : Rows.OptsParsesUptoCardSaid :=
  Claim7.holds_tied_plain_at .later [] _ _ _ _ said (fun _ h => by cases h) (by kernel_rfl) (fun _ h => by cases h) optsParsesUpto_row_tie rfl ⟨rfl, rfl⟩ (by kernel_rfl) rfl plain (by kernel_rfl)
end optsParses
theorem optsParsesUpto_holds : Rows.OptsParsesUptoCardSaid := optsParses.card
#print axioms optsParsesUpto_holds
end Go.Proofs.YtokhmlpajfhbpabDoor
