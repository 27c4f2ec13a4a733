/-
  OptsForms (P4.6): what is Valid is its options laid, and noughts.
-/
import Derived.Test.YtokhmlpajfhbpaaDoorKit
namespace Go.Proofs.YtokhmlpajfhbpaaDoor
open Go.ChangeShapes Go.WideShapes Go.ChangeAt Go.RowKit Go.Deep
set_option linter.unusedVariables false
set_option maxRecDepth 100000

theorem valid_none {l : List Int} (h : parseP l = none) : validP l = false := by unfold validP; rw [h]; simp
theorem valid_some {l : List Int} {os : List O} (h : parseP l = some os) : validP l = (decide (l.length ≤ 40) && decide (l.length % 4 = 0)) := by unfold validP; rw [h]; simp
namespace optsForms
set_option maxHeartbeats 4000000 in
theorem walk (a : Option Addr) (l : List Int) (c : Nat) (w : World) (hg : Glob w) (hc : l.length ≤ c) (hr : Row w a l) (hn : a = none → c = 0) (hu : l.length ≤ 1048576) :
    Calls Tryd.prog 3 #[.slice a l.length c] w fun e w' => e = .returned (.bool true) ∧ Below w.heap.size w w' := by
  have HG : Hid (Glob w) := hg
  have HR : Hid (Row w a l) := hr
  clear hg hr
  go_enter Tryd.func3, Tryd.ntmps3
  go_wp2_with fail
  refine (parse_c a l _ _ _ rfl hc (by omega) (by exact HR.out) (by exact HG.out)).mono ?_
  rintro E w1 ⟨haw1, ⟨hp, rfl⟩ | ⟨v, xs, hp, rfl, hm, hxl⟩⟩
  · have HV : Hid (validP l = false) := valid_none hp
    clear hp
    go_wp2_with fail
    refine (known_c _ (by exact HG.out.on haw1)).mono ?_
    rintro E w2 ⟨rfl, haw2⟩
    have haw3 := haw1.next haw2 (by simp)
    clear haw1 haw2
    go_wp2_with fail
    refine (valid_c a l _ _ _ rfl hc (by exact HR.out.away haw3 (by simp)) (by exact HG.out.on haw3)).mono ?_
    rintro E w4 ⟨rfl, haw4⟩
    rw [HV.out]
    have haw5 := haw3.next haw4 (by simp)
    clear haw3 haw4
    go_wp2_with fail
    refine (valid_c a l _ _ _ rfl hc (by exact HR.out.away haw5 (by simp)) (by exact HG.out.on haw5)).mono ?_
    rintro E w6 ⟨rfl, haw6⟩
    rw [HV.out]
    have haw7 := haw5.next haw6 (by simp)
    clear haw5 haw6
    go_wp2_with fail
    go_ret
    exact ⟨rfl, haw7.to_below⟩
  · obtain ⟨va, vc, rfl, hvc, hvn, hopts, _⟩ := hm.opts (by omega)
    have HV : Hid (validP l = (decide (l.length ≤ 40) && decide (l.length % 4 = 0))) := valid_some hp
    have HP : Hid (parseP l = some (xs.map V.o)) := hp
    have HO : Hid (Opts w1 va xs) := hopts
    clear hp hm hopts
    go_wp2_with fail
    refine (known_c _ (by exact HG.out.on haw1)).mono ?_
    rintro E w2 ⟨rfl, haw2⟩
    have HO2 : Hid (Opts w2 va xs) := HO.out.on haw2
    have haw3 := haw1.next haw2 (by simp)
    clear haw1 haw2
    by_cases hv : l.length ≤ 40 ∧ l.length % 4 = 0
    · obtain ⟨hv1, hv2⟩ := hv
      have HT : Hid (validP l = true) := by show _ = _; rw [HV.out]; simp [hv1, hv2]
      have b1 : decide ((l.length : Int) ≤ 40) = true := by simp; omega
      have b2 : decide ((l.length : Int) % 4 = 0) = true := by simp; omega
      have b3 : ((l.length : Int) % 4 == 0) = true := by simp; omega
      go_wp2_with fail
      refine (valid_c a l _ _ _ rfl hc (by exact HR.out.away haw3 (by simp)) (by exact HG.out.on haw3)).mono ?_
      rintro E w4 ⟨rfl, haw4⟩
      rw [HT.out]
      have HO4 : Hid (Opts w4 va xs) := HO2.out.on haw4
      have haw5 := haw3.next haw4 (by simp)
      clear haw3 haw4
      go_wp2_with fail
      refine (valid_c a l _ _ _ rfl hc (by exact HR.out.away haw5 (by simp)) (by exact HG.out.on haw5)).mono ?_
      rintro E w6 ⟨rfl, haw6⟩
      rw [HT.out]
      have HO6 : Hid (Opts w6 va xs) := HO4.out.on haw6
      have haw7 := haw5.next haw6 (by simp)
      clear haw5 haw6
      obtain ⟨os, hos, hright, hbs, htot, k, hk⟩ := valid_parts HR.out.2.1 HT.out
      rw [HP.out] at hos
      obtain rfl := Option.some.inj hos
      have HB : Hid (buildP (xs.map V.o) = (laidP (xs.map V.o), 0)) := buildP_ok hright htot
      have hLB : Bytes (laidP (xs.map V.o)) := laid_bytes hright hbs
      have HK : Hid (l = laidP (xs.map V.o) ++ List.replicate k 0) := hk
      clear hos hright hbs htot hk
      go_wp2_with fail
      refine (build_c va xs _ _ _ rfl (by exact HO6.out) (by exact HG.out.on haw7)).mono ?_
      rintro E w8 ⟨haw8, v8, rfl, hown8, hnew8⟩
      rw [HB.out] at hown8 ⊢
      simp only at hown8 ⊢
      generalize laidP (xs.map V.o) = L at *
      have hLl : L.length ≤ l.length := by rw [HK.out]; simp
      have haw9 := haw7.next haw8 (by simp)
      obtain ⟨ba, bc, rfl, hbc, hbn, hbr, _⟩ := hown8.row (by omega) hLB
      have HBR : Hid (Row w8 ba L) := hbr
      have HR8 : Hid (Row w8 a l) := HR.out.away haw9 (by simp)
      have hsl := slice_h a l.length c L.length L.length rfl (by omega)
      have HE : Hid (l.take L.length = L) := by
        show _ = _
        have h1 : (L ++ List.replicate k 0).take L.length = L := List.take_left
        rw [← HK.out] at h1; exact h1
      clear hown8 hnew8 haw7 haw8 hbr
      go_wp2_with fail
      refine (same_b (z := true) _ _ L (l.take L.length) _ _ _ _ _ rfl (by simp; omega) (by exact HBR.out) (by exact HR8.out.head _) (by rw [HE.out]; simp)).mono ?_
      rintro E w10 ⟨rfl, n10, hw10⟩
      have haw10 : Away [] w w10 := by rw [hw10]; exact haw9.drewN _
      have HR10 : Hid (Row w10 a l) := HR.out.away haw10 (by simp)
      clear hw10 haw9
      go_wp2_with fail
      go_loopw [7] (fun i wr => ∃ j : Nat, L.length ≤ j ∧ j ≤ l.length ∧ i = .int .i64 j ∧ wr = w10) (fun i _ => l.length - (intOf i).toNat)
      case atStart => exact ⟨L.length, by omega, by omega, rfl, rfl⟩
      case round =>
        obtain ⟨j, hj1, hj2, rfl, rfl⟩ := hrel
        by_cases hlt : j < l.length
        · obtain ⟨b, off, rfl, c0⟩ := cells_row HR10.out hlt
          have hz : l[j]?.getD 0 = 0 := by
            have h1 : (L ++ List.replicate k 0)[j]?.getD 0 = 0 := by
              rw [List.getElem?_append_right hj1, List.getElem?_replicate]
              split <;> simp
            rw [← HK.out] at h1; exact h1
          rw [hz] at c0
          clear hz
          go_wp2_with fail
          go_roundw
          case rel => exact ⟨j + 1, by omega, by omega, by go_num, by trivial⟩
          case measure => simp [intOf]; omega
        · go_wp2_with fail
          go_ret
          exact ⟨rfl, haw10.to_below⟩
    · have HT : Hid (validP l = false) := by
        show _ = _
        rw [HV.out]
        rcases Nat.lt_or_ge 40 l.length with h | h
        · rw [show decide (l.length ≤ 40) = false from by simp; omega]; rfl
        · rw [show decide (l.length % 4 = 0) = false from by simp; omega]; simp
      by_cases h2 : l.length % 4 = 0
      · have b1 : decide ((l.length : Int) ≤ 40) = false := by simp; omega
        have b3 : ((l.length : Int) % 4 == 0) = true := by simp; omega
        clear hv
        go_wp2_with fail
        refine (valid_c a l _ _ _ rfl hc (by exact HR.out.away haw3 (by simp)) (by exact HG.out.on haw3)).mono ?_
        rintro E w4 ⟨rfl, haw4⟩
        rw [HT.out]
        have haw5 := haw3.next haw4 (by simp)
        clear haw3 haw4
        go_wp2_with fail
        refine (valid_c a l _ _ _ rfl hc (by exact HR.out.away haw5 (by simp)) (by exact HG.out.on haw5)).mono ?_
        rintro E w6 ⟨rfl, haw6⟩
        rw [HT.out]
        have haw7 := haw5.next haw6 (by simp)
        clear haw5 haw6
        go_wp2_with fail
        go_ret
        exact ⟨rfl, haw7.to_below⟩
      · have b3 : ((l.length : Int) % 4 == 0) = false := by simp; omega
        clear hv
        go_wp2_with fail
        refine (valid_c a l _ _ _ rfl hc (by exact HR.out.away haw3 (by simp)) (by exact HG.out.on haw3)).mono ?_
        rintro E w4 ⟨rfl, haw4⟩
        rw [HT.out]
        have haw5 := haw3.next haw4 (by simp)
        clear haw3 haw4
        go_wp2_with fail
        refine (valid_c a l _ _ _ rfl hc (by exact HR.out.away haw5 (by simp)) (by exact HG.out.on haw5)).mono ?_
        rintro E w6 ⟨rfl, haw6⟩
        rw [HT.out]
        have haw7 := haw5.next haw6 (by simp)
        clear haw5 haw6
        go_wp2_with fail
        go_ret
        exact ⟨rfl, haw7.to_below⟩
end optsForms
namespace optsForms
theorem contract (H : Type) (enc : TypeId × Value → H) (W : World) (base : Nat) (args : Array Value) (ds gs : List (DataW H)) (before : List MemPlace)
    (hval0 : ∀ (j : Nat) t v, Tryd.f3.params[j]? = some t → args[j]? = some v → Value.okWide Tryd.prog W .any base t v)
    (hW : DataW.Whole enc Tryd.prog Tryd.f3.params.toList Rows.optsFormsSpec.vars false W args.toList ds gs before) (hk : Rows.uptoSmall H (ds ++ gs) = true)
    (hsz0 : (DataW.weightsEach Tryd.prog (Tryd.f3.params.toList ++ Rows.optsFormsSpec.plain.varTypes Tryd.prog) (ds ++ gs)).all (· ≤ reachBytes) = true)
    (hL : laidMetH Tryd.prog Rows.optsFormsUptoRow.laid W) :
    Calls Tryd.prog 3 args W fun e W' => ∃ v, e = .returned v ∧ Rows.optsFormsSpec.post enc Tryd.prog Tryd.f3 false true false false W args v W' := by
  have hval := hval0
  have hsz := hsz0
  have hW' := hW
  obtain ⟨p, q, hA0, hV, rfl, hfz, hnd⟩ := hW
  have hA : DataW.TrodAll enc Tryd.prog W 0 (fun _ => true) true Tryd.f3.params.toList args.toList ds p := hA0
  rw [Tryd.params3] at hA hval hsz
  obtain ⟨v0, vs0, d0, ds0, p0, q0, hargs, rfl, rfl, h0, r0⟩ := trodAll_cons hA
  obtain ⟨rfl, rfl, rfl⟩ := trodAll_nil r0
  obtain rfl : args = #[v0] := by cases args; simp_all
  obtain ⟨rfl, rfl⟩ := trodVars_none hV
  have k0 := h0
  have lt0 : ∀ x ∈ p0, x.block < W.heap.size := by obtain ⟨m, hm⟩ := k0; exact DataW.trod_lt m _ _ _ hm
  obtain ⟨a0, len0, cap0, rfl⟩ := okWide_slice Tryd.underlying22 (hval 0 22 v0 rfl rfl)
  have z0 : ∀ m ∈ d0.weights Tryd.prog 22, m ≤ reachBytes := fun m hm => by
    have := List.all_eq_true.1 hsz m (DataW.weights_mem_each (j := 0) (t := 22) rfl rfl m hm)
    simpa using this
  obtain ⟨l0, rfl, c0, _, w0, n0, u0⟩ := open_bytes h0 z0
  clear hA0 hval0
  refine (walk a0 l0 cap0 W (glob_of hL) c0 w0 n0 (Nat.le_trans u0 (small_mem hk (by simp)))).mono fun e W' ⟨he, bel⟩ => ?_
  subst he
  exact ⟨_, rfl, _, _, _, [], _, [], hW', trodAll_mk1 (shut_bool Tryd.underlying4 _), (trodAll_cons_mk (Below.trod laidOut (by kernel_rfl) (of_decide_eq_true (by kernel_rfl)) k0 bel lt0) trodAll_mk0), rfl, bel.frame _, fun h => by cases h⟩
theorem laid_met (os : Os) : laidMet Tryd.prog Rows.optsFormsUptoRow.laid ((laidWorld Tryd.prog os).forCall (fun _ _ => 0) ⟨#[], #[.slice none 0 0], []⟩).memory :=
  laidMet_of_run' 8 (by kernel_rfl) (by kernel_rfl)
theorem reads (os : Os) {H : Type} (enc : TypeId × Value → H) : ∃ places, DataW.whole enc Tryd.prog ((laidWorld Tryd.prog os).forCall (fun _ _ => 0) ⟨#[], #[.slice none 0 0], []⟩).memory Tryd.f3.params.toList Rows.optsFormsSpec.vars false #[.slice none 0 0].toList 8 = some ([.nil], [], places) :=
  ⟨[], by kernel_rfl⟩
theorem lifted (os : Os) (started : os.Started) (H : Type) (enc : TypeId × Value → H) (F : Stop.Interp) :
    ReturnsInHanded {} Tryd.checked os 3 .any ((Rows.OpenSpec.upto Rows.optsFormsSpec).preRow enc Tryd.prog Tryd.f3 Rows.optsFormsUptoRow.domain false Rows.optsFormsUptoRow.laid) (((Rows.OpenSpec.upto Rows.optsFormsSpec).at F).post enc Tryd.prog Tryd.f3 false true false false) := by
  obtain ⟨places, hx⟩ := reads os enc
  refine returnsInHanded_of_row (C := Tryd.checked) (s := Rows.OpenSpec.upto Rows.optsFormsSpec) ownKn started (by kernel_rfl) Tryd.func3
    (witness_row_at (enc := enc) (C := Tryd.checked) false (laidWorld Tryd.prog os) #[.slice none 0 0] rfl (by kernel_rfl) (by kernel_rfl) (by kernel_rfl)
      (OpenSpec.preRow_of_cond 8 hx (by kernel_rfl) (fun k hk => by cases hk; kernel_rfl) (by kernel_rfl) (laid_met os))) ?_
  intro W base args ds gs before hval hW _ hcond hsz hL hS _
  exact contract H enc W base args ds gs before hval hW (hcond _ rfl) hsz hL
theorem said : Rows.OptsFormsUptoSaid :=
  OpenClaim.holds_of_cond 3 Tryd.f3 rfl rfl rfl rfl rfl rfl rfl ⟨rfl, rfl, rfl, rfl, rfl⟩ rfl rfl rfl rfl rfl (by kernel_rfl) Tryd.func3 (by kernel_rfl)
    (of_decide_eq_true (by kernel_rfl)) (by unfold Func.isWrapper; first | (rw [if_pos (by decide +kernel)]; kernel_rfl) | (rw [if_neg (by decide +kernel)]; exact ⟨rfl, rfl⟩))
    (fun os started H enc _ F => by rw [OpenClaim.pre_eq_preRow]; exact lifted os started H enc F)
theorem plain (f : FuncId) (fn : Func) (hf : Tryd.pinned.checked.prog.funcNamed "mosaic/mosaiclaw04.OptsForms" = some f) (hfn : Tryd.pinned.checked.prog.funcs[f]? = some fn) :
    false = Tryd.pinned.checked.prog.looks [] ∧ ∀ (j : Nat) t, fn.params[j]? = some t → Tryd.pinned.checked.prog.wantsStandIn t = false := by
  obtain rfl : f = 3 := Option.some.inj ((show Tryd.prog.funcNamed "mosaic/mosaiclaw04.OptsForms" = some 3 by kernel_rfl).symm.trans hf) |>.symm
  obtain rfl : fn = Tryd.f3 := (Option.some.inj (Tryd.func3.symm.trans hfn)).symm
  refine ⟨by kernel_rfl, fun j t ht => ?_⟩
  rw [Tryd.params3] at ht
  have hm := Array.mem_of_getElem? ht
  simp only [List.mem_toArray, List.mem_cons, List.not_mem_nil, or_false] at hm
  have h22 : Tryd.prog.wantsStandIn 22 = false := by kernel_rfl
  have h23 : Tryd.prog.wantsStandIn 23 = false := by kernel_rfl
  subst hm
  all_goals first | exact h22 | exact h23
theorem card : Rows.OptsFormsUptoCardSaid :=
  Claim7.holds_tied_plain_at .later [] _ _ _ _ said (fun _ h => by cases h) (by kernel_rfl) (fun _ h => by cases h) optsFormsUpto_row_tie rfl ⟨rfl, rfl⟩ (by kernel_rfl) rfl plain (by kernel_rfl)
end optsForms
theorem optsFormsUpto_holds : Rows.OptsFormsUptoCardSaid := optsForms.card
#print axioms optsFormsUpto_holds
end Go.Proofs.YtokhmlpajfhbpaaDoor
