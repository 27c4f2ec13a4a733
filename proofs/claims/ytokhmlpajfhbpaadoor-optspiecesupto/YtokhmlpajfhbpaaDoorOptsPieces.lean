/-
  OptsPieces (P4.7): options behind options are read as by themselves.
-/
import Derived.Test.YtokhmlpajfhbpaaDoorEnded
namespace Go.Proofs.YtokhmlpajfhbpaaDoor
open Go.ChangeShapes Go.WideShapes Go.ChangeAt Go.RowKit Go.Deep
set_option linter.unusedVariables false
set_option maxRecDepth 100000
namespace optsPieces
/-- What the pieces say of the whole. -/
theorem pieces {l m : List Int} {os : List O} (hb : Bytes l) (hl : parseP l = some os) :
    (∀ o ∈ os, 1 ≤ o.1) ∧ tot os ≤ l.length ∧ (tot os < l.length → parseP (l ++ m) = if zerosP m = true then some os else none) ∧ (¬ tot os < l.length → parseP (l ++ m) = (parseP m).map (os ++ ·)) := by
  obtain ⟨g, k, e⟩ := parse_shape _ l os (Nat.le_refl _) hb hl
  have hlen : l.length = tot os + k := by rw [e]; simp [flat_len]
  refine ⟨fun o ho => (g o ho).1.1, by omega, fun h => ?_, fun h => ?_⟩
  · rw [e, List.append_assoc, parse_flat os _ (fun o ho => (g o ho).1), parse_zeros k m (by omega)]
    split <;> simp
  · have hk : k = 0 := by omega
    subst hk
    rw [e]
    simp only [List.replicate_zero, List.append_nil]
    exact parse_flat os _ (fun o ho => (g o ho).1)
set_option maxHeartbeats 4000000 in
theorem walk (a : Option Addr) (l : List Int) (c : Nat) (a' : Option Addr) (m : List Int) (c' : Nat) (w : World) (hg : Glob w) (hc : l.length ≤ c) (hr : Row w a l) (hn : a = none → c = 0) (hu : l.length ≤ 1048576)
    (hc' : m.length ≤ c') (hr' : Row w a' m) (hn' : a' = none → c' = 0) (hu' : m.length ≤ 1048576) :
    Calls Tryd.prog 5 #[.slice a l.length c, .slice a' m.length c'] w fun e w' => e = .returned (.bool true) ∧ Below w.heap.size w w' := by
  have HG : Hid (Glob w) := hg
  have HR : Hid (Row w a l) := hr
  have HS : Hid (Row w a' m) := hr'
  clear hg hr hr'
  go_enter Tryd.func5, Tryd.ntmps5
  go_wp2_with fail
  refine (parse_u a l _ _ _ rfl hc (by omega) (by exact HR.out) (by exact HG.out)).mono ?_
  rintro E w1 ⟨va, vn, vc, e1, rfl, haw1, hd1⟩
  have HD1 : Hid ((parseP l = none ∧ vn = 0 ∧ e1 = 40) ∨ ∃ xs : List V, parseP l = some (xs.map V.o) ∧ e1 = 0 ∧ vn = xs.length ∧ Made w1 w.heap.size (.slice va vn vc) xs ∧ Opts w1 va xs ∧ (va = none → vc = 0) ∧ xs.length ≤ l.length) := hd1
  clear hd1
  go_wp2_with fail
  refine (parse_u a' m _ _ _ rfl hc' (by omega) (by exact HS.out.away haw1 (by simp)) (by exact HG.out.on haw1)).mono ?_
  rintro E w2 ⟨ma, mn, mc, e2, rfl, haw2, hd2⟩
  have HD2 : Hid ((parseP m = none ∧ mn = 0 ∧ e2 = 40) ∨ ∃ xs : List V, parseP m = some (xs.map V.o) ∧ e2 = 0 ∧ mn = xs.length ∧ Made w2 w1.heap.size (.slice ma mn mc) xs ∧ Opts w2 ma xs ∧ (ma = none → mc = 0) ∧ xs.length ≤ m.length) := hd2
  have haw3 := haw1.next haw2 (by simp)
  have HAW2 : Hid (Away [] w1 w2) := haw2
  clear hd2 haw1 haw2
  go_wp2_with (at_builtin; refine wpList_appA rfl _ _ rfl (.slice none 0 0) [] l rfl (Owns.nil _) a _ _ rfl rfl hn (by exact HR.out.away haw3 (by simp)) (by simp; omega) ?_)
  intro v4 w4 hown4 haw4 hmov4
  have hown4 : Owns w4 v4 l := by simpa using hown4
  have haw4 : Away [] w2 w4 := haw4
  have hnew4 : New w2.heap.size v4 := fun j hj => by
    rcases hmov4 j hj with h | h
    · simp [Value.ownBlock] at h
    · exact h
  have haw5 := haw3.next haw4 (by simp)
  clear hmov4
  go_wp2_with (at_builtin; refine wpList_appA rfl _ _ rfl v4 l m rfl (by exact hown4) a' _ _ rfl rfl hn' (by exact HS.out.away haw5 (by simp)) (by omega) ?_)
  intro v6 w6 hown6 haw6 hmov6
  have hs2 := haw3.size
  have hs4 := haw4.size
  have haw6' : Away [] w2 w6 := haw4.next haw6 (fun k hk => .inr (hnew4 k (by simpa using hk)))
  have haw7 := haw3.next haw6' (by simp)
  obtain ⟨ga, gc, rfl, hgc, hgn, hgr, _⟩ := hown6.row (by simp; omega) (HR.out.2.1.app HS.out.2.1)
  have HG6 : Hid (Row w6 ga (l ++ m)) := hgr
  have HAW6 : Hid (Away [] w2 w6) := haw6'
  clear hown4 hown6 haw4 haw5 haw6 haw6' hmov6 hgr hnew4 haw3
  go_wp2_with fail
  refine (parse_u ga (l ++ m) _ _ _ (by simp) (by simpa using hgc) (by omega) (by exact HG6.out) (by exact HG.out.on haw7)).mono ?_
  rintro E w8 ⟨na, nn, nc, e3, rfl, haw8, hd3⟩
  have HD3 : Hid ((parseP (l ++ m) = none ∧ nn = 0 ∧ e3 = 40) ∨ ∃ xs : List V, parseP (l ++ m) = some (xs.map V.o) ∧ e3 = 0 ∧ nn = xs.length ∧ Made w8 w6.heap.size (.slice na nn nc) xs ∧ Opts w8 na xs ∧ (na = none → nc = 0) ∧ xs.length ≤ (l ++ m).length) := hd3
  have haw9 := haw7.next haw8 (by simp)
  have HAW8 : Hid (Away [] w2 w8) := HAW6.out.next haw8 (by simp)
  clear hd3 haw7 haw8
  go_wp2_with fail
  refine (known_c _ (by exact HG.out.on haw9)).mono ?_
  rintro E w10 ⟨rfl, haw10⟩
  have haw11 := haw9.next haw10 (by simp)
  have HAW10 : Hid (Away [] w2 w10 ∧ Away [] w8 w10) := ⟨HAW8.out.next haw10 (by simp), haw10⟩
  clear haw9 haw10
  rcases HD1.out with ⟨hp1, rfl, rfl⟩ | ⟨xs, hp1, rfl, rfl, hm1, ho1, hvn, hxl⟩
  · go_wp2_with fail
    go_ret
    exact ⟨rfl, haw11.to_below⟩
  obtain ⟨k1, k2, k3, k4⟩ := pieces (m := m) HR.out.2.1 hp1
  have HX : Hid (Opts w10 va xs) := ho1.on (HAW2.out.next HAW10.out.1 (by simp))
  have HK1 : Hid (∀ x ∈ xs, 1 ≤ x.kd) := fun x hx => k1 x.o (List.mem_map_of_mem hx)
  have HK3 : Hid (tot (xs.map V.o) < l.length → parseP (l ++ m) = if zerosP m = true then some (xs.map V.o) else none) := k3
  have HK4 : Hid (¬ tot (xs.map V.o) < l.length → parseP (l ++ m) = (parseP m).map (xs.map V.o ++ ·)) := k4
  clear hm1 ho1 hp1 k1 k3 k4
  go_wp2_with fail
  refine (ended_c a l.length _ _ va xs _ _ _ rfl hu rfl (by exact HX.out) HK1.out (by omega)).mono ?_
  rintro E w' ⟨rfl, rfl⟩
  by_cases hend : tot (xs.map V.o) < l.length
  · rw [decide_eq_true hend]
    have h3 := HK3.out hend
    have H3 : Hid (parseP (l ++ m) = if zerosP m = true then some (xs.map V.o) else none) := h3
    have HSM : Hid (Row w' a' m) := HS.out.away haw11 (by simp)
    clear h3
    go_wp2_with fail
    go_loopw [12, 13] (fun z i wr => ∃ j : Nat, j ≤ m.length ∧ i = .int .i64 j ∧ z = .bool (zerosP (m.take j)) ∧ wr = w') (fun _ i _ => m.length - (intOf i).toNat)
    case atStart => exact ⟨0, by omega, rfl, rfl, rfl⟩
    case round =>
      obtain ⟨j, hj, rfl, rfl, hW⟩ := hrel
      have HW : Hid (wr = w') := hW
      have HSMr : Hid (Row wr a' m) := by show Row _ _ _; rw [hW]; exact HSM.out
      clear hW
      by_cases hlt : j < m.length
      · obtain ⟨b, off, rfl, c0⟩ := cells_row HSMr.out hlt
        have hstep : zerosP (m.take (j + 1)) = (zerosP (m.take j) && (m[j]?.getD 0 == 0)) := by
          rw [List.take_succ_eq_append_getElem hlt, zerosP_app, List.getElem?_eq_getElem hlt]
          simp [zerosP]
        have HST : Hid (zerosP (m.take (j + 1)) = (zerosP (m.take j) && (m[j]?.getD 0 == 0))) := hstep
        clear hstep
        generalize m[j]?.getD 0 = x at *
        generalize zerosP (m.take j) = z at *
        cases z
        · go_wp2_with fail
          go_roundw
          case rel => exact ⟨j + 1, by omega, by go_num, by rw [HST.out]; rfl, HW.out⟩
          case measure => simp [intOf]; omega
        · go_wp2_with fail
          go_roundw
          case rel => exact ⟨j + 1, by omega, by go_num, by rw [HST.out]; simp, HW.out⟩
          case measure => simp [intOf]; omega
      · have hjj : m.take j = m := List.take_of_length_le (by omega)
        rw [hjj]
        have HXr : Hid (Opts wr va xs) := by show Opts _ _ _; rw [HW.out]; exact HX.out
        have hawr : Away [] w wr := by rw [HW.out]; exact haw11
        rcases HD3.out with ⟨hp3, rfl, rfl⟩ | ⟨ys, hp3, rfl, rfl, hm3, ho3, hnn, hyl⟩
        · have hz : zerosP m = false := by
            rw [H3.out] at hp3
            by_cases h : zerosP m = true
            · rw [if_pos h] at hp3; simp at hp3
            · simpa using h
          rw [hz]
          go_wp2_with fail
          go_ret
          exact ⟨rfl, hawr.to_below⟩
        · have hz : zerosP m = true ∧ ys.map V.o = xs.map V.o := by
            rw [H3.out] at hp3
            by_cases h : zerosP m = true
            · rw [if_pos h] at hp3; exact ⟨h, (Option.some.inj hp3).symm⟩
            · rw [if_neg h] at hp3; simp at hp3
          obtain ⟨hz, hxy⟩ := hz
          rw [hz]
          have HY : Hid (Opts wr na ys) := by show Opts _ _ _; rw [HW.out]; exact ho3.on HAW10.out.2
          have HXY : Hid (ys.map V.o = xs.map V.o) := hxy
          clear hm3 ho3 hp3 hz hxy
          go_wp2_with fail
          refine (sameOpts_c na va ys xs _ _ _ _ _ rfl rfl (by exact HY.out) (by exact HXr.out)).mono ?_
          rintro E w12 ⟨rfl, n12, hw12⟩
          rw [decide_eq_true HXY.out]
          have haw12 : Away [] w w12 := by rw [hw12]; exact hawr.drewN _
          clear hw12
          go_wp2_with fail
          go_ret
          exact ⟨rfl, haw12.to_below⟩
  · rw [decide_eq_false hend]
    have h3 := HK4.out hend
    have H3 : Hid (parseP (l ++ m) = (parseP m).map (xs.map V.o ++ ·)) := h3
    clear h3
    rcases HD2.out with ⟨hp2, rfl, rfl⟩ | ⟨ms, hp2, rfl, rfl, hm2, ho2, hmn, hml⟩
    · rcases HD3.out with ⟨hp3, rfl, rfl⟩ | ⟨ys, hp3, rfl, rfl, hm3, ho3, hnn, hyl⟩
      · go_wp2_with fail
        go_ret
        exact ⟨rfl, haw11.to_below⟩
      · rw [H3.out, hp2] at hp3; simp at hp3
    · rcases HD3.out with ⟨hp3, rfl, rfl⟩ | ⟨ys, hp3, rfl, rfl, hm3, ho3, hnn, hyl⟩
      · rw [H3.out, hp2] at hp3; simp at hp3
      · have hxy : ys.map V.o = (xs ++ ms).map V.o := by
          rw [H3.out, hp2] at hp3
          simp only [Option.map_some, Option.some.injEq] at hp3
          rw [List.map_append]; exact hp3.symm
        have HXY : Hid (ys.map V.o = (xs ++ ms).map V.o) := hxy
        have HY : Hid (Opts w' na ys) := ho3.on HAW10.out.2
        have HM : Hid (Opts w' ma ms) := ho2.on HAW10.out.1
        clear hm2 hm3 ho2 ho3 hp2 hp3 hxy
        go_wp2_with (at_builtin; refine wpList_appO rfl _ _ rfl (.slice none 0 0) [] xs rfl (Lst.nil _) va _ _ rfl rfl hvn (by exact HX.out) (by simp; omega) ?_)
        intro v12 w12 hl12 haw12 hmov12
        have hl12 : Lst w12 v12 xs := by simpa using hl12
        have haw12 : Away [] w' w12 := haw12
        have hnew12 : New w'.heap.size v12 := fun j hj => by
          rcases hmov12 j hj with h | h
          · simp [Value.ownBlock] at h
          · exact h
        clear hmov12
        go_wp2_with (at_builtin; refine wpList_appO rfl _ _ rfl v12 xs ms rfl (by exact hl12) ma _ _ rfl rfl hmn (by exact HM.out.on haw12) (by omega) ?_)
        intro v13 w13 hl13 haw13 hmov13
        have haw14 : Away [] w' w13 := haw12.next haw13 (fun k hk => .inr (hnew12 k (by simpa using hk)))
        obtain ⟨ta, tc, rfl, htc, htn, hto, _⟩ := hl13.opts (by simp; omega) (fun x hx => by
          rcases List.mem_append.1 hx with hx | hx
          · exact (HX.out.2.1 x hx).on haw14
          · exact (HM.out.2.1 x hx).on haw14)
        have HT : Hid (Opts w13 ta (xs ++ ms)) := hto
        have HY13 : Hid (Opts w13 na ys) := HY.out.on haw14
        have haw15 := haw11.next haw14 (by simp)
        clear hl12 hl13 haw12 haw13 haw14 hmov13 hto
        go_wp2_with fail
        refine (sameOpts_c na ta ys (xs ++ ms) _ _ _ _ _ rfl (by simp) (by exact HY13.out) (by exact HT.out)).mono ?_
        rintro E w16 ⟨rfl, n16, hw16⟩
        rw [decide_eq_true HXY.out]
        have haw16 : Away [] w w16 := by rw [hw16]; exact haw15.drewN _
        clear hw16
        go_wp2_with fail
        go_ret
        exact ⟨rfl, haw16.to_below⟩
end optsPieces
namespace optsPieces
theorem contract (H : Type) (enc : TypeId × Value → H) (W : World) (base : Nat) (args : Array Value) (ds gs : List (DataW H)) (before : List MemPlace)
    (hval0 : ∀ (j : Nat) t v, Tryd.f5.params[j]? = some t → args[j]? = some v → Value.okWide Tryd.prog W .any base t v)
    (hW : DataW.Whole enc Tryd.prog Tryd.f5.params.toList Rows.optsPiecesSpec.vars false W args.toList ds gs before) (hk : Rows.uptoSmall H (ds ++ gs) = true)
    (hsz0 : (DataW.weightsEach Tryd.prog (Tryd.f5.params.toList ++ Rows.optsPiecesSpec.plain.varTypes Tryd.prog) (ds ++ gs)).all (· ≤ reachBytes) = true)
    (hL : laidMetH Tryd.prog Rows.optsPiecesUptoRow.laid W) :
    Calls Tryd.prog 5 args W fun e W' => ∃ v, e = .returned v ∧ Rows.optsPiecesSpec.post enc Tryd.prog Tryd.f5 false true false false W args v W' := by
  have hval := hval0
  have hsz := hsz0
  have hW' := hW
  obtain ⟨p, q, hA0, hV, rfl, hfz, hnd⟩ := hW
  have hA : DataW.TrodAll enc Tryd.prog W 0 (fun _ => true) true Tryd.f5.params.toList args.toList ds p := hA0
  rw [Tryd.params5] at hA hval hsz
  obtain ⟨v0, vs0, d0, ds0, p0, q0, hargs, rfl, rfl, h0, r0⟩ := trodAll_cons hA
  obtain ⟨v1, vs1, d1, ds1, p1, q1, rfl, rfl, rfl, h1, r1⟩ := trodAll_cons r0
  obtain ⟨rfl, rfl, rfl⟩ := trodAll_nil r1
  obtain rfl : args = #[v0, v1] := by cases args; simp_all
  obtain ⟨rfl, rfl⟩ := trodVars_none hV
  have k0 := h0
  have lt0 : ∀ x ∈ p0, x.block < W.heap.size := by obtain ⟨m, hm⟩ := k0; exact DataW.trod_lt m _ _ _ hm
  obtain ⟨a0, len0, cap0, rfl⟩ := okWide_slice Tryd.underlying22 (hval 0 22 v0 rfl rfl)
  have z0 : ∀ m ∈ d0.weights Tryd.prog 22, m ≤ reachBytes := fun m hm => by
    have := List.all_eq_true.1 hsz m (DataW.weights_mem_each (j := 0) (t := 22) rfl rfl m hm)
    simpa using this
  obtain ⟨l0, rfl, c0, _, w0, n0, u0⟩ := open_bytes h0 z0
  have k1 := h1
  have lt1 : ∀ x ∈ p1, x.block < W.heap.size := by obtain ⟨m, hm⟩ := k1; exact DataW.trod_lt m _ _ _ hm
  obtain ⟨a1, len1, cap1, rfl⟩ := okWide_slice Tryd.underlying22 (hval 1 22 v1 rfl rfl)
  have z1 : ∀ m ∈ d1.weights Tryd.prog 22, m ≤ reachBytes := fun m hm => by
    have := List.all_eq_true.1 hsz m (DataW.weights_mem_each (j := 1) (t := 22) rfl rfl m hm)
    simpa using this
  obtain ⟨l1, rfl, c1, _, w1, n1, u1⟩ := open_bytes h1 z1
  clear hA0 hval0
  refine (walk a0 l0 cap0 a1 l1 cap1 W (glob_of hL) c0 w0 n0 (Nat.le_trans u0 (small_mem hk (by simp))) c1 w1 n1 (Nat.le_trans u1 (small_mem hk (by simp)))).mono fun e W' ⟨he, bel⟩ => ?_
  subst he
  exact ⟨_, rfl, _, _, _, [], _, [], hW', trodAll_mk1 (shut_bool Tryd.underlying4 _), (trodAll_cons_mk (Below.trod laidOut (by kernel_rfl) (of_decide_eq_true (by kernel_rfl)) k0 bel lt0) (trodAll_cons_mk (Below.trod laidOut (by kernel_rfl) (of_decide_eq_true (by kernel_rfl)) k1 bel lt1) trodAll_mk0)), rfl, bel.frame _, fun h => by cases h⟩
theorem laid_met (os : Os) : laidMet Tryd.prog Rows.optsPiecesUptoRow.laid ((laidWorld Tryd.prog os).forCall (fun _ _ => 0) ⟨#[], #[.slice none 0 0, .slice none 0 0], []⟩).memory :=
  laidMet_of_run' 8 (by kernel_rfl) (by kernel_rfl)
theorem reads (os : Os) {H : Type} (enc : TypeId × Value → H) : ∃ places, DataW.whole enc Tryd.prog ((laidWorld Tryd.prog os).forCall (fun _ _ => 0) ⟨#[], #[.slice none 0 0, .slice none 0 0], []⟩).memory Tryd.f5.params.toList Rows.optsPiecesSpec.vars false #[.slice none 0 0, .slice none 0 0].toList 8 = some ([.nil, .nil], [], places) :=
  ⟨[], by kernel_rfl⟩
theorem lifted (os : Os) (started : os.Started) (H : Type) (enc : TypeId × Value → H) (F : Stop.Interp) :
    ReturnsInHanded {} Tryd.checked os 5 .any ((Rows.OpenSpec.upto Rows.optsPiecesSpec).preRow enc Tryd.prog Tryd.f5 Rows.optsPiecesUptoRow.domain false Rows.optsPiecesUptoRow.laid) (((Rows.OpenSpec.upto Rows.optsPiecesSpec).at F).post enc Tryd.prog Tryd.f5 false true false false) := by
  obtain ⟨places, hx⟩ := reads os enc
  refine returnsInHanded_of_row (C := Tryd.checked) (s := Rows.OpenSpec.upto Rows.optsPiecesSpec) ownKn started (by kernel_rfl) Tryd.func5
    (witness_row_at (enc := enc) (C := Tryd.checked) false (laidWorld Tryd.prog os) #[.slice none 0 0, .slice none 0 0] rfl (by kernel_rfl) (by kernel_rfl) (by kernel_rfl)
      (OpenSpec.preRow_of_cond 8 hx (by kernel_rfl) (fun k hk => by cases hk; kernel_rfl) (by kernel_rfl) (laid_met os))) ?_
  intro W base args ds gs before hval hW _ hcond hsz hL hS _
  exact contract H enc W base args ds gs before hval hW (hcond _ rfl) hsz hL
theorem said : Rows.OptsPiecesUptoSaid :=
  OpenClaim.holds_of_cond 5 Tryd.f5 rfl rfl rfl rfl rfl rfl rfl ⟨rfl, rfl, rfl, rfl, rfl⟩ rfl rfl rfl rfl rfl (by kernel_rfl) Tryd.func5 (by kernel_rfl)
    (of_decide_eq_true (by kernel_rfl)) (by unfold Func.isWrapper; first | (rw [if_pos (by decide +kernel)]; kernel_rfl) | (rw [if_neg (by decide +kernel)]; exact ⟨rfl, rfl⟩))
    (fun os started H enc _ F => by rw [OpenClaim.pre_eq_preRow]; exact lifted os started H enc F)
theorem plain (f : FuncId) (fn : Func) (hf : Tryd.pinned.checked.prog.funcNamed "mosaic/mosaiclaw04.OptsPieces" = some f) (hfn : Tryd.pinned.checked.prog.funcs[f]? = some fn) :
    false = Tryd.pinned.checked.prog.looks [] ∧ ∀ (j : Nat) t, fn.params[j]? = some t → Tryd.pinned.checked.prog.wantsStandIn t = false := by
  obtain rfl : f = 5 := Option.some.inj ((show Tryd.prog.funcNamed "mosaic/mosaiclaw04.OptsPieces" = some 5 by kernel_rfl).symm.trans hf) |>.symm
  obtain rfl : fn = Tryd.f5 := (Option.some.inj (Tryd.func5.symm.trans hfn)).symm
  refine ⟨by kernel_rfl, fun j t ht => ?_⟩
  rw [Tryd.params5] at ht
  have hm := Array.mem_of_getElem? ht
  simp only [List.mem_toArray, List.mem_cons, List.not_mem_nil, or_false] at hm
  have h22 : Tryd.prog.wantsStandIn 22 = false := by kernel_rfl
  have h23 : Tryd.prog.wantsStandIn 23 = false := by kernel_rfl
  rcases hm with rfl | rfl
  all_goals first | exact h22 | exact h23
theorem card : Rows.OptsPiecesUptoCardSaid :=
  Claim7.holds_tied_plain_at .later [] _ _ _ _ said (fun _ h => by cases h) (by kernel_rfl) (fun _ h => by cases h) optsPiecesUpto_row_tie rfl ⟨rfl, rfl⟩ (by kernel_rfl) rfl plain (by kernel_rfl)
end optsPieces
theorem optsPiecesUpto_holds : Rows.OptsPiecesUptoCardSaid := optsPieces.card
#print axioms optsPiecesUpto_holds
end Go.Proofs.YtokhmlpajfhbpaaDoor
