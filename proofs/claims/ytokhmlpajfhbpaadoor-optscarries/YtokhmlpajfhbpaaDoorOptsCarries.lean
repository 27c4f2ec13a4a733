/-
  OptsCarries (P4.8): what is carried, and carried again.
-/
import Derived.Test.YtokhmlpajfhbpaaDoorFit
namespace Go.Proofs.YtokhmlpajfhbpaaDoor
open Go.ChangeShapes Go.WideShapes Go.ChangeAt Go.RowKit Go.Deep
set_option linter.unusedVariables false
set_option maxRecDepth 100000
namespace optsCarries
theorem right_map {xs : List V} (h : ∀ x ∈ xs, rightB x.o = true) : ∀ o ∈ xs.map V.o, rightB o = true := fun o ho => by obtain ⟨x, hx, rfl⟩ := List.mem_map.1 ho; exact h x hx
theorem bytes_map {w : World} {B : Nat} {v : Value} {xs : List V} (h : Made w B v xs) : ∀ o ∈ xs.map V.o, Bytes o.2 := fun o ho => by obtain ⟨x, hx, rfl⟩ := List.mem_map.1 ho; exact (h.each x hx).2.2.1
set_option maxHeartbeats 4000000 in
theorem walk (a : Option Addr) (ls : List V) (c : Nat) (a' : Option Addr) (l : List Int) (c' : Nat) (w : World) (hg : Glob w) (hc : ls.length ≤ c) (ho : Opts w a ls) (hc' : l.length ≤ c') (hr : Row w a' l) (hn : a' = none → c' = 0) :
    Calls Tryd.prog 7 #[.slice a ls.length c, .slice a' l.length c'] w fun e w' => e = .returned (.bool true) ∧ Below w.heap.size w w' := by
  have HG : Hid (Glob w) := hg
  have HO : Hid (Opts w a ls) := ho
  have HR : Hid (Row w a' l) := hr
  have hl63 := hr.1
  clear hg ho hr
  go_enter Tryd.func7, Tryd.ntmps7
  go_wp2_with fail
  refine (fitting_c a ls _ _ _ rfl (by exact HO.out)).mono ?_
  rintro E w1 ⟨v, xs, rfl, hm, hright, htot, haw1⟩
  have hxl : xs.length ≤ 40 := by have := len_tot xs; omega
  obtain ⟨va, vc, rfl, hvc, hvn, hopts, _⟩ := hm.opts (by omega)
  have HX : Hid (Opts w1 va xs) := hopts
  have hrm := right_map hright
  have hB := buildP_ok hrm htot
  have hlb := laid_bytes hrm (bytes_map hm)
  have HC : Hid (carryP (laidP (xs.map V.o)) = laidP ((xs.filter big).map V.o)) := by
    show _ = _
    rw [carry_laid hrm htot, filter_map]
  have hfr : ∀ o ∈ (xs.filter big).map V.o, rightB o = true := by rw [filter_map]; exact right_filter _ hrm
  have hft : tot ((xs.filter big).map V.o) ≤ tot (xs.map V.o) := by rw [filter_map]; exact tot_filter _ _
  have hfb : ∀ o ∈ (xs.filter big).map V.o, Bytes o.2 := by
    rw [filter_map]; exact fun o ho => bytes_map hm o (List.mem_filter.1 ho).1
  have HP : Hid (parseP (laidP ((xs.filter big).map V.o)) = some ((xs.filter big).map V.o)) := parse_laidP hfr
  have HV : Hid (validP (laidP ((xs.filter big).map V.o)) = true) := valid_laid hfr (by omega)
  have HT : Hid (carryP (laidP ((xs.filter big).map V.o)) = laidP ((xs.filter big).map V.o)) := by
    show _ = _
    have h1 := carry_twice hlb
    rw [HC.out] at h1; exact h1
  have hL : (laidP (xs.map V.o)).length ≤ 40 ∧ (laidP ((xs.filter big).map V.o)).length ≤ (laidP (xs.map V.o)).length := by
    rw [laidP_len, laidP_len]; exact ⟨fill40 htot, fill_mono hft⟩
  have hlb2 := laid_bytes hfr hfb
  have HB : Hid (buildP (xs.map V.o) = (laidP (xs.map V.o), 0)) := hB
  have HOKS : Hid (∀ x ∈ xs, x.ok w1) := hm.ok
  clear hm hopts hright htot hB hrm hfr hft hfb
  go_wp2_with fail
  refine (build_c va xs _ _ _ rfl (by exact HX.out) (by exact HG.out.on haw1)).mono ?_
  rintro E w2 ⟨haw2, v2, rfl, hown2, hnew2⟩
  rw [HB.out] at hown2 ⊢
  simp only at hown2 ⊢
  generalize laidP (xs.map V.o) = L at *
  generalize hD : laidP ((xs.filter big).map V.o) = D at *
  clear hD
  obtain ⟨hL1, hL2⟩ := hL
  obtain ⟨ba, bc, rfl, hbc, hbn, hbr, _⟩ := hown2.row (by omega) hlb
  have haw3 := haw1.next haw2 (by simp)
  have HX2 : Hid (Opts w2 va xs) := HX.out.on haw2
  have HOK2 : Hid (∀ x ∈ xs, x.ok w2) := fun x hx => (HOKS.out x hx).on haw2
  have HBR : Hid (Row w2 ba L) := hbr
  clear hown2 hnew2 haw1 haw2 hbr
  go_wp2_with fail
  refine (carry_c ba L _ _ _ rfl hbc (by exact HBR.out) (by exact HG.out.on haw3)).mono ?_
  rintro E w4 ⟨v4, rfl, hown4, hnew4, haw4⟩
  rw [HC.out] at hown4
  obtain ⟨da, dc, rfl, hdc, hdn, hdr, _⟩ := hown4.row (by omega) hlb2
  have haw5 := haw3.next haw4 (by simp)
  have HX4 : Hid (Opts w4 va xs) := HX2.out.on haw4
  have HOK4 : Hid (∀ x ∈ xs, x.ok w4) := fun x hx => (HOK2.out x hx).on haw4
  have HD4 : Hid (Row w4 da D) := hdr
  clear hown4 hnew4 haw3 haw4 hdr
  go_wp2_with fail
  refine (parse_c da D _ _ _ rfl hdc (by omega) (by exact HD4.out) (by exact HG.out.on haw5)).mono ?_
  rintro E w6 ⟨haw6, ⟨hp, rfl⟩ | ⟨v6, ys, hp, rfl, hm6, hyl⟩⟩
  · rw [HP.out] at hp; simp at hp
  rw [HP.out] at hp
  have hxy : (xs.filter big).map V.o = ys.map V.o := Option.some.inj hp
  have HXY : Hid (ys.map V.o = (xs.filter big).map V.o) := hxy.symm
  obtain ⟨ya, yc, rfl, hyc, hyn, hyo, _⟩ := hm6.opts (by omega)
  have HY : Hid (Opts w6 ya ys) := hyo
  have HX6 : Hid (Opts w6 va xs) := HX4.out.on haw6
  have HOK6 : Hid (∀ x ∈ xs, x.ok w6) := fun x hx => (HOK4.out x hx).on haw6
  have HD6 : Hid (Row w6 da D) := HD4.out.away haw6 (by simp)
  have haw7 := haw5.next haw6 (by simp)
  have hs7 := haw7.size
  clear hp hxy hm6 hyo haw5 haw6
  go_wp2_with fail
  go_loopw [11, 12] (fun u i wr => ∃ k : Nat, k ≤ xs.length ∧ i = .int .i64 k ∧ Lst wr u ((xs.take k).filter big) ∧ New w6.heap.size u ∧ Away [] w6 wr) (fun _ i _ => xs.length - (intOf i).toNat)
  case atStart => exact ⟨0, by omega, rfl, Lst.nil _, New.nil _, Away.refl _ _⟩
  case round =>
    obtain ⟨k, hk, rfl, hlst, hnew, haw⟩ := hrel
    have hflen : ((xs.take k).filter big).length ≤ k := Nat.le_trans (List.length_filter_le _ _) (by simp; omega)
    by_cases hlt : k < xs.length
    · obtain ⟨x, hx, hmem⟩ := get_of_lt hlt
      have hoo := HX6.out.on haw
      obtain ⟨b, off, rfl, c0, c1, _⟩ := cells_opts hoo hx
      have hsnoc : Hid ((xs.take (k + 1)).filter big = (xs.take k).filter big ++ (if big x then [x] else [])) := by
        show _ = _
        rw [take_snoc hx, List.filter_append]
        congr 1
        by_cases hb : big x = true
        · rw [if_pos hb, List.filter_cons_of_pos hb]; rfl
        · rw [if_neg hb, List.filter_cons_of_neg hb]; rfl
      have hs4 := haw.size
      have HL : Hid (((xs.take k).filter big).length ≤ k) := hflen
      clear hoo hx hflen
      generalize (xs.take k).filter big = fs at *
      obtain ⟨kd, ba2, bc2, d⟩ := x
      simp only at c0 c1
      by_cases hb : 128 ≤ kd
      · have hbd : decide (128 ≤ kd) = true := by simp [hb]
        have hsn : Hid ((xs.take (k + 1)).filter big = fs ++ [⟨kd, ba2, bc2, d⟩]) := by
          show _ = _
          rw [hsnoc.out, if_pos (show big ⟨kd, ba2, bc2, d⟩ = true from hbd)]
        clear hsnoc
        go_wp2_with (at_builtin; refine wpList_app2 rfl _ _ rfl _ fs.length (fs.flatMap V.cells) rfl (by exact hlst.away ((Away.refl [] _).alloc _) (by simp)) ⟨_, 0, none⟩ 1 rfl (.int .i64 kd) (.slice ba2 d.length bc2) (by rw [World.cell?_alloc_at (hn := rfl)]; rfl) (by rw [add_plain, World.cell?_alloc_at (hn := rfl)]; rfl) rfl rfl (by have := HL.out; omega) ?_)
        intro v' w8 hown8 hgr hmov
        have hl8 : Lst w8 v' (fs ++ [⟨kd, ba2, bc2, d⟩]) := Lst.snoc hown8
        have hnew8 : New w6.heap.size v' := hnew.moved hmov (by simp; omega)
        have haw8 : Away [] w6 w8 := (haw.alloc _).grown hgr (fun k hk => .inr (hnew k hk))
        clear hgr hmov hown8 hlst haw
        go_wp2_with fail
        go_roundw
        case rel => exact ⟨k + 1, by omega, by go_num, by rw [hsn.out]; exact hl8, hnew8, haw8⟩
        case measure => simp [intOf]; omega
      · have hbd : decide (128 ≤ kd) = false := by simp; omega
        have hsn : Hid ((xs.take (k + 1)).filter big = fs) := by
          show _ = _
          rw [hsnoc.out, if_neg (show ¬ big ⟨kd, ba2, bc2, d⟩ = true from by rw [show big ⟨kd, ba2, bc2, d⟩ = false from hbd]; simp)]; simp
        clear hsnoc
        go_wp2_with fail
        go_roundw
        case rel => exact ⟨k + 1, by omega, by go_num, by rw [hsn.out]; exact hlst, hnew, haw⟩
        case measure => simp [intOf]; omega
    · have hkk : xs.take k = xs := List.take_of_length_le (by omega)
      rw [hkk] at hlst
      have hfl : (xs.filter big).length ≤ 40 := by have := List.length_filter_le big xs; omega
      obtain ⟨fa, fc, rfl, hfc, hfn, hfo, _⟩ := hlst.opts (by omega) (fun x hx => (HOK6.out x (List.mem_filter.1 hx).1).on haw)
      have HF : Hid (Opts wr fa (xs.filter big)) := hfo
      have HYr : Hid (Opts wr ya ys) := HY.out.on haw
      have HDr : Hid (Row wr da D) := HD6.out.away haw (by simp)
      have haw8 := haw7.next haw (by simp)
      clear hlst hfo haw hnew
      generalize xs.filter big = fs at *
      go_wp2_with fail
      refine (known_c _ (by exact HG.out.on haw8)).mono ?_
      rintro E w9 ⟨rfl, haw9⟩
      have HF9 : Hid (Opts w9 fa fs) := HF.out.on haw9
      have HY9 : Hid (Opts w9 ya ys) := HYr.out.on haw9
      have HD9 : Hid (Row w9 da D) := HDr.out.away haw9 (by simp)
      have haw10 := haw8.next haw9 (by simp)
      clear haw8 haw9
      go_wp2_with fail
      refine (sameOpts_c ya fa ys fs _ _ _ _ _ rfl rfl (by exact HY9.out) (by exact HF9.out)).mono ?_
      rintro E w11 ⟨rfl, n11, hw11⟩
      rw [decide_eq_true HXY.out]
      have hawd : Away [] w9 w11 := by rw [hw11]; exact (Away.refl [] _).drewN _
      have haw11 := haw10.next hawd (by simp)
      have HD11 : Hid (Row w11 da D) := HD9.out.away hawd (by simp)
      clear hw11 hawd haw10
      go_wp2_with fail
      refine (valid_c da D _ _ _ rfl hdc (by exact HD11.out) (by exact HG.out.on haw11)).mono ?_
      rintro E w12 ⟨rfl, haw12⟩
      rw [HV.out]
      have HD12 : Hid (Row w12 da D) := HD11.out.away haw12 (by simp)
      have haw13 := haw11.next haw12 (by simp)
      have b1 : decide ((L.length : Int) < (D.length : Int)) = false := by simp; omega
      clear haw11 haw12
      go_wp2_with fail
      refine (carry_c da D _ _ _ rfl hdc (by exact HD12.out) (by exact HG.out.on haw13)).mono ?_
      rintro E w14 ⟨v14, rfl, hown14, hnew14, haw14⟩
      rw [HT.out] at hown14
      obtain ⟨ea, ec, rfl, hec, hen, her, _⟩ := hown14.row (by omega) hlb2
      have HE14 : Hid (Row w14 ea D) := her
      have HD14 : Hid (Row w14 da D) := HD12.out.away haw14 (by simp)
      have haw15 := haw13.next haw14 (by simp)
      clear hown14 hnew14 haw13 haw14 her
      go_wp2_with fail
      refine (same_b (z := true) _ _ D D _ _ _ _ _ rfl rfl (by exact HE14.out) (by exact HD14.out) (by simp)).mono ?_
      rintro E w16 ⟨rfl, n16, hw16⟩
      have haw16 : Away [] w w16 := by rw [hw16]; exact haw15.drewN _
      have HR16 : Hid (Row w16 a' l) := HR.out.away haw16 (by simp)
      clear hw16 haw15
      obtain ⟨q1, q2, q3, q4⟩ := carry_valid HR.out.2.1
      have HQ : Hid (carryP (carryP l) = carryP l) := carry_twice HR.out.2.1
      have HQ1 : Hid (validP (carryP l) = true) := q1
      clear q1
      go_wp2_with fail
      refine (carry_c a' l _ _ _ rfl hc' (by exact HR16.out) (by exact HG.out.on haw16)).mono ?_
      rintro E w17 ⟨v17, rfl, hown17, hnew17, haw17⟩
      generalize carryP l = X at *
      obtain ⟨xa, xc, rfl, hxc, hxn, hxr, _⟩ := hown17.row (by omega) q3
      have haw18 := haw16.next haw17 (by simp)
      have HX17 : Hid (Row w17 xa X) := hxr
      have b2 : decide ((X.length : Int) ≤ (l.length : Int)) = true := by simp; omega
      clear hown17 hnew17 haw16 haw17 hxr
      go_wp2_with fail
      refine (valid_c xa X _ _ _ rfl hxc (by exact HX17.out) (by exact HG.out.on haw18)).mono ?_
      rintro E w19 ⟨rfl, haw19⟩
      rw [HQ1.out]
      have HX19 : Hid (Row w19 xa X) := HX17.out.away haw19 (by simp)
      have haw20 := haw18.next haw19 (by simp)
      clear haw18 haw19
      go_wp2_with fail
      refine (carry_c xa X _ _ _ rfl hxc (by exact HX19.out) (by exact HG.out.on haw20)).mono ?_
      rintro E w21 ⟨v21, rfl, hown21, hnew21, haw21⟩
      rw [HQ.out] at hown21
      obtain ⟨za, zc, rfl, hzc, hzn, hzr, _⟩ := hown21.row (by omega) q3
      have HZ : Hid (Row w21 za X) := hzr
      have HX21 : Hid (Row w21 xa X) := HX19.out.away haw21 (by simp)
      have haw22 := haw20.next haw21 (by simp)
      clear hown21 hnew21 haw20 haw21 hzr
      go_wp2_with fail
      refine (same_b (z := true) _ _ X X _ _ _ _ _ rfl rfl (by exact HZ.out) (by exact HX21.out) (by simp)).mono ?_
      rintro E w23 ⟨rfl, n23, hw23⟩
      have haw24 : Away [] w w23 := by rw [hw23]; exact haw22.drewN _
      clear hw23
      go_wp2_with fail
      go_ret
      exact ⟨rfl, haw24.to_below⟩
end optsCarries
namespace optsCarries
theorem contract (H : Type) (enc : TypeId × Value → H) (W : World) (base : Nat) (args : Array Value) (ds gs : List (DataW H)) (before : List MemPlace)
    (hval0 : ∀ (j : Nat) t v, Tryd.f7.params[j]? = some t → args[j]? = some v → Value.okWide Tryd.prog W .any base t v)
    (hW : DataW.Whole enc Tryd.prog Tryd.f7.params.toList Rows.optsCarriesSpec.vars false W args.toList ds gs before)
    (hsz0 : (DataW.weightsEach Tryd.prog (Tryd.f7.params.toList ++ Rows.optsCarriesSpec.plain.varTypes Tryd.prog) (ds ++ gs)).all (· ≤ reachBytes) = true)
    (hL : laidMetH Tryd.prog Rows.optsCarriesRow.laid W) :
    Calls Tryd.prog 7 args W fun e W' => ∃ v, e = .returned v ∧ Rows.optsCarriesSpec.post enc Tryd.prog Tryd.f7 false true false false W args v W' := by
  have hval := hval0
  have hsz := hsz0
  have hW' := hW
  obtain ⟨p, q, hA0, hV, rfl, hfz, hnd⟩ := hW
  have hA : DataW.TrodAll enc Tryd.prog W 0 (fun _ => true) true Tryd.f7.params.toList args.toList ds p := hA0
  rw [Tryd.params7] at hA hval hsz
  obtain ⟨v0, vs0, d0, ds0, p0, q0, hargs, rfl, rfl, h0, r0⟩ := trodAll_cons hA
  obtain ⟨v1, vs1, d1, ds1, p1, q1, rfl, rfl, rfl, h1, r1⟩ := trodAll_cons r0
  obtain ⟨rfl, rfl, rfl⟩ := trodAll_nil r1
  obtain rfl : args = #[v0, v1] := by cases args; simp_all
  obtain ⟨rfl, rfl⟩ := trodVars_none hV
  have k0 := h0
  have lt0 : ∀ x ∈ p0, x.block < W.heap.size := by obtain ⟨m, hm⟩ := k0; exact DataW.trod_lt m _ _ _ hm
  obtain ⟨a0, len0, cap0, rfl⟩ := okWide_slice Tryd.underlying23 (hval 0 23 v0 rfl rfl)
  have z0 : ∀ m ∈ d0.weights Tryd.prog 23, m ≤ reachBytes := fun m hm => by
    have := List.all_eq_true.1 hsz m (DataW.weights_mem_each (j := 0) (t := 23) rfl rfl m hm)
    simpa using this
  obtain ⟨l0, rfl, c0, w0, u0⟩ := open_opts h0 z0
  have k1 := h1
  have lt1 : ∀ x ∈ p1, x.block < W.heap.size := by obtain ⟨m, hm⟩ := k1; exact DataW.trod_lt m _ _ _ hm
  obtain ⟨a1, len1, cap1, rfl⟩ := okWide_slice Tryd.underlying22 (hval 1 22 v1 rfl rfl)
  have z1 : ∀ m ∈ d1.weights Tryd.prog 22, m ≤ reachBytes := fun m hm => by
    have := List.all_eq_true.1 hsz m (DataW.weights_mem_each (j := 1) (t := 22) rfl rfl m hm)
    simpa using this
  obtain ⟨l1, rfl, c1, _, w1, n1, u1⟩ := open_bytes h1 z1
  clear hA0 hval0
  refine (walk a0 l0 cap0 a1 l1 cap1 W (glob_of hL) c0 w0 c1 w1 n1).mono fun e W' ⟨he, bel⟩ => ?_
  subst he
  exact ⟨_, rfl, _, _, _, [], _, [], hW', trodAll_mk1 (shut_bool Tryd.underlying4 _), (trodAll_cons_mk (Below.trod laidOut (by kernel_rfl) (of_decide_eq_true (by kernel_rfl)) k0 bel lt0) (trodAll_cons_mk (Below.trod laidOut (by kernel_rfl) (of_decide_eq_true (by kernel_rfl)) k1 bel lt1) trodAll_mk0)), rfl, bel.frame _, fun h => by cases h⟩
theorem laid_met (os : Os) : laidMet Tryd.prog Rows.optsCarriesRow.laid ((laidWorld Tryd.prog os).forCall (fun _ _ => 0) ⟨#[], #[.slice none 0 0, .slice none 0 0], []⟩).memory :=
  laidMet_of_run' 8 (by kernel_rfl) (by kernel_rfl)
theorem reads (os : Os) {H : Type} (enc : TypeId × Value → H) : ∃ places, DataW.whole enc Tryd.prog ((laidWorld Tryd.prog os).forCall (fun _ _ => 0) ⟨#[], #[.slice none 0 0, .slice none 0 0], []⟩).memory Tryd.f7.params.toList Rows.optsCarriesSpec.vars false #[.slice none 0 0, .slice none 0 0].toList 8 = some ([.nil, .nil], [], places) :=
  ⟨[], by kernel_rfl⟩
theorem lifted (os : Os) (started : os.Started) (H : Type) (enc : TypeId × Value → H) (F : Stop.Interp) :
    ReturnsInHanded {} Tryd.checked os 7 .any ((OpenSpec.ofChange Rows.optsCarriesSpec).preRow enc Tryd.prog Tryd.f7 Rows.optsCarriesRow.domain false Rows.optsCarriesRow.laid) (((OpenSpec.ofChange Rows.optsCarriesSpec).at F).post enc Tryd.prog Tryd.f7 false true false false) := by
  obtain ⟨places, hx⟩ := reads os enc
  refine returnsInHanded_of_row (C := Tryd.checked) (s := OpenSpec.ofChange Rows.optsCarriesSpec) ownKn started (by kernel_rfl) Tryd.func7
    (witness_row_at (enc := enc) (C := Tryd.checked) false (laidWorld Tryd.prog os) #[.slice none 0 0, .slice none 0 0] rfl (by kernel_rfl) (by kernel_rfl) (by kernel_rfl)
      (OpenSpec.preRow_of_cond 8 hx (by kernel_rfl) (fun k hk => by cases hk) (by kernel_rfl) (laid_met os))) ?_
  intro W base args ds gs before hval hW _ hcond hsz hL hS _
  exact contract H enc W base args ds gs before hval hW hsz hL
theorem said : Rows.OptsCarriesSaid :=
  OpenClaim.holds_of_cond 7 Tryd.f7 rfl rfl rfl rfl rfl rfl rfl ⟨rfl, rfl, rfl, rfl, rfl⟩ rfl rfl rfl rfl rfl (by kernel_rfl) Tryd.func7 (by kernel_rfl)
    (of_decide_eq_true (by kernel_rfl)) (by unfold Func.isWrapper; first | (rw [if_pos (by decide +kernel)]; kernel_rfl) | (rw [if_neg (by decide +kernel)]; exact ⟨rfl, rfl⟩))
    (fun os started H enc _ F => by rw [OpenClaim.pre_eq_preRow]; exact lifted os started H enc F)
theorem plain (f : FuncId) (fn : Func) (hf : Tryd.pinned.checked.prog.funcNamed "mosaic/mosaiclaw04.OptsCarries" = some f) (hfn : Tryd.pinned.checked.prog.funcs[f]? = some fn) :
    false = Tryd.pinned.checked.prog.looks [] ∧ ∀ (j : Nat) t, fn.params[j]? = some t → Tryd.pinned.checked.prog.wantsStandIn t = false := by
  obtain rfl : f = 7 := Option.some.inj ((show Tryd.prog.funcNamed "mosaic/mosaiclaw04.OptsCarries" = some 7 by kernel_rfl).symm.trans hf) |>.symm
  obtain rfl : fn = Tryd.f7 := (Option.some.inj (Tryd.func7.symm.trans hfn)).symm
  refine ⟨by kernel_rfl, fun j t ht => ?_⟩
  rw [Tryd.params7] at ht
  have hm := Array.mem_of_getElem? ht
  simp only [List.mem_toArray, List.mem_cons, List.not_mem_nil, or_false] at hm
  have h22 : Tryd.prog.wantsStandIn 22 = false := by kernel_rfl
  have h23 : Tryd.prog.wantsStandIn 23 = false := by kernel_rfl
  rcases hm with rfl | rfl
  all_goals first | exact h22 | exact h23
theorem card : Rows.OptsCarriesCardSaid :=
  Claim7.holds_tied_plain_at .later [] _ _ _ _ said (fun _ h => by cases h) (by kernel_rfl) (fun _ h => by cases h) optsCarries_row_tie rfl ⟨rfl, rfl⟩ (by kernel_rfl) rfl plain (by kernel_rfl)
end optsCarries
theorem optsCarries_holds : Rows.OptsCarriesCardSaid := optsCarries.card
#print axioms optsCarries_holds
end Go.Proofs.YtokhmlpajfhbpaaDoor
