/-
  RouteFinds.
-/
import Derived.Test.YtoifolmcdkfniaaFa
namespace Go.Proofs.Ytoifolmcdkfniaa
open Go.ChangeShapes Go.WideShapes Go.ChangeAt Go.RowKit Go.Deep
set_option linter.unusedVariables false
set_option linter.unusedSimpArgs false
set_option maxRecDepth 100000

namespace routeFinds
set_option maxHeartbeats 16000000 in
theorem walk (a : Option Addr) (L : List Rt) (cap : Nat) (da : Option Addr) (D : List Ax) (dcap : Nat) (W : World) (hr : Rd W (.slice a L.length cap) L) (hl : L.length ≤ 3518437208780) (hd : RowA W da D) (hdl : D.length ≤ 5864062014635) (hg : Glob W) :
    Calls Try.prog 5 #[.slice a L.length cap, .slice da D.length dcap] W fun E w' => E = .returned (.bool true) ∧ Below W.heap.size W w' := by
  have HR := Lib.hid hr
  have HOK := Lib.hid hr.ok
  have HD := Lib.hid hd
  have HG := Lib.hid hg
  obtain ⟨n, hn⟩ : ∃ n, n = L.length := ⟨_, rfl⟩
  obtain ⟨m, hm⟩ : ∃ m, m = D.length := ⟨_, rfl⟩
  rw [← hn] at hl HR ⊢
  rw [← hm] at hdl ⊢
  have HN := Lib.hid hn
  have HM := Lib.hid hm
  have HOW := Lib.hid (own_c HR.out (by rw [← HN.out]; omega))
  clear hr hd hg hn hm
  go_enter Try.func5, Try.ntmps5
  go_wp2_with (go_at_call 8; refine HOW.out.mono ?_; refine Hid.out ?_)
  refine Lib.hid ?_
  rintro E w1 ⟨v1, rfl, hown, -, haw⟩
  have HA := Lib.hid haw
  have HNE := Lib.hid (newO_c (hown.rd HOK.out) (by rw [← HN.out]; omega))
  obtain ⟨va, vc, rfl, -⟩ := hown.sl
  rw [← HN.out] at HNE ⊢
  clear hown haw HOW
  go_wp2_with (go_at_call 7; refine HNE.out.mono ?_; refine Hid.out ?_)
  refine Lib.hid ?_
  rintro E w2 ⟨tv, e, rfl, ht, haw⟩
  replace HA := Lib.hid (HA.out.trans haw)
  have HT := Lib.hid ht
  have HK := Lib.hid (known_c w2 (HG.out.aw HA.out))
  clear ht haw HNE
  go_wp2_with (go_at_call 9; refine HK.out.mono ?_; refine Hid.out ?_)
  refine Lib.hid ?_
  rintro E w3 ⟨rfl, haw⟩
  replace HA := Lib.hid (HA.out.trans haw)
  replace HT := Lib.hid (HT.out.on haw)
  have HMA := Lib.hid (may_c (HR.out.on HA.out) (by rw [← HN.out]; omega))
  clear haw HK
  rcases HT.out with ⟨h1, rfl, rfl⟩ | ⟨h1, rfl, gt, tw, S, rfl, hoS, htS⟩
  · rw [h1] at HMA
    clear HT h1
    go_wp2_with (go_at_call 14; refine HMA.out.mono ?_; refine Hid.out ?_)
    refine Lib.hid ?_
    rintro E w4 ⟨rfl, haw⟩
    replace HA := Lib.hid (HA.out.trans haw)
    clear haw HMA
    go_wp2_with fail
    go_ret
    exact ⟨rfl, HA.out.to_below⟩
  · rw [h1] at HMA
    have HMY := Lib.hid h1
    have HOS := Lib.hid hoS
    have HTT := Lib.hid htS
    clear HT h1 hoS htS
    go_wp2_with (go_at_call 14; refine HMA.out.mono ?_; refine Hid.out ?_)
    refine Lib.hid ?_
    rintro E w9 ⟨rfl, haw⟩
    replace HA := Lib.hid (HA.out.trans haw)
    replace HTT := Lib.hid (HTT.out.on haw)
    clear haw HMA
    go_wp2_with fail
    go_loopw [7] (fun i wr => ∃ i' : Nat, i = .int .i64 (i' : Int) ∧ i' ≤ m ∧ Away [] w9 wr) (fun i _ => m - (intOf i).toNat)
    case atStart => exact ⟨0, rfl, Nat.zero_le _, Away.refl _ _⟩
    case round =>
      obtain ⟨i, rfl, hi, haw⟩ := hrel
      have HB := Lib.hid haw
      clear haw
      by_cases him : i < m
      · have i1 : decide (i < m) = true := by simp; omega
        have i0 : (i : Int) < (m : Int) := by omega
        obtain ⟨x, hx, hxm⟩ := get_of (show i < D.length by rw [← HM.out]; omega)
        obtain ⟨db, do_, hda, hxr, hxo⟩ := HD.out.at hx
        subst hda
        have HXO := Lib.hid hxo
        have HXR : Hid (∀ w', Away [] w9 w' → w'.rangeAt db (do_ + i * 17) (cellsA x.v x.l)) := fun w' hw' => range_away (HA.out.trans hw') (by simp) hxr
        clear hx hxm hxr hxo him
        obtain ⟨⟨r1, r2⟩, hrr⟩ : ∃ r, r = findA x.v x.l S := ⟨_, rfl⟩
        have HF1 := Lib.hid (fun w (h : Tm w gt tw S) => find_c h x.v x.l HXO.out.1)
        have HF2 := Lib.hid (fun w (h : Rd w (.slice a n cap) L) (hg : Glob w) => dfind_c h hg HMY.out HOS.out x.v x.l HXO.out.1 HXO.out.2)
        rw [← hrr] at HF1 HF2
        clear hrr
        have HXR1 := Lib.hid (HXR.out _ HB.out)
        go_wp2_with (first
          | (refine wpList_ixA rfl _ _ rfl db do_ m dcap i rfl rfl (by omega) ?_)
          | (refine wpList_load32m rfl _ rfl db (do_ + i * 17) rfl x.v x.l HXO.out.1 HXR1.out ?_)
          | (go_at_call 12; refine (HF1.out _ (HTT.out.on HB.out)).mono ?_; refine Hid.out ?_))
        refine Lib.hid ?_
        first
          | rintro E w10 rfl haw
          | rintro E w10 ⟨rfl, haw⟩
        replace HB := Lib.hid (HB.out.trans haw)
        replace HXR1 := Lib.hid (HXR.out _ HB.out)
        clear haw HF1
        go_wp2_with (first
          | (refine wpList_ixA rfl _ _ rfl db do_ m dcap i rfl rfl (by omega) ?_)
          | (refine wpList_load32m rfl _ rfl db (do_ + i * 17) rfl x.v x.l HXO.out.1 HXR1.out ?_)
          | (go_at_call 15; refine (HF2.out _ (HR.out.on (HA.out.trans HB.out)) (HG.out.aw (HA.out.trans HB.out))).mono ?_; refine Hid.out ?_))
        refine Lib.hid ?_
        first
          | rintro E w11 rfl haw
          | rintro E w11 ⟨rfl, haw⟩
        replace HB := Lib.hid (HB.out.trans haw)
        clear haw HF2 HXR1
        have hr1 : (r1 != r1) = false := by simp
        have hr2 : (r2 != r2) = false := by simp
        go_wp2_with fail
        go_roundw
        case rel => exact ⟨i + 1, by go_num, by omega, HB.out⟩
        case measure => simp [intOf]; omega
      · have i1 : decide (i < m) = false := by simp; omega
        have HAL := Lib.hid (all_c (HTT.out.on HB.out))
        clear him
        go_wp2_with (go_at_call 11; refine HAL.out.mono ?_; refine Hid.out ?_)
        refine Lib.hid ?_
        rintro E w12 ⟨s1, rfl, hs1, -, haw⟩
        replace HB := Lib.hid (HB.out.trans haw)
        have HS1 := Lib.hid hs1
        obtain ⟨sa, sc, rfl, -⟩ := hs1.sl
        have HDA := Lib.hid (dall_c (HR.out.on (HA.out.trans HB.out)) HMY.out HOS.out)
        clear haw hs1 HAL
        go_wp2_with (go_at_call 16; refine HDA.out.mono ?_; refine Hid.out ?_)
        refine Lib.hid ?_
        rintro E w13 ⟨s2, rfl, hs2, -, haw⟩
        replace HB := Lib.hid (HB.out.trans haw)
        have HSM := Lib.hid (same_yes ((HS1.out.on haw).rd HTT.out.ok) (hs2.rd HTT.out.ok) (by have := HTT.out.len; omega))
        obtain ⟨ta, tc, rfl, -⟩ := hs2.sl
        clear haw hs2 HDA HS1
        go_wp2_with (go_at_call 10; refine HSM.out.mono ?_; refine Hid.out ?_)
        refine Lib.hid ?_
        rintro E w14 ⟨rfl, haw⟩
        replace HB := Lib.hid (HB.out.trans haw)
        clear haw HSM
        go_wp2_with fail
        go_ret
        exact ⟨rfl, (HA.out.trans HB.out).to_below⟩
end routeFinds
namespace routeFinds
theorem lifted (os : Os) (started : os.Started) (H : Type) (enc : TypeId × Value → H) :
    ReturnsInHanded {} Try.checked os 5 .any (Rows.routeFindsSpec.pre6 enc Try.prog Try.f5 Rows.routeFindsRow.domain false) (Rows.routeFindsSpec.post enc Try.prog Try.f5 false true false false) := by
  refine returnsInHanded_of_change_shaped (C := Try.checked) ownKn started (by kernel_rfl) Try.func5
    (ChangeSpec.witness6 (enc := enc) (C := Try.checked) false ⟨#[], #[.slice none 0 0, .slice none 0 0], []⟩ 8 (by kernel_rfl) (by kernel_rfl) (by kernel_rfl) (by kernel_rfl)) ?_
  intro W base args ds gs before hval0 hW _ hsz0 hsh0 _
  have hsz : (DataW.weightsEach Try.prog (Try.f5.params.toList ++ Rows.routeFindsSpec.plain.varTypes Try.prog) (ds ++ gs)).all (· ≤ reachBytes) = true := hsz0
  clear hsz0
  have hval : ∀ (j : Nat) t v, Try.f5.params[j]? = some t → args[j]? = some v → Value.okWide Try.prog W .any base t v := hval0
  have hW' := hW
  obtain ⟨p, q, hA0, hV, rfl, hfz, hnd⟩ := hW
  have hA : DataW.TrodAll enc Try.prog W 0 (fun _ => true) true Try.f5.params.toList args.toList ds p := hA0
  rw [Try.params5] at hA hval hsz
  obtain ⟨v0, vs0, d0, ds0, p0, q0, hargs, rfl, rfl, h0, r0⟩ := trodAll_cons hA
  obtain ⟨v1, vs1, d1, ds1, p1, q1, rfl, rfl, rfl, h1, r1⟩ := trodAll_cons r0
  obtain ⟨rfl, rfl, rfl⟩ := trodAll_nil r1
  obtain rfl : args = #[v0, v1] := by cases args; simp_all
  have hV2 : DataW.TrodVars enc Try.prog W (fun _ => true) Rows.routeFindsSpec.vars gs q := hV
  obtain ⟨rfl, rfl⟩ := trodVars_none hV2
  have k0 := h0
  have lt0 : ∀ x ∈ p0, x.block < W.heap.size := by obtain ⟨m, hm⟩ := k0; exact DataW.trod_lt m _ _ _ hm
  have z0 : ∀ m ∈ d0.weights Try.prog 22, m ≤ reachBytes := fun m hm => by
    have := List.all_eq_true.1 hsz m (DataW.weights_mem_each (j := 0) (t := 22) rfl rfl m hm)
    simpa using this
  obtain ⟨a0, len0, cap0, rfl⟩ := okWide_slice Try.underlying22 (hval 0 22 v0 rfl rfl)
  obtain ⟨l0, rfl, w0, b0⟩ := open_routes h0 z0 lt0
  have k1 := h1
  have lt1 : ∀ x ∈ p1, x.block < W.heap.size := by obtain ⟨m, hm⟩ := k1; exact DataW.trod_lt m _ _ _ hm
  have z1 : ∀ m ∈ d1.weights Try.prog 23, m ≤ reachBytes := fun m hm => by
    have := List.all_eq_true.1 hsz m (DataW.weights_mem_each (j := 1) (t := 23) rfl rfl m hm)
    simpa using this
  obtain ⟨a1, len1, cap1, rfl⟩ := okWide_slice Try.underlying23 (hval 1 23 v1 rfl rfl)
  obtain ⟨l1, rfl, w1, b1⟩ := open_addrs h1 z1 lt1
  clear hA0 hval0
  refine (walk a0 l0 cap0 a1 l1 cap1 W w0 b0 w1 b1 (glob_of hsh0)).mono fun e W' ⟨he, bel⟩ => ?_
  subst he
  exact ⟨_, rfl, _, _, _, [], _, [], hW', trodAll_mk1 (shut_bool Try.underlying4 _), (trodAll_cons_mk (Below.trod laidOut (by kernel_rfl) (of_decide_eq_true (by kernel_rfl)) k0 bel lt0) (trodAll_cons_mk (Below.trod laidOut (by kernel_rfl) (of_decide_eq_true (by kernel_rfl)) k1 bel lt1) trodAll_mk0)), rfl, bel.frame _, fun h => by cases h⟩
theorem over : Rows.routeFindsRow.holds Try.pinned (OpenSpec.ofChange Rows.routeFindsSpec) :=
  OpenClaim.holds_of_wide 5 Try.f5 rfl rfl rfl rfl rfl rfl rfl ⟨rfl, rfl, rfl, rfl, rfl⟩ rfl rfl rfl rfl rfl (by kernel_rfl) Try.func5 (by kernel_rfl)
    (of_decide_eq_true (by kernel_rfl)) (by unfold Func.isWrapper; first | (rw [if_pos (by decide +kernel)]; kernel_rfl) | (rw [if_neg (by decide +kernel)]; exact ⟨rfl, rfl⟩))
    (fun os started H enc _ => lifted os started H enc)
end routeFinds
theorem routeFinds_holds : Rows.RouteFindsSaid := routeFinds.over
#print axioms routeFinds_holds
end Go.Proofs.Ytoifolmcdkfniaa
