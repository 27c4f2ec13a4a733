/-
  UdpForms: what is taken is laid as it stood, and taken the other way; what is refused tells nothing.
-/
import Derived.Test.YtbfpphoiapggnaaLw
import Derived.Test.YtbfpphoiapggnaaKit
import Derived.Deep.CondSized
namespace Go.Proofs.Ytbfpphoiapggnaa
open Go.ChangeShapes Go.WideShapes Go.ChangeAt Go.RowKit Go.Deep Num
set_option linter.unusedVariables false
set_option maxHeartbeats 8000000
set_option maxRecDepth 100000

namespace udpForms
theorem walk (s t : Ax) (ba : Option Addr) (b : List Int) (bcap : Nat) (W : World) (hs : WfA s) (ht : WfA t) (hbc : b.length ≤ bcap) (hbr : Row W ba b) (hbn : ba = none → bcap = 0) (hbcc : bcap ≤ 140737488351232) :
    Calls Try.prog 3 #[.agg (csA s.v s.l), .agg (csA t.v t.l), .slice ba b.length bcap] W fun e W' => e = .returned (.bool true) ∧ Below W.heap.size W W' := by
  have HS := Lib.hid hs; have HT := Lib.hid ht
  have HR := Lib.hid hbr
  have HA : Hid (Away [] W W) := Away.refl _ _
  have hbl := hbr.1
  have HBB := Lib.hid hbr.2.1
  obtain ⟨y, hy⟩ : ∃ y, y = (parseP s t b).1 := ⟨_, rfl⟩
  obtain ⟨f, hf⟩ : ∃ f, f = (parseP s t b).2 := ⟨_, rfl⟩
  have HYE : Hid (parseP s t b = (y, f)) := by rw [hy, hf]; rfl
  have HYN : Hid (f ≠ 0 → y = zeroDg) := fun h => by rw [hy]; exact parse_no (by rw [← hf]; exact h)
  have HYT : Hid (f = 0 → Taken s t b) := fun h => taken_iff.1 (by rw [← hf]; exact h)
  have HYD : Hid (f = 0 → y = dgP b) := fun h => by rw [hy, parse_taken (HYT.out h)]
  clear hs ht hbr hy hf
  go_enter Try.func3, Try.ntmps3
  go_wp2_with (refine wpList_box24 rfl _ rfl s rfl ?_; refine Hid.out ?_)
  refine Lib.hid ?_
  intro g1 w1 hg_g1 hb haw
  replace HA := Lib.hid (HA.out.on haw)
  replace HR := Lib.hid (HR.out.on haw)
  clear haw
  have H1 := Lib.hid hb
  have hl_g1 := hb.lt
  clear hb
  go_wp2_with (refine wpList_box24 rfl _ rfl t rfl ?_; refine Hid.out ?_)
  refine Lib.hid ?_
  intro g2 w2 hg_g2 hb haw
  replace HA := Lib.hid (HA.out.on haw)
  replace HR := Lib.hid (HR.out.on haw)
  replace H1 := Lib.hid (H1.out.on haw)
  clear haw
  have H2 := Lib.hid hb
  have hl_g2 := hb.lt
  clear hb
  go_wp2_with (first | (refine wpList_loadX rfl _ rfl g1 rfl s (by exact H1.out) HS.out ?_) | (refine wpList_loadX rfl _ rfl g2 rfl t (by exact H2.out) HT.out ?_))
  refine (parse_c s t ba b bcap _ HS.out HT.out (by exact HR.out) hbc hbn).mono ?_
  rw [HYE.out]
  rintro E w3 ⟨dv, rfl, hown, hnew, haw⟩
  have hs_dv := haw.size
  replace HA := Lib.hid (HA.out.on haw)
  replace HR := Lib.hid (HR.out.on haw)
  replace H1 := Lib.hid (H1.out.on haw)
  replace H2 := Lib.hid (H2.out.on haw)
  clear haw
  have HO := Lib.hid hown
  have hn_dv := Lib.hid hnew
  clear hown hnew
  obtain ⟨da, dc, hdv, hdn, hdc⟩ := HO.out.slc
  subst hdv
  go_wp2_with (refine wpList_newD rfl rfl rfl _ _ rfl y (.slice da y.d.length dc) (fun _ => rfl) (fun _ => rfl) rfl ?_; refine Hid.out ?_)
  refine Lib.hid ?_
  intro g7 w4 hg_g7 hb haw
  replace HA := Lib.hid (HA.out.on haw)
  replace HR := Lib.hid (HR.out.on haw)
  replace H1 := Lib.hid (H1.out.on haw)
  replace H2 := Lib.hid (H2.out.on haw)
  replace HO := Lib.hid (HO.out.on haw)
  clear haw
  have H7 := Lib.hid hb
  have hl_g7 := hb.lt
  clear hb
  go_wp2_with fail
  refine (known_c _).mono ?_
  rintro E w5 ⟨rfl, haw⟩
  replace HA := Lib.hid (HA.out.on haw)
  replace HR := Lib.hid (HR.out.on haw)
  replace H1 := Lib.hid (H1.out.on haw)
  replace H2 := Lib.hid (H2.out.on haw)
  replace HO := Lib.hid (HO.out.on haw)
  replace H7 := Lib.hid (H7.out.on haw)
  clear haw
  by_cases hf : f = 0
  · have HTK := Lib.hid (HYT.out hf)
    obtain rfl : y = dgP b := HYD.out hf
    have hl16 : b.length ≤ 65535 := by have h1 := room_bd s.v; have h2 := HTK.out.room; omega
    have HFT := Lib.hid (taken_fit HBB.out HTK.out)
    have HBE : Hid (buildP s t (dgP b) = (b, 0)) := by
      show _ = _
      rw [build_ok HTK.out.pair HFT.out, out_dg HS.out HT.out HBB.out HTK.out]
    have HPE : Hid (parseP t s b = (dgP b, 0)) := parse_taken (taken_back HS.out HT.out HTK.out)
    have HPS : Hid (psP s t 17 b.length = (pt (psb s t 17 b.length), 0)) := psP_ok HTK.out.pair (by omega) (by omega)
    have HWD : Hid (WfD (dgP b)) := ⟨⟨by have := HFT.out.sp0; omega, by have := HFT.out.sp1; omega⟩, ⟨by have := HFT.out.dp0; omega, by have := HFT.out.dp1; omega⟩, HFT.out.d, by show (b.drop 8).length ≤ _; rw [List.length_drop]; omega⟩
    have HCK : Hid ((dgP b).ns = false → add (pt (psb s t 17 b.length)) (pt b) = 65535) := fun h => HTK.out.ck (by have h' : decide (wd b 6 = 0) = false := h; simpa using h')
    have hpb := pt_bd (wlen HS.out HT.out hl16)
    have hqb := pt_bd HBB.out
    obtain ⟨p0, p1⟩ := hpb
    obtain ⟨q0, q1⟩ := hqb
    subst hf
    generalize dgP b = q at *
    generalize pt (psb s t 17 b.length) = x at *
    go_wp2_with (first | (refine wpList_loadX rfl _ rfl g1 rfl s (by exact H1.out) HS.out ?_) | (refine wpList_loadX rfl _ rfl g2 rfl t (by exact H2.out) HT.out ?_) | (refine wpList_loadD rfl _ rfl g7 rfl q _ (by exact H7.out) ?_))
    refine (build_c s t q _ _ HS.out HT.out ⟨HWD.out, by exact HO.out.sl HWD.out.d HWD.out.dn⟩).mono ?_
    rw [HBE.out]
    rintro E w6 ⟨cv, rfl, hown, hnew, haw⟩
    have hs_cv := haw.size
    replace HA := Lib.hid (HA.out.on haw)
    replace HR := Lib.hid (HR.out.on haw)
    replace H1 := Lib.hid (H1.out.on haw)
    replace H2 := Lib.hid (H2.out.on haw)
    replace HO := Lib.hid (HO.out.on haw)
    replace H7 := Lib.hid (H7.out.on haw)
    clear haw
    have HC := Lib.hid hown
    have hn_cv := Lib.hid hnew
    clear hown hnew
    obtain ⟨ca, cc, hcv, hcn, hcc⟩ := HC.out.slc
    subst hcv
    go_wp2_with (first | (refine wpList_loadX rfl _ rfl g1 rfl s (by exact H1.out) HS.out ?_) | (refine wpList_loadX rfl _ rfl g2 rfl t (by exact H2.out) HT.out ?_) | (refine wpList_loadD rfl _ rfl g7 rfl q _ (by exact H7.out) ?_))
    refine (parse_c t s ba b bcap _ HT.out HS.out (by exact HR.out) hbc hbn).mono ?_
    rw [HPE.out]
    rintro E w7 ⟨xv, rfl, hown, hnew, haw⟩
    have hs_xv := haw.size
    replace HA := Lib.hid (HA.out.on haw)
    replace HR := Lib.hid (HR.out.on haw)
    replace H1 := Lib.hid (H1.out.on haw)
    replace H2 := Lib.hid (H2.out.on haw)
    replace HO := Lib.hid (HO.out.on haw)
    replace H7 := Lib.hid (H7.out.on haw)
    replace HC := Lib.hid (HC.out.on haw)
    clear haw
    have HX := Lib.hid hown
    have hn_xv := Lib.hid hnew
    clear hown hnew
    obtain ⟨xa, xc, hxv, hxn, hxc⟩ := HX.out.slc
    subst hxv
    go_wp2_with (refine wpList_newD rfl rfl rfl _ _ rfl q (.slice xa q.d.length xc) (fun _ => rfl) (fun _ => rfl) rfl ?_; refine Hid.out ?_)
    refine Lib.hid ?_
    intro g11 w8 hg_g11 hb haw
    replace HA := Lib.hid (HA.out.on haw)
    replace HR := Lib.hid (HR.out.on haw)
    replace H1 := Lib.hid (H1.out.on haw)
    replace H2 := Lib.hid (H2.out.on haw)
    replace HO := Lib.hid (HO.out.on haw)
    replace H7 := Lib.hid (H7.out.on haw)
    replace HC := Lib.hid (HC.out.on haw)
    replace HX := Lib.hid (HX.out.on haw)
    clear haw
    have H11 := Lib.hid hb
    have hl_g11 := hb.lt
    clear hb
    go_wp2_with (first | (refine wpList_loadX rfl _ rfl g1 rfl s (by exact H1.out) HS.out ?_) | (refine wpList_loadX rfl _ rfl g2 rfl t (by exact H2.out) HT.out ?_))
    refine (pseudo_c s t 17 b.length _ HS.out HT.out).mono ?_
    rw [HPS.out]
    rintro E w9 ⟨rfl, haw⟩
    replace HA := Lib.hid (HA.out.on haw)
    replace HR := Lib.hid (HR.out.on haw)
    replace H1 := Lib.hid (H1.out.on haw)
    replace H2 := Lib.hid (H2.out.on haw)
    replace HO := Lib.hid (HO.out.on haw)
    replace H7 := Lib.hid (H7.out.on haw)
    replace HC := Lib.hid (HC.out.on haw)
    replace HX := Lib.hid (HX.out.on haw)
    replace H11 := Lib.hid (H11.out.on haw)
    clear haw
    go_wp2_with fail
    refine (same_yes ca ba b _ _ cc bcap _ rfl rfl (by exact HC.out.row' hbl HBB.out) (by exact HR.out)).mono ?_
    rintro E w10 ⟨rfl, haw⟩
    replace HA := Lib.hid (HA.out.on haw)
    replace HR := Lib.hid (HR.out.on haw)
    replace H1 := Lib.hid (H1.out.on haw)
    replace H2 := Lib.hid (H2.out.on haw)
    replace HO := Lib.hid (HO.out.on haw)
    replace H7 := Lib.hid (H7.out.on haw)
    replace HC := Lib.hid (HC.out.on haw)
    replace HX := Lib.hid (HX.out.on haw)
    replace H11 := Lib.hid (H11.out.on haw)
    clear haw
    go_wp2_with (first | (refine wpList_loadX rfl _ rfl g1 rfl s (by exact H1.out) HS.out ?_) | (refine wpList_loadX rfl _ rfl g2 rfl t (by exact H2.out) HT.out ?_) | (refine wpList_loadD rfl _ rfl g7 rfl q _ (by exact H7.out) ?_) | (refine wpList_loadD rfl _ rfl g11 rfl q _ (by exact H11.out) ?_))
    refine (sameD_yes q _ _ _ (by exact HX.out.sl HWD.out.d HWD.out.dn) (by exact HO.out.sl HWD.out.d HWD.out.dn)).mono ?_
    rintro E w11 ⟨rfl, haw⟩
    replace HA := Lib.hid (HA.out.on haw)
    replace HR := Lib.hid (HR.out.on haw)
    replace H1 := Lib.hid (H1.out.on haw)
    replace H2 := Lib.hid (H2.out.on haw)
    replace HO := Lib.hid (HO.out.on haw)
    replace H7 := Lib.hid (H7.out.on haw)
    replace HC := Lib.hid (HC.out.on haw)
    replace HX := Lib.hid (HX.out.on haw)
    replace H11 := Lib.hid (H11.out.on haw)
    clear haw
    have c2 := H7.out.c2
    generalize hns : q.ns = ns at c2
    cases ns
    · go_wp2_with fail
      refine (part_any ba b bcap hbc _ (by exact HR.out)).mono ?_
      rintro E w12 ⟨rfl, k, hk⟩
      have haw : Away [] w11 w12 := by rw [hk]; exact (Away.refl [] w11).drewN k
      clear hk
      replace HA := Lib.hid (HA.out.on haw)
      replace HR := Lib.hid (HR.out.on haw)
      replace H1 := Lib.hid (H1.out.on haw)
      replace H2 := Lib.hid (H2.out.on haw)
      replace HO := Lib.hid (HO.out.on haw)
      replace H7 := Lib.hid (H7.out.on haw)
      replace HC := Lib.hid (HC.out.on haw)
      replace HX := Lib.hid (HX.out.on haw)
      replace H11 := Lib.hid (H11.out.on haw)
      clear haw
      go_wp2_with fail
      refine (add_any x (pt b) p0 p1 q0 q1 _).mono ?_
      rintro E w12 ⟨rfl, rfl⟩
      rw [HCK.out hns]
      go_wp2_with fail
      go_ret
      exact ⟨rfl, HA.out.to_below⟩
    · go_wp2_with fail
      go_ret
      exact ⟨rfl, HA.out.to_below⟩
  · obtain rfl : y = zeroDg := HYN.out hf
    have d0 : _ = some (Value.int .i64 0) := H7.out.c0
    have d1 : _ = some (Value.int .i64 0) := H7.out.c1
    have d2 : _ = some (Value.bool false) := H7.out.c2
    have d3 : _ = some (Value.slice da 0 dc) := H7.out.c3
    have hf' : (f != 0) = true := by simpa using hf
    go_wp2_with fail
    go_ret
    exact ⟨rfl, HA.out.to_below⟩
end udpForms
namespace udpForms
theorem lifted (os : Os) (started : os.Started) (H : Type) (enc : TypeId × Value → H) :
    ReturnsInHanded {} Try.checked os 3 .any (Rows.udpFormsSpec.pre6 enc Try.prog Try.f3 Rows.udpFormsRow.domain false) (Rows.udpFormsSpec.post enc Try.prog Try.f3 false true false false) := by
  refine returnsInHanded_of_change_sized (C := Try.checked) ownKn started (by kernel_rfl) Try.func3
    (ChangeSpec.witness6 (enc := enc) (C := Try.checked) false ⟨#[], #[.agg (csA 0 z16), .agg (csA 0 z16), .slice none 0 0], []⟩ 8 (by kernel_rfl) (by kernel_rfl) (by kernel_rfl) (by kernel_rfl)) ?_
  intro W base args ds gs before hval0 hW _ hsz0 _
  have hsz : (DataW.weightsEach Try.prog (Try.f3.params.toList ++ Rows.udpFormsSpec.plain.varTypes Try.prog) (ds ++ gs)).all (· ≤ reachBytes) = true := hsz0
  clear hsz0
  have hval : ∀ (j : Nat) t v, Try.f3.params[j]? = some t → args[j]? = some v → Value.okWide Try.prog W .any base t v := hval0
  have hW' := hW
  obtain ⟨p, q, hA0, hV, rfl, hfz, hnd⟩ := hW
  have hA : DataW.TrodAll enc Try.prog W 0 (fun _ => true) true Try.f3.params.toList args.toList ds p := hA0
  rw [Try.params3] at hA hval hsz
  obtain ⟨v0, vs0, d0, ds0, p0, q0, hargs, rfl, rfl, h0, r0⟩ := trodAll_cons hA
  obtain ⟨v1, vs1, d1, ds1, p1, q1, rfl, rfl, rfl, h1, r1⟩ := trodAll_cons r0
  obtain ⟨v2, vs2, d2, ds2, p2, q2, rfl, rfl, rfl, h2, r2⟩ := trodAll_cons r1
  obtain ⟨rfl, rfl, rfl⟩ := trodAll_nil r2
  obtain rfl : args = #[v0, v1, v2] := by cases args; simp_all
  have hV2 : DataW.TrodVars enc Try.prog W (fun _ => true) Rows.udpFormsSpec.vars gs q := hV
  obtain ⟨rfl, rfl⟩ := trodVars_none hV2
  have k0 := h0
  have lt0 : ∀ x ∈ p0, x.block < W.heap.size := by obtain ⟨m, hm⟩ := k0; exact DataW.trod_lt m _ _ _ hm
  have z0 : ∀ m ∈ d0.weights Try.prog 24, m ≤ reachBytes := fun m hm => by
    have := List.all_eq_true.1 hsz m (DataW.weights_mem_each (j := 0) (t := 24) rfl rfl m hm)
    simpa using this
  obtain ⟨x0, rfl, w0⟩ := open_ax (hval 0 24 v0 rfl rfl) h0
  have k1 := h1
  have lt1 : ∀ x ∈ p1, x.block < W.heap.size := by obtain ⟨m, hm⟩ := k1; exact DataW.trod_lt m _ _ _ hm
  have z1 : ∀ m ∈ d1.weights Try.prog 24, m ≤ reachBytes := fun m hm => by
    have := List.all_eq_true.1 hsz m (DataW.weights_mem_each (j := 1) (t := 24) rfl rfl m hm)
    simpa using this
  obtain ⟨x1, rfl, w1⟩ := open_ax (hval 1 24 v1 rfl rfl) h1
  have k2 := h2
  have lt2 : ∀ x ∈ p2, x.block < W.heap.size := by obtain ⟨m, hm⟩ := k2; exact DataW.trod_lt m _ _ _ hm
  have z2 : ∀ m ∈ d2.weights Try.prog 25, m ≤ reachBytes := fun m hm => by
    have := List.all_eq_true.1 hsz m (DataW.weights_mem_each (j := 2) (t := 25) rfl rfl m hm)
    simpa using this
  obtain ⟨a2, len2, cap2, rfl⟩ := okWide_slice Try.underlying25 (hval 2 25 v2 rfl rfl)
  obtain ⟨l2, rfl, c2, cc2, w2, n2, u2⟩ := open_bytes h2 z2
  clear hA0 hval0
  refine (walk x0 x1 a2 l2 cap2 W w0 w1 c2 w2 n2 cc2).mono fun e W' ⟨he, bel⟩ => ?_
  subst he
  exact ⟨_, rfl, _, _, _, [], _, [], hW', trodAll_mk1 (shut_bool Try.underlying4 _), (trodAll_cons_mk (Below.trod laidOut (by kernel_rfl) (of_decide_eq_true (by kernel_rfl)) k0 bel lt0) (trodAll_cons_mk (Below.trod laidOut (by kernel_rfl) (of_decide_eq_true (by kernel_rfl)) k1 bel lt1) (trodAll_cons_mk (Below.trod laidOut (by kernel_rfl) (of_decide_eq_true (by kernel_rfl)) k2 bel lt2) trodAll_mk0))), rfl, bel.frame _, fun h => by cases h⟩
theorem over : Rows.udpFormsRow.holds Try.pinned (OpenSpec.ofChange Rows.udpFormsSpec) :=
  OpenClaim.holds_of_wide 3 Try.f3 rfl rfl rfl rfl rfl rfl rfl ⟨rfl, rfl, rfl, rfl, rfl⟩ rfl rfl rfl rfl rfl (by kernel_rfl) Try.func3 (by kernel_rfl)
    (of_decide_eq_true (by kernel_rfl)) (by unfold Func.isWrapper; first | (rw [if_pos (by decide +kernel)]; kernel_rfl) | (rw [if_neg (by decide +kernel)]; exact ⟨rfl, rfl⟩))
    (fun os started H enc _ => lifted os started H enc)
end udpForms
theorem udpForms_holds : Rows.UdpFormsSaid := udpForms.over
#print axioms udpForms_holds
end Go.Proofs.Ytbfpphoiapggnaa
