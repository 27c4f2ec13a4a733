/-
  UdpParses: every Parse is the document's.
-/
import Derived.Test.YtbfpphoiapggnabLw
import Derived.Test.YtbfpphoiapggnabRefP
import Derived.Test.YtbfpphoiapggnabKit
import Derived.Deep.CondSized
namespace Go.Proofs.Ytbfpphoiapggnab
open Go.ChangeShapes Go.WideShapes Go.ChangeAt Go.RowKit Go.Deep Num
set_option linter.unusedVariables false
set_option maxHeartbeats 8000000
set_option maxRecDepth 100000

theorem parse_wf {s t : Ax} {b : List Int} (hb : Bytes b) (hl : b.length ≤ 140737488355328) : WfD (parseP s t b).1 := by
  by_cases h : (parseP s t b).2 = 0
  · have ht := taken_iff.1 h
    rw [parse_taken ht]
    show WfD (dgP b)
    have hf := taken_fit hb ht
    have h1 := hf.sp0; have h2 := hf.sp1; have h3 := hf.dp0; have h4 := hf.dp1
    exact ⟨⟨by omega, by omega⟩, ⟨by omega, by omega⟩, hf.d, by show (b.drop 8).length ≤ _; rw [List.length_drop]; omega⟩
  · rw [parse_no h]; exact zero_wf
namespace udpParses
theorem walk (s t : Ax) (ba : Option Addr) (b : List Int) (bcap : Nat) (W : World) (hs : WfA s) (ht : WfA t) (hbc : b.length ≤ bcap) (hbr : Row W ba b) (hbn : ba = none → bcap = 0) (hbcc : bcap ≤ 140737488351232) :
    Calls Try.prog 3 #[.agg (csA s.v s.l), .agg (csA t.v t.l), .slice ba b.length bcap] W fun e W' => e = .returned (.bool true) ∧ Below W.heap.size W W' := by
  have HS := Lib.hid hs; have HT := Lib.hid ht
  have HR := Lib.hid hbr
  have HA : Hid (Away [] W W) := Away.refl _ _
  have hbl := hbr.1
  obtain ⟨y, hy⟩ : ∃ y, y = (parseP s t b).1 := ⟨_, rfl⟩
  obtain ⟨f, hf⟩ : ∃ f, f = (parseP s t b).2 := ⟨_, rfl⟩
  have HYE : Hid (parseP s t b = (y, f)) := by rw [hy, hf]; rfl
  have HYW : Hid (WfD y) := by rw [hy]; exact parse_wf hbr.2.1 hbl
  clear hs ht hbr hy hf
  go_enter Try.func3, Try.ntmps3
  go_wp2_with (refine wpList_box24 rfl _ rfl s rfl ?_; refine Hid.out ?_)
  refine Lib.hid ?_
  intro g1 w1 hg_g1 hb haw
  replace HA := Lib.hid (HA.out.on haw)
  replace HR := Lib.hid (HR.out.on haw)
  clear haw
  have H1 := Lib.hid hb
  have hl_g1 := hb.lt
  clear hb
  go_wp2_with (refine wpList_box24 rfl _ rfl t rfl ?_; refine Hid.out ?_)
  refine Lib.hid ?_
  intro g2 w2 hg_g2 hb haw
  replace HA := Lib.hid (HA.out.on haw)
  replace HR := Lib.hid (HR.out.on haw)
  replace H1 := Lib.hid (H1.out.on haw)
  clear haw
  have H2 := Lib.hid hb
  have hl_g2 := hb.lt
  clear hb
  go_wp2_with (first | (refine wpList_loadX rfl _ rfl g1 rfl s (by exact H1.out) HS.out ?_) | (refine wpList_loadX rfl _ rfl g2 rfl t (by exact H2.out) HT.out ?_))
  refine (parse_c s t ba b bcap _ HS.out HT.out (by exact HR.out) hbc hbn).mono ?_
  rw [HYE.out]
  rintro E w3 ⟨dv, rfl, hown, hnew, haw⟩
  have hs_dv := haw.size
  replace HA := Lib.hid (HA.out.on haw)
  replace HR := Lib.hid (HR.out.on haw)
  replace H1 := Lib.hid (H1.out.on haw)
  replace H2 := Lib.hid (H2.out.on haw)
  clear haw
  have HO := Lib.hid hown
  have hn_dv := Lib.hid hnew
  clear hown hnew
  obtain ⟨da, dc, hdv, hdn, hdc⟩ := HO.out.slc
  subst hdv
  go_wp2_with (refine wpList_newD rfl rfl rfl _ _ rfl y (.slice da y.d.length dc) (fun _ => rfl) (fun _ => rfl) rfl ?_; refine Hid.out ?_)
  refine Lib.hid ?_
  intro g7 w4 hg_g7 hb haw
  replace HA := Lib.hid (HA.out.on haw)
  replace HR := Lib.hid (HR.out.on haw)
  replace H1 := Lib.hid (H1.out.on haw)
  replace H2 := Lib.hid (H2.out.on haw)
  replace HO := Lib.hid (HO.out.on haw)
  clear haw
  have H7 := Lib.hid hb
  have hl_g7 := hb.lt
  clear hb
  go_wp2_with (first | (refine wpList_loadX rfl _ rfl g1 rfl s (by exact H1.out) HS.out ?_) | (refine wpList_loadX rfl _ rfl g2 rfl t (by exact H2.out) HT.out ?_))
  refine (rparse_c s t ba b bcap _ HS.out HT.out (by exact HR.out) hbc hbn).mono ?_
  rw [HYE.out]
  rintro E w5 ⟨cv, rfl, hown, hnew, haw⟩
  have hs_cv := haw.size
  replace HA := Lib.hid (HA.out.on haw)
  replace HR := Lib.hid (HR.out.on haw)
  replace H1 := Lib.hid (H1.out.on haw)
  replace H2 := Lib.hid (H2.out.on haw)
  replace HO := Lib.hid (HO.out.on haw)
  replace H7 := Lib.hid (H7.out.on haw)
  clear haw
  have HC := Lib.hid hown
  have hn_cv := Lib.hid hnew
  clear hown hnew
  obtain ⟨ca, cc, hcv, hcn, hcc⟩ := HC.out.slc
  subst hcv
  go_wp2_with (refine wpList_newD rfl rfl rfl _ _ rfl y (.slice ca y.d.length cc) (fun _ => rfl) (fun _ => rfl) rfl ?_; refine Hid.out ?_)
  refine Lib.hid ?_
  intro g9 w6 hg_g9 hb haw
  replace HA := Lib.hid (HA.out.on haw)
  replace HR := Lib.hid (HR.out.on haw)
  replace H1 := Lib.hid (H1.out.on haw)
  replace H2 := Lib.hid (H2.out.on haw)
  replace HO := Lib.hid (HO.out.on haw)
  replace H7 := Lib.hid (H7.out.on haw)
  replace HC := Lib.hid (HC.out.on haw)
  clear haw
  have H9 := Lib.hid hb
  have hl_g9 := hb.lt
  clear hb
  go_wp2_with fail
  refine (known_c _).mono ?_
  rintro E w7 ⟨rfl, haw⟩
  replace HA := Lib.hid (HA.out.on haw)
  replace HR := Lib.hid (HR.out.on haw)
  replace H1 := Lib.hid (H1.out.on haw)
  replace H2 := Lib.hid (H2.out.on haw)
  replace HO := Lib.hid (HO.out.on haw)
  replace H7 := Lib.hid (H7.out.on haw)
  replace HC := Lib.hid (HC.out.on haw)
  replace H9 := Lib.hid (H9.out.on haw)
  clear haw
  have q2 : (f == f) = true := by simp
  go_wp2_with (first | (refine wpList_loadD rfl _ rfl g7 rfl y _ (by exact H7.out) ?_) | (refine wpList_loadD rfl _ rfl g9 rfl y _ (by exact H9.out) ?_))
  refine (sameD_yes y _ _ _ (by exact HO.out.sl HYW.out.d HYW.out.dn) (by exact HC.out.sl HYW.out.d HYW.out.dn)).mono ?_
  rintro E w8 ⟨rfl, haw⟩
  replace HA := Lib.hid (HA.out.on haw)
  replace HR := Lib.hid (HR.out.on haw)
  replace H1 := Lib.hid (H1.out.on haw)
  replace H2 := Lib.hid (H2.out.on haw)
  replace HO := Lib.hid (HO.out.on haw)
  replace H7 := Lib.hid (H7.out.on haw)
  replace HC := Lib.hid (HC.out.on haw)
  replace H9 := Lib.hid (H9.out.on haw)
  clear haw
  go_wp2_with fail
  go_ret
  exact ⟨rfl, HA.out.to_below⟩
end udpParses
namespace udpParses
theorem lifted (os : Os) (started : os.Started) (H : Type) (enc : TypeId × Value → H) :
    ReturnsInHanded {} Try.checked os 3 .any (Rows.udpParsesSpec.pre6 enc Try.prog Try.f3 Rows.udpParsesRow.domain false) (Rows.udpParsesSpec.post enc Try.prog Try.f3 false true false false) := by
  refine returnsInHanded_of_change_sized (C := Try.checked) ownKn started (by kernel_rfl) Try.func3
    (ChangeSpec.witness6 (enc := enc) (C := Try.checked) false ⟨#[], #[.agg (csA 0 z16), .agg (csA 0 z16), .slice none 0 0], []⟩ 8 (by kernel_rfl) (by kernel_rfl) (by kernel_rfl) (by kernel_rfl)) ?_
  intro W base args ds gs before hval0 hW _ hsz0 _
  have hsz : (DataW.weightsEach Try.prog (Try.f3.params.toList ++ Rows.udpParsesSpec.plain.varTypes Try.prog) (ds ++ gs)).all (· ≤ reachBytes) = true := hsz0
  clear hsz0
  have hval : ∀ (j : Nat) t v, Try.f3.params[j]? = some t → args[j]? = some v → Value.okWide Try.prog W .any base t v := hval0
  have hW' := hW
  obtain ⟨p, q, hA0, hV, rfl, hfz, hnd⟩ := hW
  have hA : DataW.TrodAll enc Try.prog W 0 (fun _ => true) true Try.f3.params.toList args.toList ds p := hA0
  rw [Try.params3] at hA hval hsz
  obtain ⟨v0, vs0, d0, ds0, p0, q0, hargs, rfl, rfl, h0, r0⟩ := trodAll_cons hA
  obtain ⟨v1, vs1, d1, ds1, p1, q1, rfl, rfl, rfl, h1, r1⟩ := trodAll_cons r0
  obtain ⟨v2, vs2, d2, ds2, p2, q2, rfl, rfl, rfl, h2, r2⟩ := trodAll_cons r1
  obtain ⟨rfl, rfl, rfl⟩ := trodAll_nil r2
  obtain rfl : args = #[v0, v1, v2] := by cases args; simp_all
  have hV2 : DataW.TrodVars enc Try.prog W (fun _ => true) Rows.udpParsesSpec.vars gs q := hV
  obtain ⟨rfl, rfl⟩ := trodVars_none hV2
  have k0 := h0
  have lt0 : ∀ x ∈ p0, x.block < W.heap.size := by obtain ⟨m, hm⟩ := k0; exact DataW.trod_lt m _ _ _ hm
  have z0 : ∀ m ∈ d0.weights Try.prog 24, m ≤ reachBytes := fun m hm => by
    have := List.all_eq_true.1 hsz m (DataW.weights_mem_each (j := 0) (t := 24) rfl rfl m hm)
    simpa using this
  obtain ⟨x0, rfl, w0⟩ := open_ax (hval 0 24 v0 rfl rfl) h0
  have k1 := h1
  have lt1 : ∀ x ∈ p1, x.block < W.heap.size := by obtain ⟨m, hm⟩ := k1; exact DataW.trod_lt m _ _ _ hm
  have z1 : ∀ m ∈ d1.weights Try.prog 24, m ≤ reachBytes := fun m hm => by
    have := List.all_eq_true.1 hsz m (DataW.weights_mem_each (j := 1) (t := 24) rfl rfl m hm)
    simpa using this
  obtain ⟨x1, rfl, w1⟩ := open_ax (hval 1 24 v1 rfl rfl) h1
  have k2 := h2
  have lt2 : ∀ x ∈ p2, x.block < W.heap.size := by obtain ⟨m, hm⟩ := k2; exact DataW.trod_lt m _ _ _ hm
  have z2 : ∀ m ∈ d2.weights Try.prog 25, m ≤ reachBytes := fun m hm => by
    have := List.all_eq_true.1 hsz m (DataW.weights_mem_each (j := 2) (t := 25) rfl rfl m hm)
    simpa using this
  obtain ⟨a2, len2, cap2, rfl⟩ := okWide_slice Try.underlying25 (hval 2 25 v2 rfl rfl)
  obtain ⟨l2, rfl, c2, cc2, w2, n2, u2⟩ := open_bytes h2 z2
  clear hA0 hval0
  refine (walk x0 x1 a2 l2 cap2 W w0 w1 c2 w2 n2 cc2).mono fun e W' ⟨he, bel⟩ => ?_
  subst he
  exact ⟨_, rfl, _, _, _, [], _, [], hW', trodAll_mk1 (shut_bool Try.underlying4 _), (trodAll_cons_mk (Below.trod laidOut (by kernel_rfl) (of_decide_eq_true (by kernel_rfl)) k0 bel lt0) (trodAll_cons_mk (Below.trod laidOut (by kernel_rfl) (of_decide_eq_true (by kernel_rfl)) k1 bel lt1) (trodAll_cons_mk (Below.trod laidOut (by kernel_rfl) (of_decide_eq_true (by kernel_rfl)) k2 bel lt2) trodAll_mk0))), rfl, bel.frame _, fun h => by cases h⟩
theorem over : Rows.udpParsesRow.holds Try.pinned (OpenSpec.ofChange Rows.udpParsesSpec) :=
  OpenClaim.holds_of_wide 3 Try.f3 rfl rfl rfl rfl rfl rfl rfl ⟨rfl, rfl, rfl, rfl, rfl⟩ rfl rfl rfl rfl rfl (by kernel_rfl) Try.func3 (by kernel_rfl)
    (of_decide_eq_true (by kernel_rfl)) (by unfold Func.isWrapper; first | (rw [if_pos (by decide +kernel)]; kernel_rfl) | (rw [if_neg (by decide +kernel)]; exact ⟨rfl, rfl⟩))
    (fun os started H enc _ => lifted os started H enc)
end udpParses
theorem udpParses_holds : Rows.UdpParsesSaid := udpParses.over
#print axioms udpParses_holds
end Go.Proofs.Ytbfpphoiapggnab
