/-
  UdpBuilds: every Build is the document's.
-/
import Derived.Test.YtbfpphoiapggnaaLw
import Derived.Test.YtbfpphoiapggnaaRefB
import Derived.Test.YtbfpphoiapggnaaKit
import Derived.Deep.CondSized
namespace Go.Proofs.Ytbfpphoiapggnaa
open Go.ChangeShapes Go.WideShapes Go.ChangeAt Go.RowKit Go.Deep Num
set_option linter.unusedVariables false
set_option maxHeartbeats 8000000
set_option maxRecDepth 100000

theorem build_bd {s t : Ax} {g : Dg} (hs : WfA s) (ht : WfA t) (hg : Bytes g.d) : Bytes (buildP s t g).1 ∧ (buildP s t g).1.length ≤ 65535 := by
  by_cases h : (buildP s t g).2 = 0
  · obtain ⟨hp, hf, e⟩ := build_fit hg h
    rw [e]
    refine ⟨out_bytes hs ht hf, ?_⟩
    rw [out_len]
    have h1 := room_bd s.v
    have h2 := hf.n
    omega
  · rw [build_no h]; exact ⟨Bytes.nil, by simp⟩
namespace udpBuilds
theorem walk (s t : Ax) (g : Dg) (dv : Value) (W : World) (hs : WfA s) (ht : WfA t) (hg : Dat W g dv) (hgl : g.d.length ≤ 140737488351232) :
    Calls Try.prog 8 #[.agg (csA s.v s.l), .agg (csA t.v t.l), .agg (csD g dv)] W fun e W' => e = .returned (.bool true) ∧ Below W.heap.size W W' := by
  have HS := Lib.hid hs; have HT := Lib.hid ht
  have HG := Lib.hid hg
  have HA : Hid (Away [] W W) := Away.refl _ _
  obtain ⟨y, hy⟩ : ∃ y, y = (buildP s t g).1 := ⟨_, rfl⟩
  obtain ⟨f, hf⟩ : ∃ f, f = (buildP s t g).2 := ⟨_, rfl⟩
  have HYE : Hid (buildP s t g = (y, f)) := by rw [hy, hf]; rfl
  have hyb := build_bd hs ht hg.wf.d
  rw [← hy] at hyb
  have HYB := Lib.hid hyb.1
  have hyl := hyb.2
  clear hs ht hy hf hg hyb
  go_enter Try.func8, Try.ntmps8
  go_wp2_with (refine wpList_box24 rfl _ rfl s rfl ?_; refine Hid.out ?_)
  refine Lib.hid ?_
  intro g1 w1 hg_g1 hb haw
  replace HA := Lib.hid (HA.out.on haw)
  replace HG := Lib.hid (HG.out.on haw)
  clear haw
  have H1 := Lib.hid hb
  have hl_g1 := hb.lt
  clear hb
  go_wp2_with (refine wpList_box24 rfl _ rfl t rfl ?_; refine Hid.out ?_)
  refine Lib.hid ?_
  intro g2 w2 hg_g2 hb haw
  replace HA := Lib.hid (HA.out.on haw)
  replace HG := Lib.hid (HG.out.on haw)
  replace H1 := Lib.hid (H1.out.on haw)
  clear haw
  have H2 := Lib.hid hb
  have hl_g2 := hb.lt
  clear hb
  go_wp2_with (refine wpList_boxD rfl _ rfl g dv rfl ?_; refine Hid.out ?_)
  refine Lib.hid ?_
  intro g3 w3 hg_g3 hb haw
  replace HA := Lib.hid (HA.out.on haw)
  replace HG := Lib.hid (HG.out.on haw)
  replace H1 := Lib.hid (H1.out.on haw)
  replace H2 := Lib.hid (H2.out.on haw)
  clear haw
  have H3 := Lib.hid hb
  have hl_g3 := hb.lt
  clear hb
  go_wp2_with (first | (refine wpList_loadX rfl _ rfl g1 rfl s (by exact H1.out) HS.out ?_) | (refine wpList_loadX rfl _ rfl g2 rfl t (by exact H2.out) HT.out ?_) | (refine wpList_loadD rfl _ rfl g3 rfl g _ (by exact H3.out) ?_))
  refine (build_c s t g _ _ HS.out HT.out (by exact HG.out)).mono ?_
  rw [HYE.out]
  rintro E w4 ⟨bv, rfl, hown, hnew, haw⟩
  have hs_bv := haw.size
  replace HA := Lib.hid (HA.out.on haw)
  replace HG := Lib.hid (HG.out.on haw)
  replace H1 := Lib.hid (H1.out.on haw)
  replace H2 := Lib.hid (H2.out.on haw)
  replace H3 := Lib.hid (H3.out.on haw)
  clear haw
  have HO := Lib.hid hown
  have hn_bv := Lib.hid hnew
  clear hown hnew
  obtain ⟨ba, bc, hbv, hbn, hbc⟩ := HO.out.slc
  subst hbv
  go_wp2_with (first | (refine wpList_loadX rfl _ rfl g1 rfl s (by exact H1.out) HS.out ?_) | (refine wpList_loadX rfl _ rfl g2 rfl t (by exact H2.out) HT.out ?_) | (refine wpList_loadD rfl _ rfl g3 rfl g _ (by exact H3.out) ?_))
  refine (rbuild_c s t g _ _ HS.out HT.out (by exact HG.out)).mono ?_
  rw [HYE.out]
  rintro E w5 ⟨cv, rfl, hown, hnew, haw⟩
  have hs_cv := haw.size
  replace HA := Lib.hid (HA.out.on haw)
  replace HG := Lib.hid (HG.out.on haw)
  replace H1 := Lib.hid (H1.out.on haw)
  replace H2 := Lib.hid (H2.out.on haw)
  replace H3 := Lib.hid (H3.out.on haw)
  replace HO := Lib.hid (HO.out.on haw)
  clear haw
  have HC := Lib.hid hown
  have hn_cv := Lib.hid hnew
  clear hown hnew
  obtain ⟨ca, cc, hcv, hcn, hcc⟩ := HC.out.slc
  subst hcv
  go_wp2_with fail
  refine (known_c _).mono ?_
  rintro E w6 ⟨rfl, haw⟩
  replace HA := Lib.hid (HA.out.on haw)
  replace HG := Lib.hid (HG.out.on haw)
  replace H1 := Lib.hid (H1.out.on haw)
  replace H2 := Lib.hid (H2.out.on haw)
  replace H3 := Lib.hid (H3.out.on haw)
  replace HO := Lib.hid (HO.out.on haw)
  replace HC := Lib.hid (HC.out.on haw)
  clear haw
  have q2 : (f == f) = true := by simp
  go_wp2_with fail
  refine (same_yes ba ca y _ _ bc cc _ rfl rfl (by exact HO.out.row' (by omega) HYB.out) (by exact HC.out.row' (by omega) HYB.out)).mono ?_
  rintro E w7 ⟨rfl, haw⟩
  replace HA := Lib.hid (HA.out.on haw)
  replace HG := Lib.hid (HG.out.on haw)
  replace H1 := Lib.hid (H1.out.on haw)
  replace H2 := Lib.hid (H2.out.on haw)
  replace H3 := Lib.hid (H3.out.on haw)
  replace HO := Lib.hid (HO.out.on haw)
  replace HC := Lib.hid (HC.out.on haw)
  clear haw
  go_wp2_with fail
  go_ret
  exact ⟨rfl, HA.out.to_below⟩
end udpBuilds
namespace udpBuilds
theorem lifted (os : Os) (started : os.Started) (H : Type) (enc : TypeId × Value → H) :
    ReturnsInHanded {} Try.checked os 8 .any (Rows.udpBuildsSpec.pre6 enc Try.prog Try.f8 Rows.udpBuildsRow.domain false) (Rows.udpBuildsSpec.post enc Try.prog Try.f8 false true false false) := by
  refine returnsInHanded_of_change_sized (C := Try.checked) ownKn started (by kernel_rfl) Try.func8
    (ChangeSpec.witness6 (enc := enc) (C := Try.checked) false ⟨#[], #[.agg (csA 0 z16), .agg (csA 0 z16), .agg (csD zeroDg (.slice none 0 0))], []⟩ 8 (by kernel_rfl) (by kernel_rfl) (by kernel_rfl) (by kernel_rfl)) ?_
  intro W base args ds gs before hval0 hW _ hsz0 _
  have hsz : (DataW.weightsEach Try.prog (Try.f8.params.toList ++ Rows.udpBuildsSpec.plain.varTypes Try.prog) (ds ++ gs)).all (· ≤ reachBytes) = true := hsz0
  clear hsz0
  have hval : ∀ (j : Nat) t v, Try.f8.params[j]? = some t → args[j]? = some v → Value.okWide Try.prog W .any base t v := hval0
  have hW' := hW
  obtain ⟨p, q, hA0, hV, rfl, hfz, hnd⟩ := hW
  have hA : DataW.TrodAll enc Try.prog W 0 (fun _ => true) true Try.f8.params.toList args.toList ds p := hA0
  rw [Try.params8] at hA hval hsz
  obtain ⟨v0, vs0, d0, ds0, p0, q0, hargs, rfl, rfl, h0, r0⟩ := trodAll_cons hA
  obtain ⟨v1, vs1, d1, ds1, p1, q1, rfl, rfl, rfl, h1, r1⟩ := trodAll_cons r0
  obtain ⟨v2, vs2, d2, ds2, p2, q2, rfl, rfl, rfl, h2, r2⟩ := trodAll_cons r1
  obtain ⟨rfl, rfl, rfl⟩ := trodAll_nil r2
  obtain rfl : args = #[v0, v1, v2] := by cases args; simp_all
  have hV2 : DataW.TrodVars enc Try.prog W (fun _ => true) Rows.udpBuildsSpec.vars gs q := hV
  obtain ⟨rfl, rfl⟩ := trodVars_none hV2
  have k0 := h0
  have lt0 : ∀ x ∈ p0, x.block < W.heap.size := by obtain ⟨m, hm⟩ := k0; exact DataW.trod_lt m _ _ _ hm
  have z0 : ∀ m ∈ d0.weights Try.prog 24, m ≤ reachBytes := fun m hm => by
    have := List.all_eq_true.1 hsz m (DataW.weights_mem_each (j := 0) (t := 24) rfl rfl m hm)
    simpa using this
  obtain ⟨x0, rfl, w0⟩ := open_ax (hval 0 24 v0 rfl rfl) h0
  have k1 := h1
  have lt1 : ∀ x ∈ p1, x.block < W.heap.size := by obtain ⟨m, hm⟩ := k1; exact DataW.trod_lt m _ _ _ hm
  have z1 : ∀ m ∈ d1.weights Try.prog 24, m ≤ reachBytes := fun m hm => by
    have := List.all_eq_true.1 hsz m (DataW.weights_mem_each (j := 1) (t := 24) rfl rfl m hm)
    simpa using this
  obtain ⟨x1, rfl, w1⟩ := open_ax (hval 1 24 v1 rfl rfl) h1
  have k2 := h2
  have lt2 : ∀ x ∈ p2, x.block < W.heap.size := by obtain ⟨m, hm⟩ := k2; exact DataW.trod_lt m _ _ _ hm
  have z2 : ∀ m ∈ d2.weights Try.prog 27, m ≤ reachBytes := fun m hm => by
    have := List.all_eq_true.1 hsz m (DataW.weights_mem_each (j := 2) (t := 27) rfl rfl m hm)
    simpa using this
  obtain ⟨x2, dv2, rfl, w2, dl2⟩ := open_dg (hval 2 27 v2 rfl rfl) h2 z2
  clear hA0 hval0
  refine (walk x0 x1 x2 dv2 W w0 w1 w2 dl2).mono fun e W' ⟨he, bel⟩ => ?_
  subst he
  exact ⟨_, rfl, _, _, _, [], _, [], hW', trodAll_mk1 (shut_bool Try.underlying4 _), (trodAll_cons_mk (Below.trod laidOut (by kernel_rfl) (of_decide_eq_true (by kernel_rfl)) k0 bel lt0) (trodAll_cons_mk (Below.trod laidOut (by kernel_rfl) (of_decide_eq_true (by kernel_rfl)) k1 bel lt1) (trodAll_cons_mk (Below.trod laidOut (by kernel_rfl) (of_decide_eq_true (by kernel_rfl)) k2 bel lt2) trodAll_mk0))), rfl, bel.frame _, fun h => by cases h⟩
theorem over : Rows.udpBuildsRow.holds Try.pinned (OpenSpec.ofChange Rows.udpBuildsSpec) :=
  OpenClaim.holds_of_wide 8 Try.f8 rfl rfl rfl rfl rfl rfl rfl ⟨rfl, rfl, rfl, rfl, rfl⟩ rfl rfl rfl rfl rfl (by kernel_rfl) Try.func8 (by kernel_rfl)
    (of_decide_eq_true (by kernel_rfl)) (by unfold Func.isWrapper; first | (rw [if_pos (by decide +kernel)]; kernel_rfl) | (rw [if_neg (by decide +kernel)]; exact ⟨rfl, rfl⟩))
    (fun os started H enc _ => lifted os started H enc)
end udpBuilds
theorem udpBuilds_holds : Rows.UdpBuildsSaid := udpBuilds.over
#print axioms udpBuilds_holds
end Go.Proofs.Ytbfpphoiapggnaa
