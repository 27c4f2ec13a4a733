/-
  UdpPseudos: every Pseudo is the document's.
-/
import Derived.Test.YtbfpphoiapggnaaLw
import Derived.Test.YtbfpphoiapggnaaRefV
import Derived.Test.YtbfpphoiapggnaaKit
import Derived.Deep.CondSized
namespace Go.Proofs.Ytbfpphoiapggnaa
open Go.ChangeShapes Go.WideShapes Go.ChangeAt Go.RowKit Go.Deep Num
set_option linter.unusedVariables false
set_option maxHeartbeats 8000000
set_option maxRecDepth 100000

namespace udpPseudos
theorem walk (s t : Ax) (p n : Int) (W : World) (hs : WfA s) (ht : WfA t) (hp : (Lit.int .i64 p).wf = true) (hn : (Lit.int .i64 n).wf = true) :
    Calls Try.prog 7 #[.agg (csA s.v s.l), .agg (csA t.v t.l), .int .i64 p, .int .i64 n] W fun e W' => e = .returned (.bool true) ∧ Below W.heap.size W W' := by
  have HS := Lib.hid hs; have HT := Lib.hid ht
  have HA : Hid (Away [] W W) := Away.refl _ _
  obtain ⟨y, hy⟩ : ∃ y, y = (psP s t p n).1 := ⟨_, rfl⟩
  obtain ⟨f, hf⟩ : ∃ f, f = (psP s t p n).2 := ⟨_, rfl⟩
  have HYE : Hid (psP s t p n = (y, f)) := by rw [hy, hf]; rfl
  have hyb : 0 ≤ y ∧ y ≤ 65535 := by
    rw [hy]; unfold psP; split
    · rename_i h
      simp only [psOk, Bool.and_eq_true, decide_eq_true_eq, word_iff] at h
      exact pt_bd (psb_bytes hs ht h.1.2.1 h.1.2.2 h.2.1 h.2.2)
    · simp
  obtain ⟨y0, y1⟩ := hyb
  clear hs ht hy hf hp hn
  go_enter Try.func7, Try.ntmps7
  go_wp2_with (refine wpList_box24 rfl _ rfl s rfl ?_; refine Hid.out ?_)
  refine Lib.hid ?_
  intro g1 w1 hg_g1 hb haw
  replace HA := Lib.hid (HA.out.on haw)
  clear haw
  have H1 := Lib.hid hb
  have hl_g1 := hb.lt
  clear hb
  go_wp2_with (refine wpList_box24 rfl _ rfl t rfl ?_; refine Hid.out ?_)
  refine Lib.hid ?_
  intro g2 w2 hg_g2 hb haw
  replace HA := Lib.hid (HA.out.on haw)
  replace H1 := Lib.hid (H1.out.on haw)
  clear haw
  have H2 := Lib.hid hb
  have hl_g2 := hb.lt
  clear hb
  go_wp2_with (first | (refine wpList_loadX rfl _ rfl g1 rfl s (by exact H1.out) HS.out ?_) | (refine wpList_loadX rfl _ rfl g2 rfl t (by exact H2.out) HT.out ?_))
  refine (pseudo_c s t p n _ HS.out HT.out).mono ?_
  rw [HYE.out]
  rintro E w3 ⟨rfl, haw⟩
  replace HA := Lib.hid (HA.out.on haw)
  replace H1 := Lib.hid (H1.out.on haw)
  replace H2 := Lib.hid (H2.out.on haw)
  clear haw
  go_wp2_with (first | (refine wpList_loadX rfl _ rfl g1 rfl s (by exact H1.out) HS.out ?_) | (refine wpList_loadX rfl _ rfl g2 rfl t (by exact H2.out) HT.out ?_))
  refine (rpseudo_c s t p n _ HS.out HT.out).mono ?_
  rw [HYE.out]
  rintro E w4 ⟨rfl, haw⟩
  replace HA := Lib.hid (HA.out.on haw)
  replace H1 := Lib.hid (H1.out.on haw)
  replace H2 := Lib.hid (H2.out.on haw)
  clear haw
  go_wp2_with fail
  refine (known_c _).mono ?_
  rintro E w5 ⟨rfl, haw⟩
  replace HA := Lib.hid (HA.out.on haw)
  replace H1 := Lib.hid (H1.out.on haw)
  replace H2 := Lib.hid (H2.out.on haw)
  clear haw
  have q1 : (y == y) = true := by simp
  have q2 : (f == f) = true := by simp
  go_wp2_with fail
  go_ret
  exact ⟨rfl, HA.out.to_below⟩
end udpPseudos
namespace udpPseudos
theorem lifted (os : Os) (started : os.Started) (H : Type) (enc : TypeId × Value → H) :
    ReturnsInHanded {} Try.checked os 7 .any (Rows.udpPseudosSpec.pre6 enc Try.prog Try.f7 Rows.udpPseudosRow.domain false) (Rows.udpPseudosSpec.post enc Try.prog Try.f7 false true false false) := by
  refine returnsInHanded_of_change_sized (C := Try.checked) ownKn started (by kernel_rfl) Try.func7
    (ChangeSpec.witness6 (enc := enc) (C := Try.checked) false ⟨#[], #[.agg (csA 0 z16), .agg (csA 0 z16), .int .i64 0, .int .i64 0], []⟩ 8 (by kernel_rfl) (by kernel_rfl) (by kernel_rfl) (by kernel_rfl)) ?_
  intro W base args ds gs before hval0 hW _ hsz0 _
  have hsz : (DataW.weightsEach Try.prog (Try.f7.params.toList ++ Rows.udpPseudosSpec.plain.varTypes Try.prog) (ds ++ gs)).all (· ≤ reachBytes) = true := hsz0
  clear hsz0
  have hval : ∀ (j : Nat) t v, Try.f7.params[j]? = some t → args[j]? = some v → Value.okWide Try.prog W .any base t v := hval0
  have hW' := hW
  obtain ⟨p, q, hA0, hV, rfl, hfz, hnd⟩ := hW
  have hA : DataW.TrodAll enc Try.prog W 0 (fun _ => true) true Try.f7.params.toList args.toList ds p := hA0
  rw [Try.params7] at hA hval hsz
  obtain ⟨v0, vs0, d0, ds0, p0, q0, hargs, rfl, rfl, h0, r0⟩ := trodAll_cons hA
  obtain ⟨v1, vs1, d1, ds1, p1, q1, rfl, rfl, rfl, h1, r1⟩ := trodAll_cons r0
  obtain ⟨v2, vs2, d2, ds2, p2, q2, rfl, rfl, rfl, h2, r2⟩ := trodAll_cons r1
  obtain ⟨v3, vs3, d3, ds3, p3, q3, rfl, rfl, rfl, h3, r3⟩ := trodAll_cons r2
  obtain ⟨rfl, rfl, rfl⟩ := trodAll_nil r3
  obtain rfl : args = #[v0, v1, v2, v3] := by cases args; simp_all
  have hV2 : DataW.TrodVars enc Try.prog W (fun _ => true) Rows.udpPseudosSpec.vars gs q := hV
  obtain ⟨rfl, rfl⟩ := trodVars_none hV2
  have k0 := h0
  have lt0 : ∀ x ∈ p0, x.block < W.heap.size := by obtain ⟨m, hm⟩ := k0; exact DataW.trod_lt m _ _ _ hm
  have z0 : ∀ m ∈ d0.weights Try.prog 24, m ≤ reachBytes := fun m hm => by
    have := List.all_eq_true.1 hsz m (DataW.weights_mem_each (j := 0) (t := 24) rfl rfl m hm)
    simpa using this
  obtain ⟨x0, rfl, w0⟩ := open_ax (hval 0 24 v0 rfl rfl) h0
  have k1 := h1
  have lt1 : ∀ x ∈ p1, x.block < W.heap.size := by obtain ⟨m, hm⟩ := k1; exact DataW.trod_lt m _ _ _ hm
  have z1 : ∀ m ∈ d1.weights Try.prog 24, m ≤ reachBytes := fun m hm => by
    have := List.all_eq_true.1 hsz m (DataW.weights_mem_each (j := 1) (t := 24) rfl rfl m hm)
    simpa using this
  obtain ⟨x1, rfl, w1⟩ := open_ax (hval 1 24 v1 rfl rfl) h1
  obtain ⟨a2, rfl, rfl, rfl, w2⟩ := open_int Try.underlying3 (hval 2 3 v2 rfl rfl) h2
  obtain ⟨a3, rfl, rfl, rfl, w3⟩ := open_int Try.underlying3 (hval 3 3 v3 rfl rfl) h3
  clear hA0 hval0
  refine (walk x0 x1 a2 a3 W w0 w1 w2 w3).mono fun e W' ⟨he, bel⟩ => ?_
  subst he
  exact ⟨_, rfl, _, _, _, [], _, [], hW', trodAll_mk1 (shut_bool Try.underlying4 _), (trodAll_cons_mk (Below.trod laidOut (by kernel_rfl) (of_decide_eq_true (by kernel_rfl)) k0 bel lt0) (trodAll_cons_mk (Below.trod laidOut (by kernel_rfl) (of_decide_eq_true (by kernel_rfl)) k1 bel lt1) (trodAll_cons_mk (shut_int Try.underlying3 w2) (trodAll_cons_mk (shut_int Try.underlying3 w3) trodAll_mk0)))), rfl, bel.frame _, fun h => by cases h⟩
theorem over : Rows.udpPseudosRow.holds Try.pinned (OpenSpec.ofChange Rows.udpPseudosSpec) :=
  OpenClaim.holds_of_wide 7 Try.f7 rfl rfl rfl rfl rfl rfl rfl ⟨rfl, rfl, rfl, rfl, rfl⟩ rfl rfl rfl rfl rfl (by kernel_rfl) Try.func7 (by kernel_rfl)
    (of_decide_eq_true (by kernel_rfl)) (by unfold Func.isWrapper; first | (rw [if_pos (by decide +kernel)]; kernel_rfl) | (rw [if_neg (by decide +kernel)]; exact ⟨rfl, rfl⟩))
    (fun os started H enc _ => lifted os started H enc)
end udpPseudos
theorem udpPseudos_holds : Rows.UdpPseudosSaid := udpPseudos.over
#print axioms udpPseudos_holds
end Go.Proofs.Ytbfpphoiapggnaa
