/-
  RecutJoins.
-/
import Derived.Test.YtaicckenpplceaaGreatDoorKitL
import Derived.Test.YtaicckenpplceaaGreatDoorOw
import Derived.Test.YtaicckenpplceaaGreatDoorDj11
namespace Go.Proofs.YtaicckenpplceaaGreatDoor
open Go.ChangeShapes Go.WideShapes Go.ChangeAt Go.RowKit Go.Deep Num
open S6 (ld26 load28_run load24m_run)
set_option linter.unusedVariables false
set_option linter.unusedSimpArgs false
set_option maxHeartbeats 8000000
set_option maxRecDepth 100000

namespace recutJoins
theorem walk (a : Option Addr) (xs : List X) (N cap : Nat) (w : World) (hg : Glob w) (hlen : xs.length = N) (hN : N ≤ 925904528626) (hx : Pks w a xs) (hb : ∀ x ∈ xs, x.p.o.length ≤ 140737488351232 ∧ x.p.d.length ≤ 140737488351232) :
    Calls Tryz.prog 3 #[.slice a N cap] w fun E w' => E = .returned (.bool true) ∧ Below w.heap.size w w' := by
  have HG := Lib.hid hg
  have HX := Lib.hid hx
  have HL := Lib.hid hlen
  clear hg hlen hx hb
  go_enter Tryz.func3, Tryz.ntmps3
  have K1 := Lib.hid (R.owns_c a xs N cap w HL.out HX.out (by omega))
  go_wp2_with (go_at_call 5; refine K1.out.mono ?_; refine Hid.out ?_)
  refine Lib.hid ?_
  first
    | rintro E w1 v ys rfl hcu hys haw
    | rintro E w1 ⟨v, ys, rfl, hcu, hys, haw⟩
  have HA := Lib.hid haw
  have hyl : ys.length = N := by have h := congrArg List.length hys; rw [List.length_map, List.length_map, HL.out] at h; exact h
  obtain ⟨a1, c1, hv1, -, hn1, hp1, -⟩ := hcu.pks (by omega)
  rw [hyl] at hv1
  subst hv1
  have HYL := Lib.hid hyl
  have h2 := R.join_c a1 ys N c1 w1 hyl hn1 hp1 (HG.out.on HA.out)
  unfold R.JoinOut at h2
  rw [hys] at h2
  have K2 := Lib.hid h2
  clear h2 hcu hys haw hyl hn1 hp1 K1
  go_wp2_with (go_at_call 4; refine K2.out.mono ?_; refine Hid.out ?_)
  refine Lib.hid ?_
  first
    | rintro E w2 t c ov dv hjt rfl hwt hmi haw
    | rintro E w2 ⟨t, c, ov, dv, hjt, rfl, hwt, hmi, haw⟩
  obtain ⟨s, hsp, hss, hts⟩ : ∃ s, s.Perm (xs.map X.p) ∧ R.Srt s ∧ R.DJoin (xs.map X.p) s = (t, c) := by
    rcases hjt with ⟨h0, rfl, rfl⟩ | ⟨h1, s, hp, hs, he⟩
    · obtain ⟨s, hp, hs⟩ := R.exists_srt (xs.map X.p)
      exact ⟨s, hp, hs, by unfold R.DJoin; rw [if_neg (by rw [h0]; simp)]⟩
    · exact ⟨s, hp, hs, by unfold R.DJoin; rw [if_pos h1, he]⟩
  obtain ⟨oa, oc, ho⟩ := hmi.o.shape
  obtain ⟨da, dc, hd⟩ := hmi.d.shape
  generalize t.o.length = on at ho
  generalize t.d.length = dn at hd
  subst ho; subst hd
  have HWT := Lib.hid hwt
  have HMI := Lib.hid hmi
  have HSP := Lib.hid hsp; have HSS := Lib.hid hss; have HTS := Lib.hid hts
  replace HA := Lib.hid (HA.out.trans haw)
  have hlto := hmi.lto
  have HLT := Lib.hid hlto
  clear hjt hwt hmi hsp hss hts haw K2 HYL hlto
  go_wp2_with (refine wpList_alloc28 rfl rfl ?_; refine Hid.out ?_)
  refine Lib.hid ?_
  intro g3 w3 hg3 hb3 haw
  have HB3 := Lib.hid hb3
  replace HMI := Lib.hid (HMI.out.on haw)
  have HG3 : Hid (w.heap.size ≤ g3) := Nat.le_trans HA.out.size hg3
  have HNE : Hid (∀ k, (Value.slice oa on oc).ownBlock = some k ∨ (Value.slice da dn dc).ownBlock = some k → k ≠ g3) := fun k hk e => by have := (HLT.out k hk).1; omega
  replace HA := Lib.hid (HA.out.trans haw)
  clear hb3 haw hg3 HLT
  go_wp2_with (refine wpList_store28 rfl _ _ rfl g3 rfl t (.slice oa on oc) (.slice da dn dc) rfl zeroPk (.slice none 0 0) (.slice none 0 0) (by exact HB3.out) HWT.out.ad ⟨rfl, rfl⟩ rfl rfl ?_; refine Hid.out ?_)
  refine Lib.hid ?_
  intro w4 hb3 haw
  replace HB3 := Lib.hid hb3
  replace HMI := Lib.hid (HMI.out.away haw (fun k hk => by simp; exact HNE.out k hk))
  replace HA := Lib.hid (HA.out.next haw (fun x hx => .inr (by simp at hx; subst hx; exact HG3.out)))
  clear hb3 haw HG3 HNE
  have h3 := R.djoin_c a xs N cap w4 HL.out (HX.out.on HA.out) s HSP.out HSS.out
  rw [HTS.out] at h3
  dsimp only at h3
  have K3 := Lib.hid h3
  clear h3 HSP HSS HTS
  go_wp2_with (go_at_call 6; refine K3.out.mono ?_; refine Hid.out ?_)
  refine Lib.hid ?_
  first
    | rintro E w5 ou du rfl hmj haw
    | rintro E w5 ⟨ou, du, rfl, hmj, haw⟩
  obtain ⟨oa2, oc2, ho⟩ := hmj.o.shape
  obtain ⟨da2, dc2, hd⟩ := hmj.d.shape
  generalize t.o.length = on2 at ho
  generalize t.d.length = dn2 at hd
  subst ho; subst hd
  have HMJ := Lib.hid hmj
  have hlto := hmj.lto
  have HLT := Lib.hid hlto
  have hlt2 := HMI.out.lto
  replace HMI := Lib.hid (HMI.out.on haw)
  replace HB3 := Lib.hid (HB3.out.on haw)
  have h35 : g3 < w5.heap.size := HB3.out.lt
  have HLI : Hid (∀ k, (Value.slice oa on oc).ownBlock = some k ∨ (Value.slice da dn dc).ownBlock = some k → k < w5.heap.size) := fun k hk => by have := HMI.out.lto k hk; omega
  replace HA := Lib.hid (HA.out.trans haw)
  clear hmj haw hlto hlt2 K3
  go_wp2_with (refine wpList_alloc28 rfl rfl ?_; refine Hid.out ?_)
  refine Lib.hid ?_
  intro g5 w6 hg5 hb5 haw
  have HB5 := Lib.hid hb5
  replace HMI := Lib.hid (HMI.out.on haw)
  replace HMJ := Lib.hid (HMJ.out.on haw)
  replace HB3 := Lib.hid (HB3.out.on haw)
  have HG5 : Hid (w.heap.size ≤ g5) := Nat.le_trans HA.out.size hg5
  have HNE : Hid (∀ k, (Value.slice oa on oc).ownBlock = some k ∨ (Value.slice da dn dc).ownBlock = some k → k ≠ g5) := fun k hk e => by have := HLI.out k hk; omega
  have HNF : Hid (∀ k, (Value.slice oa2 on2 oc2).ownBlock = some k ∨ (Value.slice da2 dn2 dc2).ownBlock = some k → k ≠ g5) := fun k hk e => by have := (HLT.out k hk).1; omega
  have H35 : Hid (g3 ≠ g5) := by show _ ≠ _; omega
  replace HA := Lib.hid (HA.out.trans haw)
  clear hb5 haw hg5 HLT HLI h35
  go_wp2_with (refine wpList_store28 rfl _ _ rfl g5 rfl t (.slice oa2 on2 oc2) (.slice da2 dn2 dc2) rfl zeroPk (.slice none 0 0) (.slice none 0 0) (by exact HB5.out) HWT.out.ad ⟨rfl, rfl⟩ rfl rfl ?_; refine Hid.out ?_)
  refine Lib.hid ?_
  intro w7 hb5 haw
  replace HB5 := Lib.hid hb5
  replace HMI := Lib.hid (HMI.out.away haw (fun k hk => by simp; exact HNE.out k hk))
  replace HMJ := Lib.hid (HMJ.out.away haw (fun k hk => by simp; exact HNF.out k hk))
  replace HB3 := Lib.hid (HB3.out.away haw (by simp; exact H35.out))
  replace HA := Lib.hid (HA.out.next haw (fun x hx => .inr (by simp at hx; subst hx; exact HG5.out)))
  clear hb5 haw HG5 HNE HNF H35
  have HAD := Lib.hid HWT.out.ad
  have HP := Lib.hid (HMI.out.pkt HWT.out)
  have HQ := Lib.hid (HMJ.out.pkt HWT.out)
  clear HMI HMJ
  have K4 := Lib.hid (R.known_c w7 (HG.out.on HA.out))
  have hcc : (c == c) = true := by simp
  go_wp2_with (go_at_call 7; refine K4.out.mono ?_; refine Hid.out ?_)
  refine Lib.hid ?_
  first
    | rintro E w8 rfl haw
    | rintro E w8 ⟨rfl, haw⟩
  replace HA := Lib.hid (HA.out.trans haw)
  replace HP := Lib.hid (HP.out.on haw)
  replace HQ := Lib.hid (HQ.out.on haw)
  replace HB3 := Lib.hid (HB3.out.on haw)
  replace HB5 := Lib.hid (HB5.out.on haw)
  clear haw K4
  have K5 := Lib.hid (R.Same_yes t (.slice oa on oc) (.slice da dn dc) (.slice oa2 on2 oc2) (.slice da2 dn2 dc2) w8 HP.out HQ.out)
  go_wp2_with (first
    | (refine wpList_load28 rfl _ rfl g3 rfl t _ _ (by exact HB3.out) HAD.out ?_)
    | (refine wpList_load28 rfl _ rfl g5 rfl t _ _ (by exact HB5.out) HAD.out ?_)
    | (go_at_call 8; refine K5.out.mono ?_; refine Hid.out ?_))
  refine Lib.hid ?_
  first
    | rintro E w9 rfl haw
    | rintro E w9 ⟨rfl, haw⟩
  replace HA := Lib.hid (HA.out.trans haw)
  clear haw K5
  go_wp2_with fail
  go_ret
  exact ⟨rfl, HA.out.to_below⟩
end recutJoins
namespace recutJoins
theorem contract (H : Type) (enc : TypeId × Value → H) (W : World) (base : Nat) (args : Array Value) (ds gs : List (DataW H)) (before : List MemPlace)
    (hval0 : ∀ (j : Nat) t v, Tryz.f3.params[j]? = some t → args[j]? = some v → Value.okWide Tryz.prog W .any base t v)
    (hW : DataW.Whole enc Tryz.prog Tryz.f3.params.toList Rows.recutJoinsSpec.vars false W args.toList ds gs before)
    (hsz0 : (DataW.weightsEach Tryz.prog (Tryz.f3.params.toList ++ Rows.recutJoinsSpec.plain.varTypes Tryz.prog) (ds ++ gs)).all (· ≤ reachBytes) = true)
    (hL : laidMetH Tryz.prog Rows.recutJoinsRow.laid W) :
    Calls Tryz.prog 3 args W fun e W' => ∃ v, e = .returned v ∧ Rows.recutJoinsSpec.post enc Tryz.prog Tryz.f3 false true false false W args v W' := by
  have hval := hval0
  have hsz := hsz0
  have hW' := hW
  obtain ⟨p, q, hA0, hV, rfl, hfz, hnd⟩ := hW
  have hA : DataW.TrodAll enc Tryz.prog W 0 (fun _ => true) true Tryz.f3.params.toList args.toList ds p := hA0
  rw [Tryz.params3] at hA hval hsz
  obtain ⟨v0, vs0, d0, ds0, p0, q0, hargs, rfl, rfl, h0, r0⟩ := trodAll_cons hA
  obtain ⟨rfl, rfl, rfl⟩ := trodAll_nil r0
  obtain rfl : args = #[v0] := by cases args; simp_all
  obtain ⟨rfl, rfl⟩ := trodVars_none hV
  have k0 := h0
  have lt0 : ∀ x ∈ p0, x.block < W.heap.size := by obtain ⟨m, hm⟩ := k0; exact DataW.trod_lt m _ _ _ hm
  have z0 : ∀ m ∈ d0.weights Tryz.prog 22, m ≤ reachBytes := fun m hm => by
    have := List.all_eq_true.1 hsz m (DataW.weights_mem_each (j := 0) (t := 22) rfl rfl m hm)
    simpa using this
  obtain ⟨a0, len0, cap0, rfl⟩ := okWide_slice Tryz.underlying22 (hval 0 22 v0 rfl rfl)
  obtain ⟨xs0, hl0, hb0, he0, hr0⟩ := open_pkts h0 z0
  clear hA0 hval0
  refine (walk a0 xs0 len0 cap0 W (glob_of hL) hl0 hb0 ⟨by rw [hl0]; omega, fun x hx => (he0 x hx).1, hr0⟩ (fun x hx => (he0 x hx).2)).mono fun e W' ⟨he, bel⟩ => ?_
  subst he
  exact ⟨_, rfl, _, _, _, [], _, [], hW', trodAll_mk1 (shut_bool Tryz.underlying4 _), (trodAll_cons_mk (Below.trod laidOut (by kernel_rfl) (of_decide_eq_true (by kernel_rfl)) k0 bel lt0) trodAll_mk0), rfl, bel.frame _, fun h => by cases h⟩
theorem laid_met (os : Os) : laidMet Tryz.prog Rows.recutJoinsRow.laid ((laidWorld Tryz.prog os).forCall (fun _ _ => 0) ⟨#[], #[.slice none 0 0], []⟩).memory :=
  laidMet_of_run' 8 (by kernel_rfl) (by kernel_rfl)
theorem reads (os : Os) {H : Type} (enc : TypeId × Value → H) : ∃ places, DataW.whole enc Tryz.prog ((laidWorld Tryz.prog os).forCall (fun _ _ => 0) ⟨#[], #[.slice none 0 0], []⟩).memory Tryz.f3.params.toList Rows.recutJoinsSpec.vars false #[.slice none 0 0].toList 8 = some ([.nil], [], places) :=
  ⟨[], by kernel_rfl⟩
theorem lifted (os : Os) (started : os.Started) (H : Type) (enc : TypeId × Value → H) (F : Stop.Interp) :
    ReturnsInHanded {} Tryz.checked os 3 .any ((OpenSpec.ofChange Rows.recutJoinsSpec).preRow enc Tryz.prog Tryz.f3 Rows.recutJoinsRow.domain false Rows.recutJoinsRow.laid) (((OpenSpec.ofChange Rows.recutJoinsSpec).at F).post enc Tryz.prog Tryz.f3 false true false false) := by
  obtain ⟨places, hx⟩ := reads os enc
  refine returnsInHanded_of_row (C := Tryz.checked) (s := OpenSpec.ofChange Rows.recutJoinsSpec) ownKn started (by kernel_rfl) Tryz.func3
    (witness_row_at (enc := enc) (C := Tryz.checked) false (laidWorld Tryz.prog os) #[.slice none 0 0] rfl (by kernel_rfl) (by kernel_rfl) (by kernel_rfl)
      (OpenSpec.preRow_of_cond 8 hx (by kernel_rfl) (fun k hk => by cases hk) (by kernel_rfl) (laid_met os))) ?_
  intro W base args ds gs before hval hW _ hcond hsz hL hS _
  exact contract H enc W base args ds gs before hval hW hsz hL
theorem said : Rows.RecutJoinsSaid :=
  OpenClaim.holds_of_cond 3 Tryz.f3 rfl rfl rfl rfl rfl rfl rfl ⟨rfl, rfl, rfl, rfl, rfl⟩ rfl rfl rfl rfl rfl (by kernel_rfl) Tryz.func3 (by kernel_rfl)
    (of_decide_eq_true (by kernel_rfl)) (by unfold Func.isWrapper; first | (rw [if_pos (by decide +kernel)]; kernel_rfl) | (rw [if_neg (by decide +kernel)]; exact ⟨rfl, rfl⟩))
    (fun os started H enc _ F => by rw [OpenClaim.pre_eq_preRow]; exact lifted os started H enc F)
theorem plain (f : FuncId) (fn : Func) (hf : Tryz.pinned.checked.prog.funcNamed "mosaic/mosaiclaw11.RecutJoins" = some f) (hfn : Tryz.pinned.checked.prog.funcs[f]? = some fn) :
    false = Tryz.pinned.checked.prog.looks [] ∧ ∀ (j : Nat) t, fn.params[j]? = some t → Tryz.pinned.checked.prog.wantsStandIn t = false := by
  obtain rfl : f = 3 := Option.some.inj ((show Tryz.prog.funcNamed "mosaic/mosaiclaw11.RecutJoins" = some 3 by kernel_rfl).symm.trans hf) |>.symm
  obtain rfl : fn = Tryz.f3 := (Option.some.inj (Tryz.func3.symm.trans hfn)).symm
  refine ⟨by kernel_rfl, fun j t ht => ?_⟩
  rw [Tryz.params3] at ht
  have hm := Array.mem_of_getElem? ht
  simp only [List.mem_toArray, List.mem_cons, List.not_mem_nil, or_false] at hm
  have hw0 : Tryz.prog.wantsStandIn 22 = false := by kernel_rfl
  subst hm
  all_goals first | exact hw0
theorem card : Rows.RecutJoinsCardSaid :=
  Claim7.holds_tied_plain_at .later [] _ _ _ _ said (fun _ h => by cases h) (by kernel_rfl) (fun _ h => by cases h) recutJoins_row_tie rfl ⟨rfl, rfl⟩ (by kernel_rfl) rfl plain (by kernel_rfl)
end recutJoins
theorem recutJoins_holds : Rows.RecutJoinsCardSaid := recutJoins.card
#print axioms recutJoins_holds
end Go.Proofs.YtaicckenpplceaaGreatDoor
