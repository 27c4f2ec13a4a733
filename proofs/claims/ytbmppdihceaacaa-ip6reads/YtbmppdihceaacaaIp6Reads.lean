/-
  Ip6Reads: Parse as the document has it.
-/
import Derived.Test.YtbmppdihceaacaaAlive
import Derived.Test.YtbmppdihceaacaaRefP
namespace Go.Proofs.Ytbmppdihceaacaa
open Go.ChangeShapes Go.WideShapes Go.ChangeAt Go.RowKit Go.Deep Num
set_option linter.unusedVariables false
set_option maxHeartbeats 8000000
set_option maxRecDepth 100000

namespace ip6Reads
theorem walk (ba : Option Addr) (b : List Int) (bcap : Nat) (W : World) (hbc : b.length ≤ bcap) (hbr : Row W ba b) (hbn : ba = none → bcap = 0) (hbcc : bcap ≤ 140737488351232) :
    Calls Try.prog 8 #[.slice ba b.length bcap] W fun e W' => e = .returned (.bool true) ∧ Below W.heap.size W W' := by
  have HBS : Hid (Sl W (.slice ba b.length bcap) b) := ⟨ba, bcap, rfl, hbc, hbn, hbr⟩
  have HBR := Lib.hid hbr
  have HA : Hid (Away [] W W) := Away.refl _ _
  have hbl := hbr.1
  have HBB := Lib.hid hbr.2.1
  obtain ⟨y, hy⟩ : ∃ y, y = (parse6 b).1 := ⟨_, rfl⟩
  obtain ⟨f, hf⟩ : ∃ f, f = (parse6 b).2 := ⟨_, rfl⟩
  have HYE : Hid (parse6 b = (y, f)) := by rw [hy, hf]; rfl
  have HYW : Hid (Wf y) := by rw [hy]; exact parse6_wf hbr.2.1 hbl
  have hff : (f == f) = true := by simp
  clear hbr hy hf
  go_enter Try.func8, Try.ntmps8
  go_wp2_with fail
  refine (alive_c W).mono ?_
  rintro E w1 ⟨rfl, haw⟩
  replace HA := Lib.hid (HA.out.on haw)
  replace HBS := Lib.hid (HBS.out.on haw)
  replace HBR := Lib.hid (HBR.out.on haw)
  clear haw
  go_upto_region 4 with fail
  have hA0 := (Away.refl [] w1).alloc (.cells #[] 5)
  go_wp2_with (at_builtin; refine wpList_appS rfl _ _ rfl _ [] b rfl (owns_lit0 w1 _ rfl) _ rfl (HBS.out.on hA0) (by simpa using HBS.out.bytes.2) ?_; refine Hid.out ?_)
  refine Lib.hid ?_
  intro v2 w2 hown hawx hmvx
  obtain ⟨haw, hnew⟩ := fresh hawx hmvx
  clear hawx hmvx hA0
  replace HA := Lib.hid (HA.out.on haw)
  replace HBS := Lib.hid (HBS.out.on haw)
  replace HBR := Lib.hid (HBR.out.on haw)
  clear haw
  have HV2 := Lib.hid hown
  have hn_v2 := Lib.hid hnew
  clear hown hnew
  obtain ⟨a2, k2, hv2, hk2⟩ := HV2.out.slc
  subst hv2
  obtain ⟨_, hz4, hz5, hz6⟩ := (HV2.out.sl HBB.out hbl).of
  have HRW := Lib.hid hz6
  clear hz6
  go_wp2_with fail
  refine (parse_c a2 b _ k2 _ rfl hz4 hz5 (by exact HRW.out)).mono ?_
  rintro E w3 ⟨oy, dy, rfl, hou, hdu, hno, hnd, hap, haw⟩
  rw [HYE.out] at hou hdu ⊢
  replace HA := Lib.hid (HA.out.on haw)
  replace HBS := Lib.hid (HBS.out.on haw)
  replace HBR := Lib.hid (HBR.out.on haw)
  replace HV2 := Lib.hid (HV2.out.on haw)
  clear haw
  have HY : Hid (Mine w3 w2.heap.size _ oy dy) := ⟨hou, hdu, hno, hnd, hap⟩
  clear hou hdu hno hnd hap
  clear HV2
  clear HRW
  have ky1 := HY.out.ov; have ky2 := HY.out.dv
  go_wp2_with (first | (refine wpList_new28 rfl rfl rfl _ _ rfl y oy dy (fun _ => rfl) (fun _ => rfl) HYW.out.ad ky1 ky2 ?_; refine Hid.out ?_))
  refine Lib.hid ?_
  intro g4 w4 hg_g4 hb haw
  replace HA := Lib.hid (HA.out.on haw)
  replace HBS := Lib.hid (HBS.out.on haw)
  replace HBR := Lib.hid (HBR.out.on haw)
  replace HY := Lib.hid (HY.out.on haw)
  clear haw
  have HBY := Lib.hid hb
  have hl_g4 := hb.lt
  clear hb
  go_wp2_with fail
  refine (rparse_c ba b _ bcap _ rfl hbc hbn (by exact HBR.out)).mono ?_
  rintro E w5 ⟨oz, dz, rfl, hou, hdu, haw⟩
  rw [HYE.out] at hou hdu ⊢
  replace HA := Lib.hid (HA.out.on haw)
  replace HBS := Lib.hid (HBS.out.on haw)
  replace HBR := Lib.hid (HBR.out.on haw)
  replace HY := Lib.hid (HY.out.on haw)
  replace HBY := Lib.hid (HBY.out.on haw)
  clear haw
  have HZP : Hid (Pkt w5 y oz dz) := pkt_of HYW.out hou hdu
  have kz1 : oz.oneCell' = true := HZP.out.ov
  have kz2 : dz.oneCell' = true := HZP.out.dv
  clear hou hdu
  go_wp2_with (first | (refine wpList_new28 rfl rfl rfl _ _ rfl y oz dz (fun _ => rfl) (fun _ => rfl) HYW.out.ad kz1 kz2 ?_; refine Hid.out ?_))
  refine Lib.hid ?_
  intro g5 w6 hg_g5 hb haw
  replace HA := Lib.hid (HA.out.on haw)
  replace HBS := Lib.hid (HBS.out.on haw)
  replace HBR := Lib.hid (HBR.out.on haw)
  replace HY := Lib.hid (HY.out.on haw)
  replace HBY := Lib.hid (HBY.out.on haw)
  replace HZP := Lib.hid (HZP.out.on haw)
  clear haw
  have HBZ := Lib.hid hb
  have hl_g5 := hb.lt
  clear hb
  go_wp2_with (first | (refine wpList_load28 rfl _ rfl g4 rfl y _ _ (by exact HBY.out) HYW.out.ad ?_) | (refine wpList_load28 rfl _ rfl g5 rfl y _ _ (by exact HBZ.out) HYW.out.ad ?_))
  refine (sameP_yes y y oy dy oz dz _ (by exact HY.out.pkt HYW.out) (by exact HZP.out) rfl).mono ?_
  rintro E w7 ⟨rfl, haw⟩
  replace HA := Lib.hid (HA.out.on haw)
  replace HBS := Lib.hid (HBS.out.on haw)
  replace HBR := Lib.hid (HBR.out.on haw)
  replace HY := Lib.hid (HY.out.on haw)
  replace HBY := Lib.hid (HBY.out.on haw)
  replace HZP := Lib.hid (HZP.out.on haw)
  replace HBZ := Lib.hid (HBZ.out.on haw)
  clear haw
  go_wp2_with fail
  go_ret
  exact ⟨rfl, HA.out.to_below⟩
end ip6Reads
namespace ip6Reads
theorem lifted (os : Os) (started : os.Started) (H : Type) (enc : TypeId × Value → H) :
    ReturnsInHanded {} Try.checked os 8 .any (Rows.ip6ReadsSpec.pre6 enc Try.prog Try.f8 Rows.ip6ReadsRow.domain false) (Rows.ip6ReadsSpec.post enc Try.prog Try.f8 false true false false) := by
  refine returnsInHanded_of_change_sized (C := Try.checked) ownKn started (by kernel_rfl) Try.func8
    (ChangeSpec.witness6 (enc := enc) (C := Try.checked) false ⟨#[], #[.slice none 0 0], []⟩ 8 (by kernel_rfl) (by kernel_rfl) (by kernel_rfl) (by kernel_rfl)) ?_
  intro W base args ds gs before hval0 hW _ hsz0 _
  have hsz : (DataW.weightsEach Try.prog (Try.f8.params.toList ++ Rows.ip6ReadsSpec.plain.varTypes Try.prog) (ds ++ gs)).all (· ≤ reachBytes) = true := hsz0
  clear hsz0
  have hval : ∀ (j : Nat) t v, Try.f8.params[j]? = some t → args[j]? = some v → Value.okWide Try.prog W .any base t v := hval0
  have hW' := hW
  obtain ⟨p, q, hA0, hV, rfl, hfz, hnd⟩ := hW
  have hA : DataW.TrodAll enc Try.prog W 0 (fun _ => true) true Try.f8.params.toList args.toList ds p := hA0
  rw [Try.params8] at hA hval hsz
  obtain ⟨v0, vs0, d0, ds0, p0, q0, hargs, rfl, rfl, h0, r0⟩ := trodAll_cons hA
  obtain ⟨rfl, rfl, rfl⟩ := trodAll_nil r0
  obtain rfl : args = #[v0] := by cases args; simp_all
  have hV2 : DataW.TrodVars enc Try.prog W (fun _ => true) Rows.ip6ReadsSpec.vars gs q := hV
  obtain ⟨rfl, rfl⟩ := trodVars_none hV2
  have k0 := h0
  have lt0 : ∀ x ∈ p0, x.block < W.heap.size := by obtain ⟨m, hm⟩ := k0; exact DataW.trod_lt m _ _ _ hm
  have z0 : ∀ m ∈ d0.weights Try.prog 26, m ≤ reachBytes := fun m hm => by
    have := List.all_eq_true.1 hsz m (DataW.weights_mem_each (j := 0) (t := 26) rfl rfl m hm)
    simpa using this
  obtain ⟨a0, len0, cap0, rfl⟩ := okWide_slice Try.underlying26 (hval 0 26 v0 rfl rfl)
  obtain ⟨l0, rfl, c0, cc0, w0, n0, u0⟩ := open_bytes h0 z0
  clear hA0 hval0
  refine (walk a0 l0 cap0 W c0 w0 n0 cc0).mono fun e W' ⟨he, bel⟩ => ?_
  subst he
  exact ⟨_, rfl, _, _, _, [], _, [], hW', trodAll_mk1 (shut_bool Try.underlying4 _), (trodAll_cons_mk (Below.trod laidOut (by kernel_rfl) (of_decide_eq_true (by kernel_rfl)) k0 bel lt0) trodAll_mk0), rfl, bel.frame _, fun h => by cases h⟩
theorem over : Rows.ip6ReadsRow.holds Try.pinned (OpenSpec.ofChange Rows.ip6ReadsSpec) :=
  OpenClaim.holds_of_wide 8 Try.f8 rfl rfl rfl rfl rfl rfl rfl ⟨rfl, rfl, rfl, rfl, rfl⟩ rfl rfl rfl rfl rfl (by kernel_rfl) Try.func8 (by kernel_rfl)
    (of_decide_eq_true (by kernel_rfl)) (by unfold Func.isWrapper; first | (rw [if_pos (by decide +kernel)]; kernel_rfl) | (rw [if_neg (by decide +kernel)]; exact ⟨rfl, rfl⟩))
    (fun os started H enc _ => lifted os started H enc)
end ip6Reads
theorem ip6Reads_holds : Rows.Ip6ReadsSaid := ip6Reads.over
#print axioms ip6Reads_holds
end Go.Proofs.Ytbmppdihceaacaa
