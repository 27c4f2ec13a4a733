/-
  Ip4Parses: P5.1, every Parse.
-/
import Derived.Test.YtkfbhofbajejiabDoorRefP
namespace Go.Proofs.YtkfbhofbajejiabDoor
open Go.ChangeShapes Go.WideShapes Go.ChangeAt Go.RowKit Go.Deep Num
set_option linter.unusedVariables false
set_option maxHeartbeats 4000000
set_option maxRecDepth 100000

/-- An append that may stand behind a guard. -/
theorem wpList_appG {w : World} {ops : Array Oper} {rest : List Oper} {o : Oper} {a : Act} {Q : Exit → Act → World → Prop} (hw : Region.wanted o (yielded ops a.tmps) = true) (s x : Operand)
    (ho : o.op = .call { callee := .builtin .append, args := #[s, x], argTypes := #[26, 26] }) (v : Value) (l m : List Int) (hs : a.eval s = v) (hown : Owns w v l)
    (ad : Addr) (n c : Nat) (hx : a.eval x = .slice (some ad) n c) (hn : m.length = n) (hm : ∀ j u, (m.map (Value.int .u8))[j]? = some u → w.cell? (ad.add j) = some u) (hlen : l.length + n ≤ 140737488355328)
    (h : ∀ v' w', Owns w' v' (l ++ m) → w.grownBy w' v.ownBlock → Moved w v v' → wpList Tryd.prog ops Q rest (a.put o.dst v') w') : wpList Tryd.prog ops Q (o :: rest) a w := by
  obtain ⟨v', w', hrun, r1, r2, r3⟩ := run_appB o.type w v l m hown ad n c hn hm hlen
  refine BigFrame.wpList_want hw fun K hK => ?_
  unfold Oper.wp
  simp [execOp, ho, resolve, invoke, builtin, hs, hx, hrun, Result.andThen]
  exact hK _ _ (h v' w' r1 r2 r3)
theorem app_away {w w2 : World} {o : Obj} {v : Value} (hn : New w.heap.size v) (hgr : (w.alloc o).grownBy w2 v.ownBlock) : Away [] w w2 :=
  ((Away.refl [] w).alloc o).grown hgr (fun k hk => .inr (hn k hk))
theorem walk (a : Option Addr) (l : List Int) (cap : Nat) (W : World) (hg : Glob W) (hc : l.length ≤ cap) (hr : Row W a l) (hn : a = none → cap = 0) (hcc : cap ≤ 140737488351232) :
    Calls Tryd.prog 4 #[.slice a l.length cap] W fun e W' => e = .returned (.bool true) ∧ Below W.heap.size W W' := by
  have HG := Lib.hid hg
  have HA := Lib.hid (Away.refl [] W)
  have HR := Lib.hid hr
  have HBY := Lib.hid hr.2.1
  have hln0 := hr.1
  clear hg hr
  have HFB : Hid (Bytes (l ++ [165, 166])) := HBY.out.app (by unfold Bytes; decide)
  have HFL : Hid ((l ++ [165, 166]).length = l.length + 2) := by show _ = _; simp
  have HFT : Hid ((l ++ [165, 166]).take l.length = l) := List.take_left
  go_enter Tryd.func4, Tryd.ntmps4
  go_wp2_with fail
  refine (alive_c _ HG.out).mono ?_
  rintro E w2 ⟨rfl, haw⟩
  replace HG := Lib.hid (HG.out.on haw)
  replace HA := Lib.hid (HA.out.on haw)
  replace HR := Lib.hid (HR.out.on haw)
  clear haw
  go_wp2_with fail
  refine (own_any a l _ cap _ rfl HR.out).mono ?_
  rintro E w3 ⟨v4o, rfl, hown, hnew, haw3, -, -⟩
  have HO := Lib.hid hown
  have HN3 := Lib.hid hnew
  clear hown hnew
  go_wp2_with (at_builtin; refine wpList_appG rfl _ _ rfl _ l [165, 166] rfl (by exact HO.out.away ((Away.refl [] _).alloc _) (by simp)) ⟨w3.heap.size, 0, none⟩ 2 2 rfl rfl (lit_cells _ [165, 166] _ rfl) (by omega) ?_; refine Hid.out ?_)
  refine Lib.hid ?_
  intro v4 w4 hown4 hgr hmv
  have haw : Away [] _ w4 := (haw3.alloc _).grown hgr (fun k hk => .inr (HN3.out k hk))
  replace HG := Lib.hid (HG.out.on haw)
  replace HA := Lib.hid (HA.out.on haw)
  replace HR := Lib.hid (HR.out.on haw)
  clear haw
  clear haw3 hgr hmv HO HN3
  obtain ⟨a4, c4, hv4, hcap4, hn4, hrow, -⟩ := hown4.row (by rw [HFL.out]; omega) HFB.out
  rw [HFL.out] at hv4 hcap4
  subst hv4
  have HF4 := Lib.hid hrow
  clear hown4 hrow
  have hsl := slice_h a4 (l.length + 2) c4 l.length (l.length : Int) rfl (by omega)
  go_wp2_with fail
  refine (parse_c a4 l _ c4 _ rfl (by omega) hn4 (by have h := HF4.out.head l.length; rw [HFT.out] at h; exact h) HG.out).mono ?_
  rintro E w5 ⟨op, dp, rfl, ho, hd, -, -, -, haw⟩
  clear hsl
  replace HG := Lib.hid (HG.out.on haw)
  replace HA := Lib.hid (HA.out.on haw)
  replace HR := Lib.hid (HR.out.on haw)
  replace HF4 := Lib.hid (HF4.out.on haw)
  clear haw
  have HTW := Lib.hid (parse4_wf HBY.out hln0)
  have HTA := Lib.hid HTW.out.ad
  have HT := Lib.hid (pkt_of HTW.out ho hd)
  have h5 := HT.out.ov
  have h6 := HT.out.dv
  clear ho hd
  generalize hpp : parse4 l = pp at *
  have HPP := Lib.hid hpp
  clear hpp
  go_wp2_with (first | (refine wpList_new28 rfl rfl rfl _ _ rfl pp.1 op dp (fun _ => rfl) (fun _ => rfl) HTA.out h5 h6 ?_; refine Hid.out ?_))
  refine Lib.hid ?_
  intro g4 w6 hg_g4 hb haw
  replace HG := Lib.hid (HG.out.on haw)
  replace HA := Lib.hid (HA.out.on haw)
  replace HR := Lib.hid (HR.out.on haw)
  replace HF4 := Lib.hid (HF4.out.on haw)
  replace HT := Lib.hid (HT.out.on haw)
  clear haw
  have HB4 := Lib.hid hb
  clear hb
  go_wp2_with fail
  have hrp := rparse_c a l _ cap _ rfl hc hn HR.out
  refine hrp.mono ?_
  clear hrp
  rintro E w7 ⟨oq, dq, rfl, ho, hd, haw⟩
  rw [HPP.out] at ho hd ⊢
  replace HG := Lib.hid (HG.out.on haw)
  replace HA := Lib.hid (HA.out.on haw)
  replace HR := Lib.hid (HR.out.on haw)
  replace HF4 := Lib.hid (HF4.out.on haw)
  replace HT := Lib.hid (HT.out.on haw)
  replace HB4 := Lib.hid (HB4.out.on haw)
  clear haw
  have HU := Lib.hid (pkt_of HTW.out ho hd)
  have h7 := HU.out.ov
  have h8 := HU.out.dv
  clear ho hd
  go_wp2_with (first | (refine wpList_new28 rfl rfl rfl _ _ rfl pp.1 oq dq (fun _ => rfl) (fun _ => rfl) HTA.out h7 h8 ?_; refine Hid.out ?_))
  refine Lib.hid ?_
  intro g6 w8 hg_g6 hb haw
  replace HG := Lib.hid (HG.out.on haw)
  replace HA := Lib.hid (HA.out.on haw)
  replace HR := Lib.hid (HR.out.on haw)
  replace HF4 := Lib.hid (HF4.out.on haw)
  replace HT := Lib.hid (HT.out.on haw)
  replace HB4 := Lib.hid (HB4.out.on haw)
  replace HU := Lib.hid (HU.out.on haw)
  clear haw
  have HB6 := Lib.hid hb
  clear hb
  have hee : (pp.2 == pp.2) = true := by simp
  go_wp2_with (first | (refine wpList_load28 rfl _ rfl _ rfl pp.1 _ _ (by exact HB4.out) HTA.out ?_; refine Hid.out ?_))
  refine Lib.hid ?_
  go_wp2_with (first | (refine wpList_load28 rfl _ rfl _ rfl pp.1 _ _ (by exact HB6.out) HTA.out ?_; refine Hid.out ?_))
  refine Lib.hid ?_
  go_wp2_with fail
  refine (sameP_yes pp.1 pp.1 op dp oq dq _ HT.out HU.out rfl).mono ?_
  rintro E w9 ⟨rfl, haw⟩
  replace HG := Lib.hid (HG.out.on haw)
  replace HA := Lib.hid (HA.out.on haw)
  replace HR := Lib.hid (HR.out.on haw)
  replace HF4 := Lib.hid (HF4.out.on haw)
  replace HT := Lib.hid (HT.out.on haw)
  replace HB4 := Lib.hid (HB4.out.on haw)
  replace HU := Lib.hid (HU.out.on haw)
  replace HB6 := Lib.hid (HB6.out.on haw)
  clear haw
  go_wp2_with fail
  refine (own_any a l _ cap _ rfl HR.out).mono ?_
  rintro E w10 ⟨v9o, rfl, hown, hnew, haw3, -, -⟩
  have HO := Lib.hid hown
  have HN3 := Lib.hid hnew
  clear hown hnew
  go_wp2_with (at_builtin; refine wpList_appG rfl _ _ rfl _ l [165, 166] rfl (by exact HO.out.away ((Away.refl [] _).alloc _) (by simp)) ⟨w10.heap.size, 0, none⟩ 2 2 rfl rfl (lit_cells _ [165, 166] _ rfl) (by omega) ?_; refine Hid.out ?_)
  refine Lib.hid ?_
  intro v9 w11 hown4 hgr hmv
  have haw : Away [] _ w11 := (haw3.alloc _).grown hgr (fun k hk => .inr (HN3.out k hk))
  replace HG := Lib.hid (HG.out.on haw)
  replace HA := Lib.hid (HA.out.on haw)
  replace HR := Lib.hid (HR.out.on haw)
  replace HF4 := Lib.hid (HF4.out.on haw)
  replace HT := Lib.hid (HT.out.on haw)
  replace HB4 := Lib.hid (HB4.out.on haw)
  replace HU := Lib.hid (HU.out.on haw)
  replace HB6 := Lib.hid (HB6.out.on haw)
  clear haw
  clear haw3 hgr hmv HO HN3
  obtain ⟨a9, c9, hv9, hcap9, hn9, hrow, -⟩ := hown4.row (by rw [HFL.out]; omega) HFB.out
  rw [HFL.out] at hv9 hcap9
  subst hv9
  have HF9 := Lib.hid hrow
  clear hown4 hrow
  go_wp2_with fail
  refine (same_yes a4 a9 (l ++ [165, 166]) (l ++ [165, 166]) _ _ c4 c9 _ HFL.out HFL.out hn4 hn9 HF4.out HF9.out rfl).mono ?_
  rintro E w12 ⟨rfl, rfl⟩
  go_wp2_with fail
  go_ret
  exact ⟨rfl, HA.out.to_below⟩
namespace ip4Parses
theorem contract (H : Type) (enc : TypeId × Value → H) (W : World) (base : Nat) (args : Array Value) (ds gs : List (DataW H)) (before : List MemPlace)
    (hval0 : ∀ (j : Nat) t v, Tryd.f4.params[j]? = some t → args[j]? = some v → Value.okWide Tryd.prog W .any base t v)
    (hW : DataW.Whole enc Tryd.prog Tryd.f4.params.toList Rows.ip4ParsesSpec.vars false W args.toList ds gs before)
    (hsz0 : (DataW.weightsEach Tryd.prog (Tryd.f4.params.toList ++ Rows.ip4ParsesSpec.plain.varTypes Tryd.prog) (ds ++ gs)).all (· ≤ reachBytes) = true)
    (hL : laidMetH Tryd.prog Rows.ip4ParsesRow.laid W) :
    Calls Tryd.prog 4 args W fun e W' => ∃ v, e = .returned v ∧ Rows.ip4ParsesSpec.post enc Tryd.prog Tryd.f4 false true false false W args v W' := by
  have hval := hval0
  have hsz := hsz0
  have hW' := hW
  obtain ⟨p, q, hA0, hV, rfl, hfz, hnd⟩ := hW
  have hA : DataW.TrodAll enc Tryd.prog W 0 (fun _ => true) true Tryd.f4.params.toList args.toList ds p := hA0
  rw [Tryd.params4] at hA hval hsz
  obtain ⟨v0, vs0, d0, ds0, p0, q0, hargs, rfl, rfl, h0, r0⟩ := trodAll_cons hA
  obtain ⟨rfl, rfl, rfl⟩ := trodAll_nil r0
  obtain rfl : args = #[v0] := by cases args; simp_all
  obtain ⟨rfl, rfl⟩ := trodVars_none hV
  have k0 := h0
  have lt0 : ∀ x ∈ p0, x.block < W.heap.size := by obtain ⟨m, hm⟩ := k0; exact DataW.trod_lt m _ _ _ hm
  have z0 : ∀ m ∈ d0.weights Tryd.prog 26, m ≤ reachBytes := fun m hm => by
    have := List.all_eq_true.1 hsz m (DataW.weights_mem_each (j := 0) (t := 26) rfl rfl m hm)
    simpa using this
  obtain ⟨a0, len0, cap0, rfl⟩ := okWide_slice Tryd.underlying26 (hval 0 26 v0 rfl rfl)
  obtain ⟨l0, rfl, c0, cc0, w0, n0, u0⟩ := open_bytes h0 z0
  clear hA0 hval0
  refine (walk a0 l0 cap0 W (glob_of hL) c0 w0 n0 cc0).mono fun e W' ⟨he, bel⟩ => ?_
  subst he
  exact ⟨_, rfl, _, _, _, [], _, [], hW', trodAll_mk1 (shut_bool Tryd.underlying4 _), (trodAll_cons_mk (Below.trod laidOut (by kernel_rfl) (of_decide_eq_true (by kernel_rfl)) k0 bel lt0) trodAll_mk0), rfl, bel.frame _, fun h => by cases h⟩
theorem laid_met (os : Os) : laidMet Tryd.prog Rows.ip4ParsesRow.laid ((laidWorld Tryd.prog os).forCall (fun _ _ => 0) ⟨#[], #[.slice none 0 0], []⟩).memory :=
  laidMet_of_run' 8 (by kernel_rfl) (by kernel_rfl)
theorem reads (os : Os) {H : Type} (enc : TypeId × Value → H) : ∃ places, DataW.whole enc Tryd.prog ((laidWorld Tryd.prog os).forCall (fun _ _ => 0) ⟨#[], #[.slice none 0 0], []⟩).memory Tryd.f4.params.toList Rows.ip4ParsesSpec.vars false #[.slice none 0 0].toList 8 = some ([.nil], [], places) :=
  ⟨[], by kernel_rfl⟩
theorem lifted (os : Os) (started : os.Started) (H : Type) (enc : TypeId × Value → H) (F : Stop.Interp) :
    ReturnsInHanded {} Tryd.checked os 4 .any ((OpenSpec.ofChange Rows.ip4ParsesSpec).preRow enc Tryd.prog Tryd.f4 Rows.ip4ParsesRow.domain false Rows.ip4ParsesRow.laid) (((OpenSpec.ofChange Rows.ip4ParsesSpec).at F).post enc Tryd.prog Tryd.f4 false true false false) := by
  obtain ⟨places, hx⟩ := reads os enc
  refine returnsInHanded_of_row (C := Tryd.checked) (s := OpenSpec.ofChange Rows.ip4ParsesSpec) ownKn started (by kernel_rfl) Tryd.func4
    (witness_row_at (enc := enc) (C := Tryd.checked) false (laidWorld Tryd.prog os) #[.slice none 0 0] rfl (by kernel_rfl) (by kernel_rfl) (by kernel_rfl)
      (OpenSpec.preRow_of_cond 8 hx (by kernel_rfl) (fun k hk => by cases hk) (by kernel_rfl) (laid_met os))) ?_
  intro W base args ds gs before hval hW _ hcond hsz hL hS _
  exact contract H enc W base args ds gs before hval hW hsz hL
theorem said : Rows.Ip4ParsesSaid :=
  OpenClaim.holds_of_cond 4 Tryd.f4 rfl rfl rfl rfl rfl rfl rfl ⟨rfl, rfl, rfl, rfl, rfl⟩ rfl rfl rfl rfl rfl (by kernel_rfl) Tryd.func4 (by kernel_rfl)
    (of_decide_eq_true (by kernel_rfl)) (by unfold Func.isWrapper; first | (rw [if_pos (by decide +kernel)]; kernel_rfl) | (rw [if_neg (by decide +kernel)]; exact ⟨rfl, rfl⟩))
    (fun os started H enc _ F => by rw [OpenClaim.pre_eq_preRow]; exact lifted os started H enc F)
theorem plain (f : FuncId) (fn : Func) (hf : Tryd.pinned.checked.prog.funcNamed "mosaic/mosaiclaw05.Ip4Parses" = some f) (hfn : Tryd.pinned.checked.prog.funcs[f]? = some fn) :
    false = Tryd.pinned.checked.prog.looks [] ∧ ∀ (j : Nat) t, fn.params[j]? = some t → Tryd.pinned.checked.prog.wantsStandIn t = false := by
  obtain rfl : f = 4 := Option.some.inj ((show Tryd.prog.funcNamed "mosaic/mosaiclaw05.Ip4Parses" = some 4 by kernel_rfl).symm.trans hf) |>.symm
  obtain rfl : fn = Tryd.f4 := (Option.some.inj (Tryd.func4.symm.trans hfn)).symm
  refine ⟨by kernel_rfl, fun j t ht => ?_⟩
  rw [Tryd.params4] at ht
  have hm := Array.mem_of_getElem? ht
  simp only [List.mem_toArray, List.mem_cons, List.not_mem_nil, or_false] at hm
  have h28 : Tryd.prog.wantsStandIn 28 = false := by kernel_rfl
  have h26 : Tryd.prog.wantsStandIn 26 = false := by kernel_rfl
  have h3 : Tryd.prog.wantsStandIn 3 = false := by kernel_rfl
  subst hm
  all_goals first | exact h28 | exact h26 | exact h3
theorem card : Rows.Ip4ParsesCardSaid :=
  Claim7.holds_tied_plain_at .later [] _ _ _ _ said (fun _ h => by cases h) (by kernel_rfl) (fun _ h => by cases h) ip4Parses_row_tie rfl ⟨rfl, rfl⟩ (by kernel_rfl) rfl plain (by kernel_rfl)
end ip4Parses
theorem ip4Parses_holds : Rows.Ip4ParsesCardSaid := ip4Parses.card
#print axioms ip4Parses_holds
end Go.Proofs.YtkfbhofbajejiabDoor
