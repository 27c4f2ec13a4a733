/-
  AddrParses (P3.1): Parse of any text is the document's.
-/
import Derived.Test.YtclfhajapohogaaDoorRows4
import Derived.Test.YtclfhajapohogaaDoorStr
import Derived.Test.YtclfhajapohogaaDoorRTxt7
namespace Go.Proofs.YtclfhajapohogaaDoor
open Go.ChangeShapes Go.WideShapes Go.ChangeAt Go.RowKit
set_option linter.unusedVariables false
set_option maxHeartbeats 4000000
set_option maxRecDepth 100000

theorem str_small {H : Type} {enc : TypeId × Value → H} {W : World} {base : Nat} {spare : Nat → Bool} {held : Bool} {s : ByteArray} {d : DataW H} {p : List MemPlace} {ds : List (DataW H)} (hk : Rows.uptoSmall H ds = true) (h : DataW.Trod enc Tryd.prog W base spare held 9 (.string s) d p) (hm : d ∈ ds) : s.size ≤ 1048576 := by
  obtain ⟨fuel, hf⟩ := h
  obtain ⟨s', h1, h2, _⟩ := DataW.trod_string Tryd.underlying9 hf
  simp only [Value.cells, List.cons.injEq, Value.string.injEq, and_true] at h1
  subst h1
  have hd : d = .lit (.string s.data.toList) := by simpa using congrArg Prod.fst h2
  have hb := bulk_mem hm
  rw [hd] at hb
  have hk' : Rows.uptoBulkAll ds ≤ 1048576 := of_decide_eq_true hk
  have e : Rows.uptoBulk (H := H) (.lit (.string s.data.toList)) = s.size + 1 := by
    simp only [Rows.uptoBulk]
    rfl
  omega
theorem parseP_len (l : List UInt8) : (parseP l).2.1.length = 16 := by
  by_cases h : 58 ∈ l
  · rw [parseP_six l h]
    cases hr : parse6P l with
    | none => rfl
    | some r => simp only; rw [unG_length, parse6P_length hr]
  · rw [parseP_four l h]
    cases hr : parse4P l with
    | none => rfl
    | some r => simp only; exact fourB_length r (by rw [parse4P_length hr]; omega)
namespace addrParses
theorem walk (s : ByteArray) (W : World) (hg : Glob W) (hs : s.size ≤ 1048576) :
    Calls Tryd.prog 7 #[.string s] W fun e W' => e = .returned (.bool true) ∧ Below W.heap.size W W' := by
  obtain ⟨l, hl⟩ : ∃ l, l = s.data.toList := ⟨_, rfl⟩
  have hlen : s.size = l.length := by rw [hl]; exact Lib.size_eq s
  have hst : s = ⟨l.toArray⟩ := by rw [hl]
  obtain ⟨ca, hca⟩ : ∃ c, c = csA (parseP l).1 (parseP l).2.1 := ⟨_, rfl⟩
  obtain ⟨er, her⟩ : ∃ e, e = (parseP l).2.2 := ⟨_, rfl⟩
  have HP : Hid (∀ W, Glob W → Calls Tryd.prog 16 #[.string s] W fun e w' => e = .returned (.tuple #[.agg ca, .int .i64 er]) ∧ Below W.heap.size W w') := Lib.hid (fun W hW => by rw [hca, her, hl]; exact parse_c s (by omega) W hW)
  have HQ : Hid (∀ W, Calls Tryd.prog 19 #[.string s] W fun e w' => e = .returned (.tuple #[.agg ca, .int .i64 er]) ∧ Below W.heap.size W w') := Lib.hid (fun W => by
    have := rparse_c l (by omega) W
    rw [← hst] at this
    rw [hca, her]; exact this)
  have HAL : Hid (∀ W, Glob W → Calls Tryd.prog 9 #[] W fun e w' => e = .returned (.bool true) ∧ Below W.heap.size W w') := Lib.hid (fun W hW => alive_c W hW)
  have heq : ∀ w, (Op.equalIn 10000 24 (.agg ca) (.agg ca)).run Tryd.prog w = .ok true w := fun w => by
    rw [hca, eq24 _ _ _ _ (parseP_len l) (parseP_len l) w, eqL_self, decide_eq_true rfl]; rfl
  have hgd := guard24
  have sa : ca.size = 17 := by rw [hca]; exact csA_size (parseP_len l)
  have oa : ca.all (·.oneCell') = true := by rw [hca]; exact csA_one _ _
  have hz1 : (csA 0 z16).size = 17 := rfl
  rw [csA_z] at hz1
  have HRS : RS W [] W := ⟨hg, Below.refl _ _⟩
  clear hl hlen hst hca her hg hs
  go_enter Tryd.func7, Tryd.ntmps7
  go_wp2_with (go_at_call 9; refine (HAL.out _ HRS.1).mono ?_; rintro e t1 ⟨rfl, hb⟩; have hs1 := HRS.on hb; clear hb HRS; refine Hid.out ?_)
  refine Lib.hid ?_
  go_wp2_with (first
    | (go_at_call 16; refine (HP.out _ hs1.1).mono ?_; rintro e t2 ⟨rfl, hb⟩; have hs2 := (hs1.on hb).add ca sa; clear hb hs1)
    | (refine wpList_store24 rfl _ _ rfl rfl _ rfl sa hz1 oa ?_; refine Hid.out ?_))
  refine Lib.hid ?_
  generalize t2.alloc (.cells ca 24) = V2 at *
  obtain ⟨A, hA⟩ : ∃ A, t2.heap.size = A := ⟨_, rfl⟩
  rw [hA] at hs2
  simp only [hA]
  clear hA
  go_wp2_with (first
    | (go_at_call 19; refine (HQ.out _).mono ?_; rintro e t3 ⟨rfl, hb⟩; have hs3 := (hs2.on hb).add ca sa; have z0 := hs3.1; have z1 := hs3.2.1; clear hb hs2)
    | (refine wpList_store24 rfl _ _ rfl rfl _ rfl sa hz1 oa ?_; refine Hid.out ?_))
  refine Lib.hid ?_
  have hB3 := Lib.hid hs3.base.2
  go_wp2_with (refine wpList_load24 rfl _ rfl _ rfl _ (by assumption) ?_)
  go_ret
  exact ⟨rfl, hB3.out⟩
end addrParses
namespace addrParses
theorem contract (H : Type) (enc : TypeId × Value → H) (W : World) (base : Nat) (args : Array Value) (ds gs : List (DataW H)) (before : List MemPlace)
    (hval0 : ∀ (j : Nat) t v, Tryd.f7.params[j]? = some t → args[j]? = some v → Value.okWide Tryd.prog W .any base t v)
    (hW : DataW.Whole enc Tryd.prog Tryd.f7.params.toList Rows.addrParsesSpec.vars false W args.toList ds gs before) (hk : Rows.uptoSmall H (ds ++ gs) = true)
    (hL : laidMetH Tryd.prog Rows.addrParsesUptoRow.laid W) (hS : W.ShapedOpen Tryd.prog) :
    Calls Tryd.prog 7 args W fun e W' => ∃ v, e = .returned v ∧ Rows.addrParsesSpec.post enc Tryd.prog Tryd.f7 false true false false W args v W' := by
  have hval := hval0
  have hW' := hW
  obtain ⟨p, q, hA0, hV, rfl, hfz, hnd⟩ := hW
  have hA : DataW.TrodAll enc Tryd.prog W 0 (fun _ => true) true Tryd.f7.params.toList args.toList ds p := hA0
  rw [Tryd.params7] at hA hval
  obtain ⟨v0, vs0, d0, ds0, p0, q0, hargs, rfl, rfl, h0, r0⟩ := trodAll_cons hA
  obtain ⟨rfl, rfl, rfl⟩ := trodAll_nil r0
  obtain rfl : args = #[v0] := by cases args; simp_all
  obtain ⟨rfl, rfl⟩ := trodVars_none hV
  have k0 := h0
  have lt0 : ∀ x ∈ p0, x.block < W.heap.size := by obtain ⟨m, hm⟩ := k0; exact DataW.trod_lt m _ _ _ hm
  obtain ⟨s0, w0⟩ := okWide_string Tryd.underlying9 (hval 0 9 v0 rfl rfl)
  subst w0
  have w0 : s0.size ≤ 1048576 := str_small hk h0 (by simp)
  clear hA0 hval0
  refine (walk s0 W (glob_of hL hS) w0).mono fun e W' ⟨he, bel⟩ => ?_
  subst he
  exact ⟨_, rfl, _, _, _, [], _, [], hW', trodAll_mk1 (shut_bool Tryd.underlying4 _), (trodAll_cons_mk (Below.trod laidOut (by kernel_rfl) (of_decide_eq_true (by kernel_rfl)) k0 bel lt0) trodAll_mk0), rfl, bel.frame _, fun h => by cases h⟩
theorem laid_met (os : Os) : laidMet Tryd.prog Rows.addrParsesUptoRow.laid ((laidWorld Tryd.prog os).forCall (fun _ _ => 0) ⟨#[], #[.string ⟨#[]⟩], []⟩).memory :=
  laidMet_of_run' 8 (by kernel_rfl) (by kernel_rfl)
theorem reads (os : Os) {H : Type} (enc : TypeId × Value → H) : ∃ places, DataW.whole enc Tryd.prog ((laidWorld Tryd.prog os).forCall (fun _ _ => 0) ⟨#[], #[.string ⟨#[]⟩], []⟩).memory Tryd.f7.params.toList Rows.addrParsesSpec.vars false #[.string ⟨#[]⟩].toList 8 = some ([.lit (.string [])], [], places) :=
  ⟨[], by kernel_rfl⟩
theorem lifted (os : Os) (started : os.Started) (H : Type) (enc : TypeId × Value → H) (F : Stop.Interp) :
    ReturnsInHanded {} Tryd.checked os 7 .any ((Rows.OpenSpec.upto Rows.addrParsesSpec).preRow enc Tryd.prog Tryd.f7 Rows.addrParsesUptoRow.domain false Rows.addrParsesUptoRow.laid) (((Rows.OpenSpec.upto Rows.addrParsesSpec).at F).post enc Tryd.prog Tryd.f7 false true false false) := by
  obtain ⟨places, hx⟩ := reads os enc
  refine returnsInHanded_of_row (C := Tryd.checked) (s := Rows.OpenSpec.upto Rows.addrParsesSpec) ownKn started (by kernel_rfl) Tryd.func7
    (witness_row_at (enc := enc) (C := Tryd.checked) false (laidWorld Tryd.prog os) #[.string ⟨#[]⟩] rfl (by kernel_rfl) (by kernel_rfl) (by kernel_rfl)
      (OpenSpec.preRow_of_cond 8 hx (by kernel_rfl) (fun k hk => by cases hk; kernel_rfl) (by kernel_rfl) (laid_met os))) ?_
  intro W base args ds gs before hval hW _ hcond _ hL hS _
  exact contract H enc W base args ds gs before hval hW (hcond _ rfl) hL hS
theorem said : Rows.AddrParsesUptoSaid :=
  OpenClaim.holds_of_cond 7 Tryd.f7 rfl rfl rfl rfl rfl rfl rfl ⟨rfl, rfl, rfl, rfl, rfl⟩ rfl rfl rfl rfl rfl (by kernel_rfl) Tryd.func7 (by kernel_rfl)
    (of_decide_eq_true (by kernel_rfl)) (by unfold Func.isWrapper; first | (rw [if_pos (by decide +kernel)]; kernel_rfl) | (rw [if_neg (by decide +kernel)]; exact ⟨rfl, rfl⟩))
    (fun os started H enc _ F => by rw [OpenClaim.pre_eq_preRow]; exact lifted os started H enc F)
theorem plain (f : FuncId) (fn : Func) (hf : Tryd.pinned.checked.prog.funcNamed "mosaic/mosaiclaw03.AddrParses" = some f) (hfn : Tryd.pinned.checked.prog.funcs[f]? = some fn) :
    false = Tryd.pinned.checked.prog.looks [] ∧ ∀ (j : Nat) t, fn.params[j]? = some t → Tryd.pinned.checked.prog.wantsStandIn t = false := by
  obtain rfl : f = 7 := Option.some.inj ((show Tryd.prog.funcNamed "mosaic/mosaiclaw03.AddrParses" = some 7 by kernel_rfl).symm.trans hf) |>.symm
  obtain rfl : fn = Tryd.f7 := (Option.some.inj (Tryd.func7.symm.trans hfn)).symm
  refine ⟨by kernel_rfl, fun j t ht => ?_⟩
  rw [Tryd.params7] at ht
  have hm := Array.mem_of_getElem? ht
  simp only [List.mem_toArray, List.mem_cons, List.not_mem_nil, or_false] at hm
  have h24 : Tryd.prog.wantsStandIn 24 = false := by kernel_rfl
  have h3 : Tryd.prog.wantsStandIn 3 = false := by kernel_rfl
  have h9 : Tryd.prog.wantsStandIn 9 = false := by kernel_rfl
  subst hm
  all_goals first | exact h24 | exact h3 | exact h9
theorem card : Rows.AddrParsesUptoCardSaid :=
  Claim7.holds_tied_plain_at .later [] _ _ _ _ said (fun _ h => by cases h) (by kernel_rfl) (fun _ h => by cases h) addrParsesUpto_row_tie rfl ⟨rfl, rfl⟩ (by kernel_rfl) rfl plain (by kernel_rfl)
end addrParses
theorem addrParsesUpto_holds : Rows.AddrParsesUptoCardSaid := addrParses.card
#print axioms addrParsesUpto_holds
end Go.Proofs.YtclfhajapohogaaDoor
