/-
  RouteParses.
-/
import Derived.Test.YtoifolmcdkfniaaPg
import Derived.ChangeMaps5
namespace Go.Proofs.Ytoifolmcdkfniaa
open Go.ChangeShapes Go.WideShapes Go.ChangeAt Go.RowKit Go.Deep
set_option linter.unusedVariables false
set_option linter.unusedSimpArgs false
set_option maxRecDepth 100000

namespace routeParses
set_option maxHeartbeats 8000000 in
theorem walk (l : List UInt8) (W : World) (hl : l.length ≤ 1048576) (hg : Glob W) : Calls Try.prog 6 #[.string ⟨l.toArray⟩] W fun E w' => E = .returned (.bool true) ∧ Below W.heap.size W w' := by
  have HG := Lib.hid hg
  have HP1 := Lib.hid (parse_r l (by omega) W hg)
  have HP2 := Lib.hid (fun w => dparse_c l hl w)
  have HOK := Lib.hid (parseR_ok l)
  have HLEN : Hid ((parseR l).1.length ≤ 3518437208790) := by
    show _ ≤ _
    unfold parseR
    split
    · simp
    · split
      · rename_i h; have := (mayL_iff.1 h).1; show _ ≤ 3518437208790; simp only; omega
      · simp
  obtain ⟨⟨L, e⟩, hr⟩ : ∃ r, r = parseR l := ⟨_, rfl⟩
  rw [← hr] at HP1 HP2 HOK HLEN
  clear hr hl hg
  go_enter Try.func6, Try.ntmps6
  go_wp2_with (go_at_call 17; refine HP1.out.mono ?_; refine Hid.out ?_)
  refine Lib.hid ?_
  rintro E w1 ⟨v1, rfl, hown, -, haw⟩
  have HA := Lib.hid haw
  have HO1 := Lib.hid hown
  obtain ⟨a1, c1, rfl, -⟩ := hown.sl
  clear hown haw HP1
  go_wp2_with (go_at_call 18; refine (HP2.out _).mono ?_; refine Hid.out ?_)
  refine Lib.hid ?_
  rintro E w2 ⟨v2, rfl, hown, -, haw⟩
  replace HA := Lib.hid (HA.out.trans haw)
  replace HO1 := Lib.hid (HO1.out.on haw)
  have HO2 := Lib.hid hown
  obtain ⟨a2, c2, rfl, -⟩ := hown.sl
  have HK := Lib.hid (known_c w2 (HG.out.aw HA.out))
  clear hown haw HP2
  have hee : (e == e) = true := by simp
  go_wp2_with (go_at_call 9; refine HK.out.mono ?_; refine Hid.out ?_)
  refine Lib.hid ?_
  rintro E w3 ⟨rfl, haw⟩
  replace HA := Lib.hid (HA.out.trans haw)
  have HS := Lib.hid (same_yes ((HO1.out.on haw).rd HOK.out) ((HO2.out.on haw).rd HOK.out) HLEN.out)
  clear haw HK HO1 HO2
  go_wp2_with (go_at_call 10; refine HS.out.mono ?_; refine Hid.out ?_)
  refine Lib.hid ?_
  rintro E w4 ⟨rfl, haw⟩
  replace HA := Lib.hid (HA.out.trans haw)
  clear haw HS
  go_wp2_with fail
  go_ret
  exact ⟨rfl, HA.out.to_below⟩
/-- A row whose inputs are small, with the world's shape at hand. -/
theorem small_shaped {H : Type} {enc : TypeId × Value → H} {C : Checked} {os : Os} {f : FuncId} {fn : Func} {s : OpenSpec} {k : (H : Type) → List (DataW H) → Bool} (hk : s.cond = some k) {F : Stop.Interp} {conds : List PathCond} {apart fresh handsOn again : Bool}
    (own : ownKnob C.prog.godebug = none) (started : os.Started) (noInit : C.prog.inits.idxOf? f = none) (hfn : C.prog.funcs[f]? = some fn)
    (witness : ∃ (w : World) (tape : Tape) (i : Input), w.os = os ∧ (w.forCall tape i).Shaped C.prog ∧ i.vars = [] ∧ Input.okWide C.prog (w.forCall tape i) .any w.heap.size f i ∧
      s.pre6 enc C.prog fn conds apart (w.forCall tape i).memory i.args ∧ Assume.holds {} C.prog (lone (Frame.enter C.prog f i.args .normal) [] (w.forCall tape i)))
    (body : ∀ (W : World) (base : Nat) (args : Array Value) (ds gs : List (DataW H)) (before : List MemPlace),
      (∀ (j : Nat) t v, fn.params[j]? = some t → args[j]? = some v → Value.okWide C.prog W .any base t v) →
      DataW.Whole enc C.prog fn.params.toList s.vars apart W args.toList ds gs before → k H (ds ++ gs) = true → W.ShapedOpen C.prog →
      Calls C.prog f args W fun e W' => ∃ v, e = .returned v ∧ (s.at F).post enc C.prog fn apart fresh handsOn again W args v W') :
    ReturnsInHanded {} C os f .any (s.pre6 enc C.prog fn conds apart) ((s.at F).post enc C.prog fn apart fresh handsOn again) := by
  refine returnsInHanded_of_calls own started noInit witness fun w tape i _ hsh _ hok hpre _ => ?_
  obtain ⟨_, _, _, fn', hfn', _, _, _, _, hval⟩ := hok
  obtain rfl : fn' = fn := Option.some.inj (hfn'.symm.trans hfn)
  obtain ⟨ds, gs, before, hw, -, hkk⟩ := (OpenSpec.pre_some hk conds apart _ _).1 hpre.1
  refine (body _ _ _ ds gs before hval (DataW.Whole.of_heap (w' := w.forCall tape i) (by rfl) hw) hkk hsh).mono ?_
  rintro e W' ⟨v, rfl, hp⟩
  exact ChangeSpec.post_blind hp
theorem bulk_mem {H : Type} : ∀ {ds : List (DataW H)} {d : DataW H}, d ∈ ds → Rows.uptoBulk d ≤ Rows.uptoBulkAll ds
  | [], _, h => by simp at h
  | x :: r, d, h => by
    simp only [List.mem_cons] at h
    simp only [Rows.uptoBulkAll]
    rcases h with rfl | h
    · omega
    · have := bulk_mem h; omega
theorem lifted (os : Os) (started : os.Started) (H : Type) (enc : TypeId × Value → H) (F : Stop.Interp) :
    ReturnsInHanded {} Try.checked os 6 .any ((Rows.OpenSpec.upto Rows.routeParsesSpec).pre6 enc Try.prog Try.f6 Rows.routeParsesUptoRow.domain false) (((Rows.OpenSpec.upto Rows.routeParsesSpec).at F).post enc Try.prog Try.f6 false true false false) := by
  refine small_shaped (C := Try.checked) (s := Rows.OpenSpec.upto Rows.routeParsesSpec) (k := Rows.uptoSmall) rfl ownKn started (by kernel_rfl) Try.func6
    (OpenSpec.witness (enc := enc) (C := Try.checked) (s := Rows.OpenSpec.upto Rows.routeParsesSpec) (k := Rows.uptoSmall) rfl false ⟨#[], #[.string ⟨#[]⟩], []⟩ 8 (by kernel_rfl) (by kernel_rfl) (by kernel_rfl)
      (x := ([.lit (.string [])], [], [])) (by kernel_rfl) rfl (by kernel_rfl)) ?_
  intro W base args ds gs before hval0 hW hk hsh
  have hval : ∀ (j : Nat) t v, Try.f6.params[j]? = some t → args[j]? = some v → Value.okWide Try.prog W .any base t v := hval0
  have hW' := hW
  obtain ⟨p, q, hA0, hV, rfl, hfz, hnd⟩ := hW
  have hA : DataW.TrodAll enc Try.prog W 0 (fun _ => true) true Try.f6.params.toList args.toList ds p := hA0
  rw [Try.params6] at hA hval
  obtain ⟨v0, vs0, d0, ds0, p0, q0, hargs, rfl, rfl, h0, r0⟩ := trodAll_cons hA
  obtain ⟨rfl, rfl, rfl⟩ := trodAll_nil r0
  obtain rfl : args = #[v0] := by cases args; simp_all
  have hV2 : DataW.TrodVars enc Try.prog W (fun _ => true) Rows.routeParsesSpec.vars gs q := hV
  obtain ⟨rfl, rfl⟩ := trodVars_none hV2
  have k0 := h0
  have lt0 : ∀ x ∈ p0, x.block < W.heap.size := by obtain ⟨m, hm⟩ := k0; exact DataW.trod_lt m _ _ _ hm
  obtain ⟨s0, rfl, rfl, rfl, hs0⟩ := Go.ChangeMaps.open_string Try.underlying9 (hval 0 9 v0 rfl rfl) h0
  have hb : s0.data.toList.length ≤ 1048576 := by
    have hk' : Rows.uptoBulkAll ([DataW.lit (.string s0.data.toList)] ++ []) ≤ 1048576 := of_decide_eq_true hk
    have h1 := bulk_mem (ds := [DataW.lit (.string s0.data.toList)] ++ []) (d := DataW.lit (H := H) (.string s0.data.toList)) (by simp)
    have e : Rows.uptoBulk (H := H) (.lit (.string s0.data.toList)) = s0.data.toList.length + 1 := by
      simp only [Rows.uptoBulk]
      try rfl
    omega
  clear hA0 hval0
  have hw := walk s0.data.toList W hb (glob_of hsh)
  refine hw.mono fun e W' ⟨he, bel⟩ => ?_
  subst he
  exact ⟨_, rfl, _, _, _, [], _, [], hW', trodAll_mk1 (shut_bool Try.underlying4 _), (trodAll_cons_mk (Below.trod laidOut (by kernel_rfl) (of_decide_eq_true (by kernel_rfl)) k0 bel lt0) trodAll_mk0), rfl, bel.frame _, fun h => by cases h⟩
theorem over : Rows.routeParsesUptoRow.holds Try.pinned (Rows.OpenSpec.upto Rows.routeParsesSpec) :=
  OpenClaim.holds_of_cond 6 Try.f6 rfl rfl rfl rfl rfl rfl rfl ⟨rfl, rfl, rfl, rfl, rfl⟩ rfl rfl rfl rfl rfl (by kernel_rfl) Try.func6 (by kernel_rfl)
    (of_decide_eq_true (by kernel_rfl)) (by unfold Func.isWrapper; first | (rw [if_pos (by decide +kernel)]; kernel_rfl) | (rw [if_neg (by decide +kernel)]; exact ⟨rfl, rfl⟩))
    (fun os started H enc _ F => lifted os started H enc F)
end routeParses
theorem routeParses_holds : Rows.RouteParsesUptoSaid := routeParses.over
#print axioms routeParses_holds
end Go.Proofs.Ytoifolmcdkfniaa
