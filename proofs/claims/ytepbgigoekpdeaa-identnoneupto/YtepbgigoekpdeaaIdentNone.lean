/-
  IdentNone.
-/
import Derived.Test.YtepbgigoekpdeaaGot
namespace Go.Proofs.Ytepbgigoekpdeaa
open Go.ChangeShapes Go.WideShapes Go.ChangeAt Go.RowKit Go.Deep
set_option linter.unusedVariables false
set_option maxRecDepth 100000

/-- Two of one number are a life apart. -/
theorem Good.differ {sp li : Int} {G : List Int} (h : Good sp li G) {i j : Nat} {x y : Int} (hij : j < i) (hx : G[i]? = some x) (hy : G[j]? = some y) (hlt : x - y < li) : ¬ ((j : Int) % sp = (i : Int) % sp) := by
  intro e
  have h1 := h.sp1
  have h2 : ((i : Int) - j) % sp = 0 := by
    rw [Int.sub_emod, e, Int.sub_self, Int.zero_emod]
  have h3 : sp ≤ (i : Int) - j := by
    have := Int.dvd_of_emod_eq_zero h2
    exact Int.le_of_dvd (by omega) this
  have := h.apart j i y x (by omega) hy hx
  omega
theorem wrap_plus {t x : Int} (h1 : 0 ≤ t) (h2 : t ≤ 1099511627776) : wrap64 (t + waitP x) = t + waitP x := by
  have := waitP_bd x
  unfold wrap64
  omega
namespace identNone
set_option maxHeartbeats 16000000 in
theorem walk (s l : Int) (wa : Option Addr) (ws : List Int) (cap : Nat) (w : World) (h0 : (Lit.int .i64 s).wf = true) (h1 : (Lit.int .i64 l).wf = true) (hr : RowI w wa ws) (hlen0 : ws.length ≤ 17592186043904) (hlen : ws.length ≤ 1048576) :
    Calls Try.prog 5 #[.int .i64 s, .int .i64 l, .slice wa ws.length cap] w fun E w' => E = .returned (.bool true) ∧ Below w.heap.size w w' := by
  have b0 : I64 s := bounds_i64 h0; have b1 : I64 l := bounds_i64 h1
  have K1 := hidI (fun w => made_c s l w b0 b1)
  have HR := hidI hr
  clear h0 h1 hr hlen0
  obtain ⟨n, hn⟩ : ∃ n, n = ws.length := ⟨_, rfl⟩
  rw [← hn] at hlen ⊢
  have HN := hidI hn
  clear hn
  generalize spP s = S at *
  generalize liP l = L at *
  go_enter Try.func5, Try.ntmps5
  go_wp2_with fail
  refine (alive_c _).mono ?_
  rintro E w1 ⟨rfl, haw⟩
  have HA := hidI haw
  clear haw
  go_wp2_with fail
  refine (K1.out _).mono ?_
  rintro E w2 ⟨g, c, rfl, hf, hg, hc, haw⟩
  have hz := HA.out.size
  have HAS : Hid (AskS w w2 g c (.slice none 0 0) (.slice none 0 0) S L []) := ⟨hf, LstG.nil _, by simp [Value.ownBlock], by omega, by omega, New.nil _, New.nil _, HA.out.trans haw⟩
  clear hf hg hc haw HA K1 hz
  go_wp2_with fail
  go_loopw [7, 10, 11, 12] (fun o v nw i wr => ∃ (k : Nat) (t : Int) (G : List Int) (vs : Value), o = .bool true ∧ nw = .int .i64 t ∧ i = .int .i64 (k : Int) ∧ k ≤ n ∧ G.length ≤ k ∧ 0 ≤ t ∧ t ≤ 1108101562367 ∧ AskS w wr g c vs v S L G) (fun _ _ _ i _ => n - (intOf i).toNat)
  case atStart => exact ⟨0, 0, [], _, rfl, rfl, rfl, by omega, by simp, by omega, by omega, HAS.out⟩
  case round =>
    clear HAS
    obtain ⟨k, t, G, vs, rfl, rfl, rfl, hk, hG, ht0, ht1, has⟩ := hrel
    have HAS := hidI has
    clear has
    by_cases hlt : k < n
    · by_cases htm : t ≤ 1099511627776
      · obtain ⟨x, hx⟩ : ∃ x, ws[k]? = some x := ⟨ws[k]'(by have := HN.out; omega), by simp⟩
        obtain ⟨wb, wo, rfl, hcell, hxi⟩ := (HR.out.on HAS.out.aw).at hx
        have HXI := hidI hxi
        clear hx hxi
        have hwx := waitP_bd x
        have HWP := hidI (wrap_plus (x := x) ht0 htm)
        have i2 : 0 ≤ (k : Int) := by omega
        have i3 : (k : Int) < (n : Int) := by omega
        have i4 : ((k : Int)).toNat = k := by omega
        have HAK := hidI (ask_c (t + waitP x) HAS.out (by omega))
        have hnl := next_len S L G (t + waitP x)
        have HNL : Hid ((nextG S L G (t + waitP x)).length ≤ k + 1) := by show _ ≤ _; omega
        clear hnl
        have t2a : 0 ≤ t + waitP x := by omega
        have t2b : t + waitP x ≤ 1108101562367 := by omega
        have HST := hidI (fun w => step_c t x w HXI.out)
        rw [HWP.out] at HST
        clear hwx
        generalize t + waitP x = t2 at *
        generalize nextE S L G t2 = ee at *
        generalize nextG S L G t2 = G2 at *
        go_wp2_with fail
        refine (HST.out _).mono ?_
        rintro E _ ⟨rfl, rfl⟩
        go_wp2_with fail
        refine HAK.out.mono ?_
        rintro E w3 ⟨vs', v', rfl, has⟩
        replace HAS := hidI has
        clear has
        go_wp2_with fail
        go_roundw
        case rel => exact ⟨k + 1, t2, G2, vs', rfl, rfl, by go_num, by omega, HNL.out, t2a, t2b, HAS.out⟩
        case measure => simp [intOf]; omega
      · have d1 : decide (t ≤ 1099511627776) = false := decide_eq_false htm
        obtain ⟨W, hW⟩ : ∃ W, W = wr := ⟨_, rfl⟩
        subst hW
        have HG : Hid (Good S L G) := by obtain ⟨bs, h⟩ := HAS.out.sc; exact h.good
        have hsp : 1 ≤ S ∧ S ≤ 4294967296 := ⟨HG.out.sp1, HG.out.sp2⟩
        have HL := hidI HAS.out.l
        have HAW := hidI HAS.out.aw
        obtain ⟨la, lc, hv⟩ := HL.out.shape
        rw [gotL_len] at hv
        subst hv
        obtain ⟨m, hm⟩ : ∃ m, m = G.length := ⟨_, rfl⟩
        rw [← hm] at HL
        rw [← hm] at hG ⊢
        have HM := hidI hm
        clear hm HAS
        have q4 : ¬ (S = 0) := by omega
        go_wp2_with fail
        go_loopw [13] (fun i wx => ∃ (k q : Nat), k ≤ m ∧ i = .int .i64 (k : Int) ∧ wx = W.drewN q) (fun i _ => m - (intOf i).toNat)
        case atStart => exact ⟨0, 0, by omega, rfl, rfl⟩
        case round =>
          obtain ⟨a, q, ha, rfl, rfl⟩ := hrel
          by_cases hlt : a < m
          · obtain ⟨ta, hta⟩ : ∃ ta, G[a]? = some ta := ⟨G[a]'(by have := HM.out; omega), by simp⟩
            obtain ⟨b, cap', hv', c1, c2⟩ := HL.out.at (gotL_get S G a ta hta)
            simp only [Value.slice.injEq] at hv'
            obtain ⟨rfl, -, rfl⟩ := hv'
            have HTA := hidI hta
            have bta := HG.out.bd ta (List.mem_of_getElem? hta)
            clear hta
            obtain ⟨r, hr⟩ : ∃ r : Int, (a : Int) % S = r := ⟨_, rfl⟩
            have q1 : (a : Int).tmod S = r := by rw [Int.tmod_eq_emod_of_nonneg (by omega), hr]
            have q2 : 0 ≤ r := by rw [← hr]; exact Int.emod_nonneg _ (by omega)
            have q3 : r ≤ 4294967295 := by have := Int.emod_lt_of_pos (a : Int) (show 0 < S by omega); omega
            simp only [hr] at c1
            have HRR := hidI hr
            clear hr
            simp only at c2
            have i2 : 0 ≤ (a : Int) := by omega
            have i3 : (a : Int) < (m : Int) := by omega
            have i4 : ((a : Int)).toNat = a := by omega
            go_wp2_with fail
            go_quiet (fail)
            go_wp2_with fail
            go_loopw [14] (fun j wx => ∃ (jj : Int) (z : Nat), -1 ≤ jj ∧ jj < a ∧ j = .int .i64 jj ∧ wx = W.drewN z) (fun j _ => (intOf j + 1).toNat)
            case atStart => exact ⟨(a : Int) - 1, _, by omega, by omega, rfl, rfl⟩
            case round =>
              obtain ⟨jj, z, hj1, hj2, rfl, rfl⟩ := hrel
              by_cases hj0 : 0 ≤ jj
              · obtain ⟨jn, rfl⟩ : ∃ jn : Nat, jj = (jn : Int) := ⟨jj.toNat, by omega⟩
                obtain ⟨tj, htj⟩ : ∃ tj, G[jn]? = some tj := ⟨G[jn]'(by have := HM.out; omega), by simp⟩
                obtain ⟨b', cap', hv', e3, e4⟩ := HL.out.at (gotL_get S G jn tj htj)
                simp only [Value.slice.injEq, Option.some.injEq, Addr.mk.injEq, and_true] at hv'
                obtain ⟨rfl, -⟩ := hv'
                have btj := HG.out.bd tj (List.mem_of_getElem? htj)
                obtain ⟨rj, hrj⟩ : ∃ rj : Int, (jn : Int) % S = rj := ⟨_, rfl⟩
                simp only [hrj] at e3
                simp only at e4
                have j3 : (jn : Int) < (m : Int) := by omega
                have j4 : ((jn : Int)).toNat = jn := by omega
                by_cases hd : ta - tj < L
                · have hne : ¬ (rj = r) := by rw [← hrj, ← HRR.out]; exact HG.out.differ (by omega) HTA.out htj hd
                  have d5 : (rj == r) = false := by simp [hne]
                  have d6 : decide (ta - tj < L) = true := decide_eq_true hd
                  clear htj hrj
                  go_wp2_with fail
                  go_quiet (fail)
                  go_wp2_with fail
                  go_quiet (fail)
                  go_wp2_with fail
                  go_roundw
                  case rel => exact ⟨(jn : Int) - 1, _, by omega, by omega, rfl, rfl⟩
                  case measure => simp [intOf]
                · have d6 : decide (ta - tj < L) = false := decide_eq_false hd
                  clear htj hrj
                  go_wp2_with fail
                  go_quiet (fail)
                  go_wp2_with fail
                  go_roundw
                  case rel => exact ⟨a + 1, _, by omega, by go_num, rfl⟩
                  case measure => simp [intOf]; omega
              · obtain rfl : jj = -1 := by omega
                go_wp2_with fail
                go_quiet (fail)
                go_wp2_with fail
                go_roundw
                case rel => exact ⟨a + 1, _, by omega, by go_num, rfl⟩
                case measure => simp [intOf]; omega
          · go_wp2_with fail
            go_ret
            exact ⟨rfl, (HAW.out.drewN q).to_below⟩
    · obtain ⟨W, hW⟩ : ∃ W, W = wr := ⟨_, rfl⟩
      subst hW
      have HG : Hid (Good S L G) := by obtain ⟨bs, h⟩ := HAS.out.sc; exact h.good
      have hsp : 1 ≤ S ∧ S ≤ 4294967296 := ⟨HG.out.sp1, HG.out.sp2⟩
      have HL := hidI HAS.out.l
      have HAW := hidI HAS.out.aw
      obtain ⟨la, lc, hv⟩ := HL.out.shape
      rw [gotL_len] at hv
      subst hv
      obtain ⟨m, hm⟩ : ∃ m, m = G.length := ⟨_, rfl⟩
      rw [← hm] at HL
      rw [← hm] at hG ⊢
      have HM := hidI hm
      clear hm HAS
      have q4 : ¬ (S = 0) := by omega
      go_wp2_with fail
      go_loopw [13] (fun i wx => ∃ (k q : Nat), k ≤ m ∧ i = .int .i64 (k : Int) ∧ wx = W.drewN q) (fun i _ => m - (intOf i).toNat)
      case atStart => exact ⟨0, 0, by omega, rfl, rfl⟩
      case round =>
        obtain ⟨a, q, ha, rfl, rfl⟩ := hrel
        by_cases hlt : a < m
        · obtain ⟨ta, hta⟩ : ∃ ta, G[a]? = some ta := ⟨G[a]'(by have := HM.out; omega), by simp⟩
          obtain ⟨b, cap', hv', c1, c2⟩ := HL.out.at (gotL_get S G a ta hta)
          simp only [Value.slice.injEq] at hv'
          obtain ⟨rfl, -, rfl⟩ := hv'
          have HTA := hidI hta
          have bta := HG.out.bd ta (List.mem_of_getElem? hta)
          clear hta
          obtain ⟨r, hr⟩ : ∃ r : Int, (a : Int) % S = r := ⟨_, rfl⟩
          have q1 : (a : Int).tmod S = r := by rw [Int.tmod_eq_emod_of_nonneg (by omega), hr]
          have q2 : 0 ≤ r := by rw [← hr]; exact Int.emod_nonneg _ (by omega)
          have q3 : r ≤ 4294967295 := by have := Int.emod_lt_of_pos (a : Int) (show 0 < S by omega); omega
          simp only [hr] at c1
          have HRR := hidI hr
          clear hr
          simp only at c2
          have i2 : 0 ≤ (a : Int) := by omega
          have i3 : (a : Int) < (m : Int) := by omega
          have i4 : ((a : Int)).toNat = a := by omega
          go_wp2_with fail
          go_quiet (fail)
          go_wp2_with fail
          go_loopw [14] (fun j wx => ∃ (jj : Int) (z : Nat), -1 ≤ jj ∧ jj < a ∧ j = .int .i64 jj ∧ wx = W.drewN z) (fun j _ => (intOf j + 1).toNat)
          case atStart => exact ⟨(a : Int) - 1, _, by omega, by omega, rfl, rfl⟩
          case round =>
            obtain ⟨jj, z, hj1, hj2, rfl, rfl⟩ := hrel
            by_cases hj0 : 0 ≤ jj
            · obtain ⟨jn, rfl⟩ : ∃ jn : Nat, jj = (jn : Int) := ⟨jj.toNat, by omega⟩
              obtain ⟨tj, htj⟩ : ∃ tj, G[jn]? = some tj := ⟨G[jn]'(by have := HM.out; omega), by simp⟩
              obtain ⟨b', cap', hv', e3, e4⟩ := HL.out.at (gotL_get S G jn tj htj)
              simp only [Value.slice.injEq, Option.some.injEq, Addr.mk.injEq, and_true] at hv'
              obtain ⟨rfl, -⟩ := hv'
              have btj := HG.out.bd tj (List.mem_of_getElem? htj)
              obtain ⟨rj, hrj⟩ : ∃ rj : Int, (jn : Int) % S = rj := ⟨_, rfl⟩
              simp only [hrj] at e3
              simp only at e4
              have j3 : (jn : Int) < (m : Int) := by omega
              have j4 : ((jn : Int)).toNat = jn := by omega
              by_cases hd : ta - tj < L
              · have hne : ¬ (rj = r) := by rw [← hrj, ← HRR.out]; exact HG.out.differ (by omega) HTA.out htj hd
                have d5 : (rj == r) = false := by simp [hne]
                have d6 : decide (ta - tj < L) = true := decide_eq_true hd
                clear htj hrj
                go_wp2_with fail
                go_quiet (fail)
                go_wp2_with fail
                go_quiet (fail)
                go_wp2_with fail
                go_roundw
                case rel => exact ⟨(jn : Int) - 1, _, by omega, by omega, rfl, rfl⟩
                case measure => simp [intOf]
              · have d6 : decide (ta - tj < L) = false := decide_eq_false hd
                clear htj hrj
                go_wp2_with fail
                go_quiet (fail)
                go_wp2_with fail
                go_roundw
                case rel => exact ⟨a + 1, _, by omega, by go_num, rfl⟩
                case measure => simp [intOf]; omega
            · obtain rfl : jj = -1 := by omega
              go_wp2_with fail
              go_quiet (fail)
              go_wp2_with fail
              go_roundw
              case rel => exact ⟨a + 1, _, by omega, by go_num, rfl⟩
              case measure => simp [intOf]; omega
        · go_wp2_with fail
          go_ret
          exact ⟨rfl, (HAW.out.drewN q).to_below⟩
theorem lifted (os : Os) (started : os.Started) (H : Type) (enc : TypeId × Value → H) (F : Stop.Interp) :
    ReturnsInHanded {} Try.checked os 5 .any ((Rows.OpenSpec.upto Rows.identNoneSpec).pre6 enc Try.prog Try.f5 Rows.identNoneUptoRow.domain false) (((Rows.OpenSpec.upto Rows.identNoneSpec).at F).post enc Try.prog Try.f5 false true false false) := by
  refine returnsInHanded_of_cond_sized (C := Try.checked) (s := Rows.OpenSpec.upto Rows.identNoneSpec) (k := Rows.uptoSmall) rfl ownKn started (by kernel_rfl) Try.func5
    (OpenSpec.witness (enc := enc) (C := Try.checked) (s := Rows.OpenSpec.upto Rows.identNoneSpec) (k := Rows.uptoSmall) rfl false ⟨#[], #[.int .i64 0, .int .i64 0, .slice none 0 0], []⟩ 8 (by kernel_rfl) (by kernel_rfl) (by kernel_rfl)
      (x := ([.lit (.int .i64 0), .lit (.int .i64 0), .nil], [], [])) (by kernel_rfl) (by kernel_rfl) (by kernel_rfl)) ?_
  intro W base args ds gs before hval0 hW _ hk hsz0 _
  have hsz : (DataW.weightsEach Try.prog (Try.f5.params.toList ++ Rows.identNoneSpec.plain.varTypes Try.prog) (ds ++ gs)).all (· ≤ reachBytes) = true := hsz0
  clear hsz0
  have hval : ∀ (j : Nat) t v, Try.f5.params[j]? = some t → args[j]? = some v → Value.okWide Try.prog W .any base t v := hval0
  have hW' := hW
  obtain ⟨p, q, hA0, hV, rfl, hfz, hnd⟩ := hW
  have hA : DataW.TrodAll enc Try.prog W 0 (fun _ => true) true Try.f5.params.toList args.toList ds p := hA0
  rw [Try.params5] at hA hval hsz
  obtain ⟨v0, vs0, d0, ds0, p0, q0, hargs, rfl, rfl, h0, r0⟩ := trodAll_cons hA
  obtain ⟨v1, vs1, d1, ds1, p1, q1, rfl, rfl, rfl, h1, r1⟩ := trodAll_cons r0
  obtain ⟨v2, vs2, d2, ds2, p2, q2, rfl, rfl, rfl, h2, r2⟩ := trodAll_cons r1
  obtain ⟨rfl, rfl, rfl⟩ := trodAll_nil r2
  obtain rfl : args = #[v0, v1, v2] := by cases args; simp_all
  have hV2 : DataW.TrodVars enc Try.prog W (fun _ => true) Rows.identNoneSpec.vars gs q := hV
  obtain ⟨rfl, rfl⟩ := trodVars_none hV2
  obtain ⟨a0, rfl, rfl, rfl, w0⟩ := open_int Try.underlying2 (hval 0 2 v0 rfl rfl) h0
  obtain ⟨a1, rfl, rfl, rfl, w1⟩ := open_int Try.underlying2 (hval 1 2 v1 rfl rfl) h1
  have k2 := h2
  have lt2 : ∀ x ∈ p2, x.block < W.heap.size := by obtain ⟨m, hm⟩ := k2; exact DataW.trod_lt m _ _ _ hm
  have z2 : ∀ m ∈ d2.weights Try.prog 33, m ≤ reachBytes := fun m hm => by
    have := List.all_eq_true.1 hsz m (DataW.weights_mem_each (j := 2) (t := 33) rfl rfl m hm)
    simpa using this
  obtain ⟨a2, len2, cap2, rfl⟩ := okWide_slice Try.underlying33 (hval 2 33 v2 rfl rfl)
  obtain ⟨l2, rfl, w2, u2, b2⟩ := open_nums h2 z2 lt2
  clear hA0 hval0
  refine (walk a0 a1 a2 l2 cap2 W w0 w1 w2 b2 (Nat.le_trans u2 (small_mem hk (by simp)))).mono fun e W' ⟨he, bel⟩ => ?_
  subst he
  exact ⟨_, rfl, _, _, _, [], _, [], hW', trodAll_mk1 (shut_bool Try.underlying4 _), (trodAll_cons_mk (shut_int Try.underlying2 w0) (trodAll_cons_mk (shut_int Try.underlying2 w1) (trodAll_cons_mk (Below.trod laidOut (by kernel_rfl) (of_decide_eq_true (by kernel_rfl)) k2 bel lt2) trodAll_mk0))), rfl, bel.frame _, fun h => by cases h⟩
theorem over : Rows.identNoneUptoRow.holds Try.pinned (Rows.OpenSpec.upto Rows.identNoneSpec) :=
  OpenClaim.holds_of_cond 5 Try.f5 rfl rfl rfl rfl rfl rfl rfl ⟨rfl, rfl, rfl, rfl, rfl⟩ rfl rfl rfl rfl rfl (by kernel_rfl) Try.func5 (by kernel_rfl)
    (of_decide_eq_true (by kernel_rfl)) (by unfold Func.isWrapper; first | (rw [if_pos (by decide +kernel)]; kernel_rfl) | (rw [if_neg (by decide +kernel)]; exact ⟨rfl, rfl⟩))
    (fun os started H enc _ F => lifted os started H enc F)
end identNone
theorem identNoneUpto_holds : Rows.IdentNoneUptoSaid := identNone.over
#print axioms identNoneUpto_holds
end Go.Proofs.Ytepbgigoekpdeaa
