/-
  IdentBusyWhen.
-/
import Derived.Test.YtepbgigoekpdeaaGot
namespace Go.Proofs.Ytepbgigoekpdeaa
open Go.ChangeShapes Go.WideShapes Go.ChangeAt Go.RowKit Go.Deep
set_option linter.unusedVariables false
set_option maxRecDepth 100000

theorem wrap_plusB {t x : Int} (h1 : 0 ≤ t) (h2 : t ≤ 1099511627776) : wrap64 (t + waitP x) = t + waitP x := by
  have := waitP_bd x
  unfold wrap64
  omega
set_option maxHeartbeats 4000000 in
theorem within_c {w : World} {v : Value} {sp li : Int} {G : List Int} (now : Int) (hl : LstG w v (gotL sp G)) (hg : Good sp li G) (hm : G.length < 2097152) (h0 : 0 ≤ now) (h1 : now ≤ 1099511627776) :
    Calls Try.prog 18 #[v, .int .i64 now, .int .i64 li] w fun E w' => E = .returned (.int .i64 (cnt li now G)) ∧ w' = w := by
  obtain ⟨la, lc, hv⟩ := hl.shape
  rw [gotL_len] at hv
  subst hv
  have HG := hidI hg
  obtain ⟨m, hM⟩ : ∃ m, m = G.length := ⟨_, rfl⟩
  rw [← hM] at hl hm ⊢
  have HL := hidI hl
  have HM := hidI hM
  clear hl hg hM
  go_enter Try.func18, Try.ntmps18
  go_wp2_with fail
  go_loopw [7, 8] (fun nv i wr => ∃ z : Nat, z ≤ m ∧ nv = .int .i64 (z : Int) ∧ i = .int .i64 ((m : Int) - 1 - z) ∧ wr = w ∧ ∀ j x, m - z ≤ j → G[j]? = some x → now - x < li) (fun _ i _ => (intOf i + 1).toNat)
  case atStart => exact ⟨0, by omega, rfl, by go_num, rfl, fun j x hj hx => by have := get_lt' hx; have := HM.out; omega⟩
  case round =>
    obtain ⟨z, hz, rfl, rfl, rfl, hall⟩ := hrel
    have HAL := hidI hall
    clear hall
    have fin : z = m → (z : Int) = cnt li now G := fun e => by
      have hc := cnt_le li now G
      have hM := HM.out
      rcases Nat.eq_zero_or_pos m with h' | h'
      · omega
      · have i1 : 0 < G.length := by omega
        have := (cnt_at li now G HG.out.up _ _ (List.getElem?_eq_getElem i1)).1 (HAL.out 0 _ (by omega) (List.getElem?_eq_getElem i1))
        omega
    have HFIN := hidI fin
    clear fin
    by_cases hlt : z < m
    · obtain ⟨a, ha⟩ : ∃ a : Nat, (a : Int) = (m : Int) - 1 - z := ⟨m - 1 - z, by omega⟩
      rw [← ha]
      obtain ⟨ta, hta⟩ : ∃ ta, G[a]? = some ta := ⟨G[a]'(by have := HM.out; omega), by simp⟩
      obtain ⟨b, cap', hv', -, c2⟩ := HL.out.at (gotL_get sp G a ta hta)
      simp only [Value.slice.injEq] at hv'
      obtain ⟨rfl, -, rfl⟩ := hv'
      simp only at c2
      have bta := HG.out.bd ta (List.mem_of_getElem? hta)
      have HTA := hidI hta
      have HAA := hidI ha
      have i2 : 0 ≤ (a : Int) := by omega
      have i3 : (a : Int) < (m : Int) := by omega
      have i4 : ((a : Int)).toNat = a := by omega
      clear hta ha
      by_cases hd : now - ta < li
      · have d6 : decide (now - ta < li) = true := decide_eq_true hd
        go_wp2_with fail
        go_roundw
        case rel => exact ⟨z + 1, by omega, by go_num, by have := HAA.out; show Value.int .i64 ((a : Int) - 1) = _; congr 1; omega, by first | trivial | rfl, fun j x hj hx => by
          have hA := HAA.out
          rcases Nat.lt_or_ge a j with h' | h'
          · exact HAL.out j x (by omega) hx
          · obtain rfl : j = a := by omega
            have := HTA.out
            rw [hx] at this
            simp at this
            subst this
            exact hd⟩
        case measure => simp [intOf]
      · have d6 : decide (now - ta < li) = false := decide_eq_false hd
        have HC : Hid ((z : Int) = cnt li now G) := by
          show _ = _
          have hc := cnt_le li now G
          have hM := HM.out
          have hA := HAA.out
          have k1 := cnt_at li now G HG.out.up a ta HTA.out
          have k2 : ¬ (G.length - cnt li now G ≤ a) := fun h => hd (k1.2 h)
          rcases Nat.eq_zero_or_pos z with h' | h'
          · omega
          · have i1 : m - z < G.length := by omega
            have := (cnt_at li now G HG.out.up _ _ (List.getElem?_eq_getElem i1)).1 (HAL.out _ _ (by omega) (List.getElem?_eq_getElem i1))
            omega
        clear HFIN
        go_wp2_with fail
        go_ret
        exact ⟨by rw [← HC.out]; rfl, rfl⟩
    · obtain rfl : z = m := by omega
      have HC := hidI (HFIN.out rfl)
      clear HFIN
      have e0 : (z : Int) - 1 - z = -1 := by omega
      rw [e0]
      go_wp2_with fail
      go_ret
      exact ⟨by rw [← HC.out]; rfl, rfl⟩
/-- Asked, and nothing given. -/
theorem AskS.again {B w w' : World} {g c : Nat} {vs v : Value} {sp li : Int} {G : List Int} (h : AskS B w g c vs v sp li G) (ha : Asked w w' g c vs sp li G) : ∃ vs', AskS B w' g c vs' v sp li G := by
  obtain ⟨vs', h1, h2, h3, h4, h5⟩ := h.asked ha
  exact ⟨vs', h1, h2, h3, h.ng, h.nc, h4, h.nv, h5⟩
theorem last_next (sp li : Int) (G : List Int) (t : Int) (h : lastP G ≤ t) : lastP (nextG sp li G t) ≤ t := by
  unfold nextG
  split
  · split
    · exact h
    · rw [last_snoc]; exact Int.le_refl _
  · exact h
namespace identBusyWhen
set_option maxHeartbeats 16000000 in
theorem walk (s l : Int) (wa : Option Addr) (ws : List Int) (cap : Nat) (w : World) (h0 : (Lit.int .i64 s).wf = true) (h1 : (Lit.int .i64 l).wf = true) (hr : RowI w wa ws) (hlen0 : ws.length ≤ 17592186043904) (hlen : ws.length ≤ 1048576) :
    Calls Try.prog 7 #[.int .i64 s, .int .i64 l, .slice wa ws.length cap] w fun E w' => E = .returned (.bool true) ∧ Below w.heap.size w w' := by
  have b0 : I64 s := bounds_i64 h0; have b1 : I64 l := bounds_i64 h1
  have K1 := hidI (fun w => made_c s l w b0 b1)
  have HR := hidI hr
  clear h0 h1 hr hlen0
  obtain ⟨n, hn⟩ : ∃ n, n = ws.length := ⟨_, rfl⟩
  rw [← hn] at hlen ⊢
  have HN := hidI hn
  clear hn
  generalize spP s = S at *
  generalize liP l = L at *
  go_enter Try.func7, Try.ntmps7
  go_wp2_with fail
  refine (alive_c _).mono ?_
  rintro E w1 ⟨rfl, haw⟩
  have HA := hidI haw
  clear haw
  go_wp2_with fail
  refine (K1.out _).mono ?_
  rintro E w2 ⟨g, c, rfl, hf, hg, hc, haw⟩
  have hz := HA.out.size
  have HAS : Hid (AskS w w2 g c (.slice none 0 0) (.slice none 0 0) S L []) := ⟨hf, LstG.nil _, by simp [Value.ownBlock], by omega, by omega, New.nil _, New.nil _, HA.out.trans haw⟩
  clear hf hg hc haw HA K1 hz
  go_wp2_with fail
  go_loopw [7, 10, 11, 12] (fun o v nw i wr => ∃ (k : Nat) (t : Int) (G : List Int) (vs : Value), o = .bool true ∧ nw = .int .i64 t ∧ i = .int .i64 (k : Int) ∧ k ≤ n ∧ G.length ≤ k ∧ 0 ≤ t ∧ t ≤ 1099511627776 ∧ lastP G ≤ t ∧ AskS w wr g c vs v S L G) (fun _ _ _ i _ => n - (intOf i).toNat)
  case atStart => exact ⟨0, 0, [], _, rfl, rfl, rfl, by omega, by simp, by omega, by omega, by simp [lastP], HAS.out⟩
  case round =>
    clear HAS
    obtain ⟨k, t, G, vs, rfl, rfl, rfl, hk, hG, ht0, ht1, hla, has⟩ := hrel
    have HAS := hidI has
    clear has
    by_cases hlt : k < n
    · obtain ⟨x, hx⟩ : ∃ x, ws[k]? = some x := ⟨ws[k]'(by have := HN.out; omega), by simp⟩
      obtain ⟨wb, wo, rfl, hcell, hxi⟩ := (HR.out.on HAS.out.aw).at hx
      have HXI := hidI hxi
      clear hx hxi
      have hwx := waitP_bd x
      have HWP := hidI (wrap_plusB (x := x) ht0 ht1)
      have i2 : 0 ≤ (k : Int) := by omega
      have i3 : (k : Int) < (n : Int) := by omega
      have i4 : ((k : Int)).toNat = k := by omega
      have HST := hidI (fun w => step_c t x w HXI.out)
      rw [HWP.out] at HST
      have t2a : 0 ≤ t + waitP x := by omega
      have hla2 : lastP G ≤ t + waitP x := by omega
      clear hwx hla
      generalize t + waitP x = t2 at *
      have KB := hidI (fun w' h => bsy_c (w := w') (g := g) (c := c) (v := vs) (sp := S) (li := L) (G := G) t2 h)
      by_cases htm : t2 ≤ 1099511627776
      · have hmay : mayP G t2 := ⟨hla2, htm⟩
        have HMY := hidI hmay
        have e1 : busyN L G t2 = cnt L t2 G := by unfold busyN; rw [if_pos hmay]
        have e2 : busyE G t2 = 0 := by unfold busyE; rw [if_pos hmay]
        rw [e1, e2] at KB
        have hgood : Good S L G := by obtain ⟨bs, h⟩ := HAS.out.sc; exact h.good
        have hcs := cnt_sp hgood hla2
        have HW := hidI (fun w' h => within_c (w := w') (sp := S) (li := L) (G := G) (v := u10) t2 h hgood (by omega) t2a htm)
        have HLN := hidI (gotL_len S G)
        have hnl := next_len S L G t2
        have HNL : Hid ((nextG S L G t2).length ≤ k + 1) := by show _ ≤ _; omega
        have HLL := hidI (last_next S L G t2 hla2)
        have HAK := hidI (fun w' h => ask_c (B := w) (w := w') (g := g) (c := c) (vs := vs) (v := u10) (sp := S) (li := L) (G := G) t2 h (by omega))
        have hSb : S ≤ 4294967296 := hgood.sp2
        have hS1 : 1 ≤ S := hgood.sp1
        clear hnl e1 e2 hmay hgood
        obtain ⟨la, lc, hv⟩ := HAS.out.l.shape
        rw [HLN.out] at hv
        subst hv
        obtain ⟨m, hm⟩ : ∃ m, m = G.length := ⟨_, rfl⟩
        have HMM := hidI hm
        rw [← hm] at HAS HAK HW ⊢
        have hmb : m ≤ 1048576 := by omega
        have hc0 : 0 ≤ (cnt L t2 G : Int) := by omega
        by_cases hf : fullP S L G t2
        · have e3 : nextE S L G t2 = 120 := by unfold nextE; rw [if_pos HMY.out, if_pos hf]
          have e4 : nextG S L G t2 = G := by unfold nextG; rw [if_pos HMY.out, if_pos hf]
          have e5 : (cnt L t2 G : Int) = S := hf
          rw [e3, e4] at HAK
          rw [e5] at KB HW
          have KX := hidI (fun w' vs h => next_c (w := w') (g := g) (c := c) (v := vs) (sp := S) (li := L) (G := G) t2 h (by omega))
          rw [e3, e4] at KX
          have KB2 : Hid (∀ w' vs, Sc w' g c vs S L G → Calls Try.prog 11 #[.pointer (some ⟨g, 0, none⟩), .int .i64 t2] w' fun E w'' => E = .returned (.tuple #[.int .i64 S, .int .i64 0]) ∧ Away [] w' w'') := fun w' vs h => by
            have := bsy_c t2 h
            unfold busyN busyE at this
            rw [if_pos HMY.out, if_pos HMY.out, e5] at this
            exact this
          generalize nextN S L G t2 = nn at *
          have e8 : ((m : Int) == (m : Int) + 1) = false := by simp; omega
          clear e3 e4 e5 hf hcs hc0 hm hla2 HNL HLL
          go_wp2_with fail
          refine (HST.out _).mono ?_
          rintro E _ ⟨rfl, rfl⟩
          go_wp2_with fail
          refine (KB.out _ HAS.out.sc).mono ?_
          rintro E w3 ⟨rfl, haw⟩
          replace HAS := hidI (HAS.out.on haw)
          clear haw
          go_wp2_with fail
          refine (HW.out _ HAS.out.l).mono ?_
          rintro E _ ⟨rfl, rfl⟩
          go_wp2_with fail
          refine (HAK.out _ HAS.out).mono ?_
          rintro E w4 ⟨vs4, v4, rfl, has⟩
          obtain ⟨la4, lc4, hv4⟩ := has.l.shape
          rw [HLN.out, ← HMM.out] at hv4
          subst hv4
          replace HAS := hidI has
          clear has
          go_wp2_with fail
          go_loopw [19] (fun i wx => ∃ (z : Nat) (vs5 : Value), z ≤ 2 ∧ i = .int .i64 (z : Int) ∧ AskS w wx g c vs5 (.slice la4 m lc4) S L G) (fun i _ => 2 - (intOf i).toNat)
          case atStart => exact ⟨0, _, by omega, rfl, HAS.out⟩
          case round =>
            clear HAS
            obtain ⟨z, vs5, hz, rfl, has⟩ := hrel
            have HAS := hidI has
            clear has
            by_cases hz2 : z < 2
            · go_wp2_with fail
              refine (KX.out _ _ HAS.out.sc).mono ?_
              rintro E w6 ⟨rfl, hask⟩
              obtain ⟨vs6, has⟩ := HAS.out.again hask
              replace HAS := hidI has
              clear has hask
              go_wp2_with fail
              refine (KB2.out _ _ HAS.out.sc).mono ?_
              rintro E w7 ⟨rfl, haw⟩
              replace HAS := hidI (HAS.out.on haw)
              clear haw
              go_wp2_with fail
              go_roundw
              case rel => exact ⟨z + 1, _, by omega, by go_num, HAS.out⟩
              case measure => simp [intOf]; omega
            · go_wp2_with fail
              go_roundw
              case rel => exact ⟨k + 1, t2, G, _, rfl, rfl, by go_num, by omega, by omega, t2a, htm, HMY.out.1, HAS.out⟩
              case measure => simp [intOf]; omega
        · have e3 : nextE S L G t2 = 0 := by unfold nextE; rw [if_pos HMY.out, if_neg hf]
          have e4 : nextG S L G t2 = G ++ [t2] := by unfold nextG; rw [if_pos HMY.out, if_neg hf]
          have e5 : ¬ ((cnt L t2 G : Int) = S) := hf
          rw [e3, e4] at HAK
          rw [e4] at HNL HLL
          have HLN2 := hidI (gotL_len S (G ++ [t2]))
          have HLX : Hid ((G ++ [t2]).length = m + 1) := by show _ = _; simp [hm]
          generalize (cnt L t2 G : Int) = q at *
          have e6 : (q == S) = false := by simp [e5]
          have e7 : q < S := by omega
          clear e3 e4 hf hm hla2
          go_wp2_with fail
          refine (HST.out _).mono ?_
          rintro E _ ⟨rfl, rfl⟩
          go_wp2_with fail
          refine (KB.out _ HAS.out.sc).mono ?_
          rintro E w3 ⟨rfl, haw⟩
          replace HAS := hidI (HAS.out.on haw)
          clear haw
          go_wp2_with fail
          refine (HW.out _ HAS.out.l).mono ?_
          rintro E _ ⟨rfl, rfl⟩
          go_wp2_with fail
          refine (HAK.out _ HAS.out).mono ?_
          rintro E w4 ⟨vs4, v4, rfl, has⟩
          obtain ⟨la4, lc4, hv4⟩ := has.l.shape
          rw [HLN2.out, HLX.out] at hv4
          subst hv4
          replace HAS := hidI has
          clear has
          go_wp2_with fail
          go_loopw [19] (fun i wx => i = .int .i64 0 ∧ wx = w4) (fun _ _ => 0)
          case atStart => exact ⟨rfl, rfl⟩
          case round =>
            obtain ⟨rfl, rfl⟩ := hrel
            go_wp2_with fail
            go_roundw
            case rel => exact ⟨k + 1, t2, G ++ [t2], _, rfl, rfl, by go_num, by omega, HNL.out, t2a, htm, HLL.out, HAS.out⟩
            case measure => simp [intOf]; omega
      · have hmay : ¬ mayP G t2 := fun h => htm h.2
        have e2 : busyE G t2 = 1 := by unfold busyE; rw [if_neg hmay]
        rw [e2] at KB
        generalize busyN L G t2 = bb at *
        clear e2 hmay hla2
        go_wp2_with fail
        refine (HST.out _).mono ?_
        rintro E _ ⟨rfl, rfl⟩
        go_wp2_with fail
        refine (KB.out _ HAS.out.sc).mono ?_
        rintro E w3 ⟨rfl, haw⟩
        have HE := hidI (HAS.out.aw.trans haw)
        clear haw
        go_wp2_with fail
        go_ret
        exact ⟨rfl, HE.out.to_below⟩
    · go_wp2_with fail
      go_ret
      exact ⟨rfl, HAS.out.aw.to_below⟩
theorem lifted (os : Os) (started : os.Started) (H : Type) (enc : TypeId × Value → H) (F : Stop.Interp) :
    ReturnsInHanded {} Try.checked os 7 .any ((Rows.OpenSpec.upto Rows.identBusyWhenSpec).pre6 enc Try.prog Try.f7 Rows.identBusyWhenUptoRow.domain false) (((Rows.OpenSpec.upto Rows.identBusyWhenSpec).at F).post enc Try.prog Try.f7 false true false false) := by
  refine returnsInHanded_of_cond_sized (C := Try.checked) (s := Rows.OpenSpec.upto Rows.identBusyWhenSpec) (k := Rows.uptoSmall) rfl ownKn started (by kernel_rfl) Try.func7
    (OpenSpec.witness (enc := enc) (C := Try.checked) (s := Rows.OpenSpec.upto Rows.identBusyWhenSpec) (k := Rows.uptoSmall) rfl false ⟨#[], #[.int .i64 0, .int .i64 0, .slice none 0 0], []⟩ 8 (by kernel_rfl) (by kernel_rfl) (by kernel_rfl)
      (x := ([.lit (.int .i64 0), .lit (.int .i64 0), .nil], [], [])) (by kernel_rfl) (by kernel_rfl) (by kernel_rfl)) ?_
  intro W base args ds gs before hval0 hW _ hk hsz0 _
  have hsz : (DataW.weightsEach Try.prog (Try.f7.params.toList ++ Rows.identBusyWhenSpec.plain.varTypes Try.prog) (ds ++ gs)).all (· ≤ reachBytes) = true := hsz0
  clear hsz0
  have hval : ∀ (j : Nat) t v, Try.f7.params[j]? = some t → args[j]? = some v → Value.okWide Try.prog W .any base t v := hval0
  have hW' := hW
  obtain ⟨p, q, hA0, hV, rfl, hfz, hnd⟩ := hW
  have hA : DataW.TrodAll enc Try.prog W 0 (fun _ => true) true Try.f7.params.toList args.toList ds p := hA0
  rw [Try.params7] at hA hval hsz
  obtain ⟨v0, vs0, d0, ds0, p0, q0, hargs, rfl, rfl, h0, r0⟩ := trodAll_cons hA
  obtain ⟨v1, vs1, d1, ds1, p1, q1, rfl, rfl, rfl, h1, r1⟩ := trodAll_cons r0
  obtain ⟨v2, vs2, d2, ds2, p2, q2, rfl, rfl, rfl, h2, r2⟩ := trodAll_cons r1
  obtain ⟨rfl, rfl, rfl⟩ := trodAll_nil r2
  obtain rfl : args = #[v0, v1, v2] := by cases args; simp_all
  have hV2 : DataW.TrodVars enc Try.prog W (fun _ => true) Rows.identBusyWhenSpec.vars gs q := hV
  obtain ⟨rfl, rfl⟩ := trodVars_none hV2
  obtain ⟨a0, rfl, rfl, rfl, w0⟩ := open_int Try.underlying2 (hval 0 2 v0 rfl rfl) h0
  obtain ⟨a1, rfl, rfl, rfl, w1⟩ := open_int Try.underlying2 (hval 1 2 v1 rfl rfl) h1
  have k2 := h2
  have lt2 : ∀ x ∈ p2, x.block < W.heap.size := by obtain ⟨m, hm⟩ := k2; exact DataW.trod_lt m _ _ _ hm
  have z2 : ∀ m ∈ d2.weights Try.prog 33, m ≤ reachBytes := fun m hm => by
    have := List.all_eq_true.1 hsz m (DataW.weights_mem_each (j := 2) (t := 33) rfl rfl m hm)
    simpa using this
  obtain ⟨a2, len2, cap2, rfl⟩ := okWide_slice Try.underlying33 (hval 2 33 v2 rfl rfl)
  obtain ⟨l2, rfl, w2, u2, b2⟩ := open_nums h2 z2 lt2
  clear hA0 hval0
  refine (walk a0 a1 a2 l2 cap2 W w0 w1 w2 b2 (Nat.le_trans u2 (small_mem hk (by simp)))).mono fun e W' ⟨he, bel⟩ => ?_
  subst he
  exact ⟨_, rfl, _, _, _, [], _, [], hW', trodAll_mk1 (shut_bool Try.underlying4 _), (trodAll_cons_mk (shut_int Try.underlying2 w0) (trodAll_cons_mk (shut_int Try.underlying2 w1) (trodAll_cons_mk (Below.trod laidOut (by kernel_rfl) (of_decide_eq_true (by kernel_rfl)) k2 bel lt2) trodAll_mk0))), rfl, bel.frame _, fun h => by cases h⟩
theorem over : Rows.identBusyWhenUptoRow.holds Try.pinned (Rows.OpenSpec.upto Rows.identBusyWhenSpec) :=
  OpenClaim.holds_of_cond 7 Try.f7 rfl rfl rfl rfl rfl rfl rfl ⟨rfl, rfl, rfl, rfl, rfl⟩ rfl rfl rfl rfl rfl (by kernel_rfl) Try.func7 (by kernel_rfl)
    (of_decide_eq_true (by kernel_rfl)) (by unfold Func.isWrapper; first | (rw [if_pos (by decide +kernel)]; kernel_rfl) | (rw [if_neg (by decide +kernel)]; exact ⟨rfl, rfl⟩))
    (fun os started H enc _ F => lifted os started H enc F)
end identBusyWhen
theorem identBusyWhenUpto_holds : Rows.IdentBusyWhenUptoSaid := identBusyWhen.over
#print axioms identBusyWhenUpto_holds
end Go.Proofs.Ytepbgigoekpdeaa
