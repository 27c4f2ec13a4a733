/-
  IdentAgain.
-/
import Derived.Test.YtepbgigoekpdeaaSrcs
namespace Go.Proofs.Ytepbgigoekpdeaa
open Go.ChangeShapes Go.WideShapes Go.ChangeAt Go.RowKit Go.Deep
set_option linter.unusedVariables false
set_option maxRecDepth 100000

theorem cnt_over {sp li : Int} {G : List Int} (h : Good sp li G) : cnt li (lastP G + li) G = 0 := by
  unfold cnt
  rw [List.countP_eq_zero]
  intro t ht
  have := le_last G h.up t ht
  simp
  omega
theorem again_may {sp li : Int} {G : List Int} (h : Good sp li G) (hn : lastP G + li ≤ 1099511627776) : mayP G (lastP G + li) := ⟨by have := h.li0; omega, hn⟩
theorem againB {w : World} {g c : Nat} {v : Value} {sp li : Int} {G : List Int} (h : Sc w g c v sp li G) (hn : lastP G + li ≤ 1099511627776) :
    Calls Try.prog 11 #[.pointer (some ⟨g, 0, none⟩), .int .i64 (lastP G + li)] w fun E w' => E = .returned (.tuple #[.int .i64 0, .int .i64 0]) ∧ Away [] w w' := by
  have hg : Good sp li G := by obtain ⟨bs, h⟩ := h; exact h.good
  have := bsy_c (lastP G + li) h
  unfold busyN busyE at this
  rw [if_pos (again_may hg hn), if_pos (again_may hg hn), cnt_over hg] at this
  exact this
theorem againN {w : World} {g c : Nat} {v : Value} {sp li : Int} {G : List Int} (h : Sc w g c v sp li G) (hs : G.length < 35184372088832) (hn : lastP G + li ≤ 1099511627776) :
    Calls Try.prog 10 #[.pointer (some ⟨g, 0, none⟩), .int .i64 (lastP G + li)] w fun E w' => E = .returned (.tuple #[.int .u32 ((G.length : Int) % sp), .int .i64 0]) ∧ Asked w w' g c v sp li (nextG sp li G (lastP G + li)) := by
  have hg : Good sp li G := by obtain ⟨bs, h⟩ := h; exact h.good
  have hf : ¬ fullP sp li G (lastP G + li) := by unfold fullP; rw [cnt_over hg]; have := hg.sp1; simp; omega
  have := next_c (lastP G + li) h hs
  have e1 : nextN sp li G (lastP G + li) = (G.length : Int) % sp := by unfold nextN; rw [if_pos (again_may hg hn), if_neg hf]
  have e2 : nextE sp li G (lastP G + li) = 0 := by unfold nextE; rw [if_pos (again_may hg hn), if_neg hf]
  rw [e1, e2] at this
  exact this
theorem next_last {sp li : Int} {G : List Int} (now : Int) (h : nextE sp li G now = 0) : lastP (nextG sp li G now) = now ∧ (nextG sp li G now).length = G.length + 1 := by
  unfold nextE at h
  unfold nextG
  by_cases h1 : mayP G now
  · rw [if_pos h1] at h ⊢
    by_cases h2 : fullP sp li G now
    · rw [if_pos h2] at h; simp at h
    · rw [if_neg h2]; exact ⟨last_snoc _ _, by simp⟩
  · rw [if_neg h1] at h; simp at h
theorem next_stays {sp li : Int} {G : List Int} (now : Int) (h : nextE sp li G now ≠ 0) : nextG sp li G now = G := by
  unfold nextE at h
  unfold nextG
  by_cases h1 : mayP G now
  · rw [if_pos h1] at h ⊢
    by_cases h2 : fullP sp li G now
    · rw [if_pos h2]
    · rw [if_neg h2] at h; simp at h
  · rw [if_neg h1]
namespace identAgain
set_option maxHeartbeats 8000000 in
theorem walk (s l : Int) (wa : Option Addr) (ws : List Int) (cap : Nat) (w : World) (h0 : (Lit.int .i64 s).wf = true) (h1 : (Lit.int .i64 l).wf = true) (hr : RowI w wa ws) (hlen : ws.length ≤ 17592186043904) :
    Calls Try.prog 4 #[.int .i64 s, .int .i64 l, .slice wa ws.length cap] w fun E w' => E = .returned (.bool true) ∧ Below w.heap.size w w' := by
  have b0 : I64 s := bounds_i64 h0; have b1 : I64 l := bounds_i64 h1
  have hsp := spP_bd s; have hli := liP_bd l
  have K1 := hidI (fun w => made_c s l w b0 b1)
  have K2 : Hid (∀ w, Calls Try.prog 12 #[.int .i64 s, .int .i64 (liP l)] w fun E w' => ∃ g c, E = .returned (.tuple #[.pointer (some ⟨g, 0, none⟩), .int .i64 (spP s), .int .i64 (liP l)]) ∧ Fresh w w' g c (spP s) (liP l)) := fun w => by
    have := made_c s (liP l) w b0 (by unfold I64; omega)
    rw [liP_liP] at this
    exact this
  have HR := hidI hr
  clear h0 h1 hr
  obtain ⟨n, hn⟩ : ∃ n, n = ws.length := ⟨_, rfl⟩
  rw [← hn] at hlen ⊢
  have HN := hidI hn
  clear hn
  generalize spP s = S at *
  generalize liP l = L at *
  obtain ⟨S1, S2⟩ := hsp
  obtain ⟨L1, L2⟩ := hli
  go_enter Try.func4, Try.ntmps4
  go_wp2_with fail
  refine (alive_c _).mono ?_
  rintro E w1 ⟨rfl, haw⟩
  have HAL := hidI (All.nil w w1 haw)
  clear haw
  go_wp2_with fail
  refine (K1.out _).mono ?_
  rintro E w2 ⟨ga, ca, rfl, hf⟩
  replace HAL := hidI (HAL.out.add hf)
  clear hf
  go_wp2_with fail
  refine (K2.out _).mono ?_
  rintro E w3 ⟨gb, cb, rfl, hf⟩
  replace HAL := hidI (HAL.out.add hf)
  clear hf
  go_wp2_with fail
  refine (K2.out _).mono ?_
  rintro E w4 ⟨gc, cc, rfl, hf⟩
  replace HAL := hidI (HAL.out.add hf)
  clear hf K1 K2
  go_wp2_with fail
  go_loopw [16, 17, 18, 19] (fun la nw gv i wr => ∃ (k : Nat) (t : Int) (G G3 : List Int) (va vb vc : Value), la = .int .i64 (lastP G) ∧ nw = .int .i64 t ∧ gv = .int .i64 (G.length : Int) ∧ i = .int .i64 (k : Int) ∧ k ≤ n ∧ G.length ≤ k ∧ G3.length ≤ k ∧ All w wr [⟨ga, ca, va, S, L, G⟩, ⟨gb, cb, vb, S, L, G⟩, ⟨gc, cc, vc, S, L, G3⟩]) (fun _ _ _ i _ => n - (intOf i).toNat)
  case atStart => exact ⟨0, 0, [], [], _, _, _, rfl, rfl, rfl, rfl, by omega, by simp, by simp, HAL.out⟩
  case round =>
    clear HAL
    obtain ⟨k, t, G, G3, va, vb, vc, rfl, rfl, rfl, rfl, hk, hG, hG3, hall⟩ := hrel
    have HL := hidI hall
    clear hall
    by_cases hlt : k < n
    · obtain ⟨x, hx⟩ : ∃ x, ws[k]? = some x := ⟨ws[k]'(by have := HN.out; omega), by simp⟩
      obtain ⟨wb, wo, rfl, hcell, hxi⟩ := (HR.out.on HL.out.aw).at hx
      have HXI := hidI hxi
      clear hx hxi
      have i2 : 0 ≤ (k : Int) := by omega
      have i3 : (k : Int) < (n : Int) := by omega
      have i4 : ((k : Int)).toNat = k := by omega
      go_wp2_with fail
      refine (step_c t x _ HXI.out).mono ?_
      rintro E _ ⟨rfl, rfl⟩
      generalize wrap64 (t + waitP x) = t2
      have KA := hidI (next_c t2 (HL.out.ok ⟨ga, ca, va, S, L, G⟩ (by simp)) (by simp only; omega))
      go_wp2_with fail
      refine KA.out.mono ?_
      clear KA
      (try simp only)
      rintro E w5 ⟨rfl, hask⟩
      obtain ⟨va2, hall⟩ := HL.out.ask (l := []) hask
      replace HL := hidI hall
      clear hask hall hcell
      go_wp2_with fail
      have KC := hidI (next_c 0 (HL.out.ok ⟨gc, cc, vc, S, L, G3⟩ (by simp)) (by simp only; omega))
      refine KC.out.mono ?_
      clear KC
      (try simp only)
      rintro E w6 ⟨rfl, hask⟩
      obtain ⟨vc2, hall⟩ := HL.out.ask (l := [_, _]) hask
      replace HL := hidI hall
      clear hask hall
      go_wp2_with fail
      have KB := hidI (next_c t2 (HL.out.ok ⟨gb, cb, vb, S, L, G⟩ (by simp)) (by simp only; omega))
      refine KB.out.mono ?_
      clear KB
      (try simp only)
      rintro E w7 ⟨rfl, hask⟩
      obtain ⟨vb2, hall⟩ := HL.out.ask (l := [_]) hask
      replace HL := hidI hall
      clear hask hall
      have hl3 := next_len S L G3 0
      have HG3 : Hid ((nextG S L G3 0).length ≤ k + 1) := by show _ ≤ _; omega
      generalize nextN S L G t2 = nn at *
      by_cases he : nextE S L G t2 = 0
      · have HE := hidI (next_last t2 he)
        rw [he]
        clear he hl3
        generalize nextG S L G t2 = G2 at *
        generalize nextG S L G3 0 = G4 at *
        go_wp2_with fail
        go_roundw
        case rel => exact ⟨k + 1, t2, G2, G4, _, _, _, by rw [HE.out.1], rfl, by rw [HE.out.2]; go_num, by go_num, by omega, by rw [HE.out.2]; omega, HG3.out, HL.out⟩
        case measure => simp [intOf]; omega
      · have HE := hidI (next_stays t2 he)
        have hed : (nextE S L G t2 == 0) = false := by simp [he]
        rw [HE.out] at HL
        clear HE hl3
        generalize nextE S L G t2 = ee at *
        generalize nextG S L G3 0 = G4 at *
        go_wp2_with fail
        go_roundw
        case rel => exact ⟨k + 1, t2, G, G4, _, _, _, rfl, rfl, rfl, by go_num, by omega, by omega, HG3.out, HL.out⟩
        case measure => simp [intOf]; omega
    · have hok := HL.out.ok ⟨ga, ca, va, S, L, G⟩ (by simp)
      have HOK : Hid (Sc wr ga ca va S L G) := hok
      have hlast : 0 ≤ lastP G ∧ lastP G ≤ 1099511627776 := by obtain ⟨bs, h⟩ := HOK.out; exact h.good.last
      clear hok
      by_cases hf : lastP G + L ≤ 1099511627776
      · have KB := hidI (fun w' h => againB (w := w') (g := ga) (c := ca) (v := va) (sp := S) (li := L) (G := G) h hf)
        have KN := hidI (fun w' h => againN (w := w') (g := ga) (c := ca) (v := va) (sp := S) (li := L) (G := G) h (by omega) hf)
        obtain ⟨r, hr⟩ : ∃ r : Int, (G.length : Int) % S = r := ⟨_, rfl⟩
        have q1 : (G.length : Int).tmod S = r := by rw [Int.tmod_eq_emod_of_nonneg (by omega), hr]
        have q2 : 0 ≤ r := by rw [← hr]; exact Int.emod_nonneg _ (by omega)
        have q3 : r ≤ 4294967295 := by have := Int.emod_lt_of_pos (G.length : Int) (show 0 < S by omega); omega
        have q4 : ¬ (S = 0) := by omega
        rw [hr] at KN
        clear hr
        have KN2 : Hid (∀ w', All w w' [⟨ga, ca, va, S, L, G⟩, ⟨gb, cb, vb, S, L, G⟩, ⟨gc, cc, vc, S, L, G3⟩] → Calls Try.prog 10 #[.pointer (some ⟨ga, 0, none⟩), .int .i64 (lastP G + L)] w' fun E w'' => E = .returned (.tuple #[.int .u32 r, .int .i64 0]) ∧ Away [] w w'') := fun w' h => (KN.out w' (h.ok ⟨ga, ca, va, S, L, G⟩ (by simp))).mono (fun E w'' hh => ⟨hh.1, by
          obtain ⟨v', hall⟩ := h.ask (l := []) hh.2
          exact hall.aw⟩)
        clear KN
        go_wp2_with fail
        refine (KB.out _ HOK.out).mono ?_
        rintro E w5 ⟨rfl, haw⟩
        replace HL := hidI (HL.out.on haw)
        clear haw HOK KB
        go_wp2_with fail
        refine (KN2.out _ HL.out).mono ?_
        rintro E w6 ⟨rfl, haw⟩
        have HA := hidI haw
        clear haw
        go_wp2_with fail
        go_ret
        exact ⟨rfl, HA.out.to_below⟩
      · have HA := hidI HL.out.aw
        go_wp2_with fail
        go_ret
        exact ⟨rfl, HA.out.to_below⟩
theorem lifted (os : Os) (started : os.Started) (H : Type) (enc : TypeId × Value → H) :
    ReturnsInHanded {} Try.checked os 4 .any (Rows.identAgainSpec.pre6 enc Try.prog Try.f4 Rows.identAgainRow.domain false) (Rows.identAgainSpec.post enc Try.prog Try.f4 false true false false) := by
  refine returnsInHanded_of_change_sized (C := Try.checked) ownKn started (by kernel_rfl) Try.func4
    (ChangeSpec.witness6 (enc := enc) (C := Try.checked) false ⟨#[], #[.int .i64 0, .int .i64 0, .slice none 0 0], []⟩ 8 (by kernel_rfl) (by kernel_rfl) (by kernel_rfl) (by kernel_rfl)) ?_
  intro W base args ds gs before hval0 hW _ hsz0 _
  have hsz : (DataW.weightsEach Try.prog (Try.f4.params.toList ++ Rows.identAgainSpec.plain.varTypes Try.prog) (ds ++ gs)).all (· ≤ reachBytes) = true := hsz0
  clear hsz0
  have hval : ∀ (j : Nat) t v, Try.f4.params[j]? = some t → args[j]? = some v → Value.okWide Try.prog W .any base t v := hval0
  have hW' := hW
  obtain ⟨p, q, hA0, hV, rfl, hfz, hnd⟩ := hW
  have hA : DataW.TrodAll enc Try.prog W 0 (fun _ => true) true Try.f4.params.toList args.toList ds p := hA0
  rw [Try.params4] at hA hval hsz
  obtain ⟨v0, vs0, d0, ds0, p0, q0, hargs, rfl, rfl, h0, r0⟩ := trodAll_cons hA
  obtain ⟨v1, vs1, d1, ds1, p1, q1, rfl, rfl, rfl, h1, r1⟩ := trodAll_cons r0
  obtain ⟨v2, vs2, d2, ds2, p2, q2, rfl, rfl, rfl, h2, r2⟩ := trodAll_cons r1
  obtain ⟨rfl, rfl, rfl⟩ := trodAll_nil r2
  obtain rfl : args = #[v0, v1, v2] := by cases args; simp_all
  have hV2 : DataW.TrodVars enc Try.prog W (fun _ => true) Rows.identAgainSpec.vars gs q := hV
  obtain ⟨rfl, rfl⟩ := trodVars_none hV2
  obtain ⟨a0, rfl, rfl, rfl, w0⟩ := open_int Try.underlying2 (hval 0 2 v0 rfl rfl) h0
  obtain ⟨a1, rfl, rfl, rfl, w1⟩ := open_int Try.underlying2 (hval 1 2 v1 rfl rfl) h1
  have k2 := h2
  have lt2 : ∀ x ∈ p2, x.block < W.heap.size := by obtain ⟨m, hm⟩ := k2; exact DataW.trod_lt m _ _ _ hm
  have z2 : ∀ m ∈ d2.weights Try.prog 33, m ≤ reachBytes := fun m hm => by
    have := List.all_eq_true.1 hsz m (DataW.weights_mem_each (j := 2) (t := 33) rfl rfl m hm)
    simpa using this
  obtain ⟨a2, len2, cap2, rfl⟩ := okWide_slice Try.underlying33 (hval 2 33 v2 rfl rfl)
  obtain ⟨l2, rfl, w2, u2, b2⟩ := open_nums h2 z2 lt2
  clear hA0 hval0
  refine (walk a0 a1 a2 l2 cap2 W w0 w1 w2 b2).mono fun e W' ⟨he, bel⟩ => ?_
  subst he
  exact ⟨_, rfl, _, _, _, [], _, [], hW', trodAll_mk1 (shut_bool Try.underlying4 _), (trodAll_cons_mk (shut_int Try.underlying2 w0) (trodAll_cons_mk (shut_int Try.underlying2 w1) (trodAll_cons_mk (Below.trod laidOut (by kernel_rfl) (of_decide_eq_true (by kernel_rfl)) k2 bel lt2) trodAll_mk0))), rfl, bel.frame _, fun h => by cases h⟩
theorem over : Rows.identAgainRow.holds Try.pinned (OpenSpec.ofChange Rows.identAgainSpec) :=
  OpenClaim.holds_of_wide 4 Try.f4 rfl rfl rfl rfl rfl rfl rfl ⟨rfl, rfl, rfl, rfl, rfl⟩ rfl rfl rfl rfl rfl (by kernel_rfl) Try.func4 (by kernel_rfl)
    (of_decide_eq_true (by kernel_rfl)) (by unfold Func.isWrapper; first | (rw [if_pos (by decide +kernel)]; kernel_rfl) | (rw [if_neg (by decide +kernel)]; exact ⟨rfl, rfl⟩))
    (fun os started H enc _ => lifted os started H enc)
end identAgain
theorem identAgain_holds : Rows.IdentAgainSaid := identAgain.over
#print axioms identAgain_holds
end Go.Proofs.Ytepbgigoekpdeaa
