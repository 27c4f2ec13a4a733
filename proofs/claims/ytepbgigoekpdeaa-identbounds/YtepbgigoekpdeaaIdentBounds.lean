/-
  IdentBounds.
-/
import Derived.Test.YtepbgigoekpdeaaRkit
namespace Go.Proofs.Ytepbgigoekpdeaa
open Go.ChangeShapes Go.WideShapes Go.ChangeAt Go.RowKit Go.Deep
set_option linter.unusedVariables false
set_option maxRecDepth 100000

theorem may_nil (t : Int) : mayP [] t ↔ 0 ≤ t ∧ t ≤ 1099511627776 := Iff.rfl
theorem may_one (a t : Int) : mayP [a] t ↔ a ≤ t ∧ t ≤ 1099511627776 := Iff.rfl
theorem full_nil {sp : Int} (li t : Int) (h : 1 ≤ sp) : ¬ fullP sp li [] t := by unfold fullP cnt; simp; omega
theorem full_one {sp : Int} (li a t : Int) (h : 1 ≤ sp) : fullP sp li [a] t ↔ (sp = 1 ∧ t - a < li) := by
  unfold fullP cnt
  by_cases hh : t - a < li
  · simp [hh]; omega
  · simp [hh]; omega
/-- Next of a source that has given nothing. -/
theorem first_yes {w : World} {g c : Nat} {v : Value} {sp li : Int} (a : Int) (h : Sc w g c v sp li []) (ha : 0 ≤ a ∧ a ≤ 1099511627776) :
    Calls Try.prog 10 #[.pointer (some ⟨g, 0, none⟩), .int .i64 a] w fun E w' => E = .returned (.tuple #[.int .u32 0, .int .i64 0]) ∧ Asked w w' g c v sp li [a] := by
  have h1 : 1 ≤ sp := by obtain ⟨bs, h⟩ := h; exact h.good.sp1
  have := next_c a h (by simp)
  unfold nextN nextE nextG at this
  rw [if_pos ((may_nil a).2 ha), if_pos ((may_nil a).2 ha), if_pos ((may_nil a).2 ha), if_neg (full_nil li a h1), if_neg (full_nil li a h1), if_neg (full_nil li a h1)] at this
  simpa using this
theorem first_no {w : World} {g c : Nat} {v : Value} {sp li : Int} (a : Int) (h : Sc w g c v sp li []) (ha : ¬ (0 ≤ a ∧ a ≤ 1099511627776)) :
    Calls Try.prog 10 #[.pointer (some ⟨g, 0, none⟩), .int .i64 a] w fun E w' => E = .returned (.tuple #[.int .u32 0, .int .i64 1]) ∧ Asked w w' g c v sp li [] := by
  have := next_c a h (by simp)
  unfold nextN nextE nextG at this
  rw [if_neg (fun h => ha ((may_nil a).1 h)), if_neg (fun h => ha ((may_nil a).1 h)), if_neg (fun h => ha ((may_nil a).1 h))] at this
  exact this
theorem snd_no {w : World} {g c : Nat} {v : Value} {sp li : Int} (a t : Int) (h : Sc w g c v sp li [a]) (ha : ¬ (a ≤ t ∧ t ≤ 1099511627776)) :
    Calls Try.prog 10 #[.pointer (some ⟨g, 0, none⟩), .int .i64 t] w fun E w' => E = .returned (.tuple #[.int .u32 0, .int .i64 1]) ∧ Asked w w' g c v sp li [a] := by
  have := next_c t h (by simp)
  unfold nextN nextE nextG at this
  rw [if_neg (fun h => ha ((may_one a t).1 h)), if_neg (fun h => ha ((may_one a t).1 h)), if_neg (fun h => ha ((may_one a t).1 h))] at this
  exact this
theorem sndB_no {w : World} {g c : Nat} {v : Value} {sp li : Int} (a t : Int) (h : Sc w g c v sp li [a]) (ha : ¬ (a ≤ t ∧ t ≤ 1099511627776)) :
    Calls Try.prog 11 #[.pointer (some ⟨g, 0, none⟩), .int .i64 t] w fun E w' => E = .returned (.tuple #[.int .i64 0, .int .i64 1]) ∧ Away [] w w' := by
  have := bsy_c t h
  unfold busyN busyE at this
  rw [if_neg (fun h => ha ((may_one a t).1 h)), if_neg (fun h => ha ((may_one a t).1 h))] at this
  exact this
/-- Next where it may be asked, behind one that was given at a. -/
theorem snd_yes {w : World} {g c : Nat} {v : Value} {sp li : Int} (a t : Int) (h : Sc w g c v sp li [a]) (ha : a ≤ t ∧ t ≤ 1099511627776) :
    Calls Try.prog 10 #[.pointer (some ⟨g, 0, none⟩), .int .i64 t] w fun E w' => ∃ n, E = .returned (.tuple #[.int .u32 n, .int .i64 (if sp = 1 ∧ t - a < li then 120 else 0)]) ∧ ∃ G, Asked w w' g c v sp li G ∧ mayP G t := by
  have h1 : 1 ≤ sp := by obtain ⟨bs, h⟩ := h; exact h.good.sp1
  refine (next_c t h (by simp)).mono ?_
  rintro E w' ⟨rfl, hask⟩
  refine ⟨nextN sp li [a] t, ?_, _, hask, ?_⟩
  · unfold nextE
    rw [if_pos ((may_one a t).2 ha)]
    by_cases hf : fullP sp li [a] t
    · rw [if_pos hf, if_pos ((full_one li a t h1).1 hf)]
    · rw [if_neg hf, if_neg (fun h => hf ((full_one li a t h1).2 h))]
  · unfold nextG
    rw [if_pos ((may_one a t).2 ha)]
    by_cases hf : fullP sp li [a] t
    · rw [if_pos hf]; exact ha
    · rw [if_neg hf]
      refine ⟨?_, ha.2⟩
      rw [last_snoc]
      exact Int.le_refl _
theorem sndB_yes {w : World} {g c : Nat} {v : Value} {sp li : Int} {G : List Int} (t : Int) (h : Sc w g c v sp li G) (hm : mayP G t) :
    Calls Try.prog 11 #[.pointer (some ⟨g, 0, none⟩), .int .i64 t] w fun E w' => ∃ n, E = .returned (.tuple #[.int .i64 n, .int .i64 0]) ∧ Away [] w w' := by
  refine (bsy_c t h).mono ?_
  rintro E w' ⟨rfl, haw⟩
  refine ⟨busyN li G t, ?_, haw⟩
  unfold busyE
  rw [if_pos hm]
/-- What a source of its own is asked changes nothing below it. -/
theorem Asked.below {B : World} {w w' : World} {g c : Nat} {v : Value} {sp li : Int} {G : List Int} (h : Asked w w' g c v sp li G) (hB : Away [] B w) (hg : B.heap.size ≤ g) (hv : New B.heap.size v) :
    ∃ v', Sc w' g c v' sp li G ∧ New B.heap.size v' ∧ Away [] B w' := by
  obtain ⟨v', h1, h2, h3⟩ := h
  have hz := hB.size
  refine ⟨v', h1, hv.moved h2 hz, hB.next h3 (fun x hx => .inr ?_)⟩
  simp [fp] at hx
  rcases hx with rfl | hx
  · exact hg
  · exact hv x hx
namespace identBounds
set_option maxHeartbeats 8000000 in
theorem walk (sp li at_ now : Int) (w : World) (h0 : (Lit.int .i64 sp).wf = true) (h1 : (Lit.int .i64 li).wf = true) (h2 : (Lit.int .i64 at_).wf = true) (h3 : (Lit.int .i64 now).wf = true) :
    Calls Try.prog 3 #[.int .i64 sp, .int .i64 li, .int .i64 at_, .int .i64 now] w fun E w' => E = .returned (.bool true) ∧ Below w.heap.size w w' := by
  have b0 := bounds_i64 h0; have b1 := bounds_i64 h1; have b2 := bounds_i64 h2; have b3 := bounds_i64 h3
  clear h0 h1 h2 h3
  by_cases hm : 1 ≤ sp ∧ sp ≤ 4294967296 ∧ 0 ≤ li ∧ li ≤ 4294967296
  · obtain ⟨m1, m2, m3, m4⟩ := hm
    have KN := hidI (fun w => new_yes sp li w m1 m2 m3 m4)
    go_enter Try.func3, Try.ntmps3
    go_wp2_with fail
    refine (alive_c _).mono ?_
    rintro E w1 ⟨rfl, haw⟩
    have HA := hidI haw
    clear haw
    go_wp2_with fail
    refine (KN.out _).mono ?_
    rintro E w2 ⟨g, c, rfl, hs, hg, hc, haw⟩
    have hg0 : w.heap.size ≤ g := Nat.le_trans HA.out.size hg
    replace HA := hidI (HA.out.trans haw)
    have HS := hidI hs
    clear haw hs hc hg KN
    by_cases ha : 0 ≤ at_ ∧ at_ ≤ 1099511627776
    · obtain ⟨a1, a2⟩ := ha
      go_wp2_with fail
      refine (first_yes at_ HS.out ⟨a1, a2⟩).mono ?_
      rintro E w3 ⟨rfl, hask⟩
      obtain ⟨v3, hs3, hn3, haw3⟩ := hask.below HA.out hg0 (New.nil _)
      replace HS := hidI hs3; replace HA := hidI haw3; have HN := hidI hn3
      clear hask hs3 haw3 hn3
      by_cases hb : at_ ≤ now ∧ now ≤ 1099511627776
      · have HB := hidI hb
        have HX := hidI (snd_yes at_ now HS.out hb)
        by_cases hq : sp = 1 ∧ now - at_ < li
        · rw [if_pos hq] at HX
          obtain ⟨q1, q2⟩ := hq
          obtain ⟨hb1, hb2⟩ := hb
          go_wp2_with fail
          refine HX.out.mono ?_
          rintro E w4 ⟨n4, rfl, G4, hask, hmay⟩
          obtain ⟨v4, hs4, hn4, haw4⟩ := hask.below HA.out hg0 HN.out
          have HS4 := hidI hs4; have HM4 := hidI hmay; replace HA := hidI haw4
          clear hask hs4 haw4 hn4 HX hmay
          go_wp2_with fail
          refine (sndB_yes now HS4.out HM4.out).mono ?_
          rintro E w5 ⟨n5, rfl, haw⟩
          replace HA := hidI (HA.out.trans haw)
          clear haw
          go_wp2_with fail
          go_ret
          exact ⟨rfl, HA.out.to_below⟩
        · rw [if_neg hq] at HX
          obtain ⟨hb1, hb2⟩ := hb
          by_cases q1 : sp = 1
          · have q2 : ¬ (now - at_ < li) := fun h => hq ⟨q1, h⟩
            have d2 : decide (now - at_ < li) = false := decide_eq_false q2
            clear hq
            go_wp2_with fail
            refine HX.out.mono ?_
            rintro E w4 ⟨n4, rfl, G4, hask, hmay⟩
            obtain ⟨v4, hs4, hn4, haw4⟩ := hask.below HA.out hg0 HN.out
            have HS4 := hidI hs4; have HM4 := hidI hmay; replace HA := hidI haw4
            clear hask hs4 haw4 hn4 HX hmay
            go_wp2_with fail
            refine (sndB_yes now HS4.out HM4.out).mono ?_
            rintro E w5 ⟨n5, rfl, haw⟩
            replace HA := hidI (HA.out.trans haw)
            clear haw
            go_wp2_with fail
            go_ret
            exact ⟨rfl, HA.out.to_below⟩
          · clear hq
            go_wp2_with fail
            refine HX.out.mono ?_
            rintro E w4 ⟨n4, rfl, G4, hask, hmay⟩
            obtain ⟨v4, hs4, hn4, haw4⟩ := hask.below HA.out hg0 HN.out
            have HS4 := hidI hs4; have HM4 := hidI hmay; replace HA := hidI haw4
            clear hask hs4 haw4 hn4 HX hmay
            go_wp2_with fail
            refine (sndB_yes now HS4.out HM4.out).mono ?_
            rintro E w5 ⟨n5, rfl, haw⟩
            replace HA := hidI (HA.out.trans haw)
            clear haw
            go_wp2_with fail
            go_ret
            exact ⟨rfl, HA.out.to_below⟩
      · have HX := hidI (fun w' h => snd_no (w := w') (g := g) (c := c) (v := v3) (sp := sp) (li := li) at_ now h hb)
        have HY := hidI (fun w' v h => sndB_no (w := w') (g := g) (c := c) (v := v) (sp := sp) (li := li) at_ now h hb)
        by_cases hb1 : at_ ≤ now
        · have hb2 : ¬ (now ≤ 1099511627776) := fun h => hb ⟨hb1, h⟩
          have d2 : decide (now ≤ 1099511627776) = false := decide_eq_false hb2
          clear hb
          go_wp2_with fail
          refine (HX.out _ HS.out).mono ?_
          rintro E w4 ⟨rfl, hask⟩
          obtain ⟨v4, hs4, hn4, haw4⟩ := hask.below HA.out hg0 HN.out
          have HS4 := hidI hs4; replace HA := hidI haw4
          clear hask hs4 haw4 hn4 HX
          go_wp2_with fail
          refine (HY.out _ _ HS4.out).mono ?_
          rintro E w5 ⟨rfl, haw⟩
          replace HA := hidI (HA.out.trans haw)
          clear haw HY
          go_wp2_with fail
          go_ret
          exact ⟨rfl, HA.out.to_below⟩
        · clear hb
          go_wp2_with fail
          refine (HX.out _ HS.out).mono ?_
          rintro E w4 ⟨rfl, hask⟩
          obtain ⟨v4, hs4, hn4, haw4⟩ := hask.below HA.out hg0 HN.out
          have HS4 := hidI hs4; replace HA := hidI haw4
          clear hask hs4 haw4 hn4 HX
          go_wp2_with fail
          refine (HY.out _ _ HS4.out).mono ?_
          rintro E w5 ⟨rfl, haw⟩
          replace HA := hidI (HA.out.trans haw)
          clear haw HY
          go_wp2_with fail
          go_ret
          exact ⟨rfl, HA.out.to_below⟩
    · have HX := hidI (first_no at_ HS.out ha)
      by_cases a1 : 0 ≤ at_
      · have a2 : ¬ (at_ ≤ 1099511627776) := fun h => ha ⟨a1, h⟩
        clear ha
        go_wp2_with fail
        refine HX.out.mono ?_
        rintro E w3 ⟨rfl, hask⟩
        obtain ⟨v3, hs3, hn3, haw3⟩ := hask.below HA.out hg0 (New.nil _)
        replace HS := hidI hs3; replace HA := hidI haw3; have HN := hidI hn3
        clear hask hs3 haw3 hn3 HX
        go_wp2_with fail
        refine (first_yes 0 HS.out (by decide)).mono ?_
        rintro E w4 ⟨rfl, hask⟩
        obtain ⟨v4, hs4, hn4, haw4⟩ := hask.below HA.out hg0 HN.out
        replace HA := hidI haw4
        clear hask hs4 haw4 hn4
        go_wp2_with fail
        go_ret
        exact ⟨rfl, HA.out.to_below⟩
      · clear ha
        go_wp2_with fail
        refine HX.out.mono ?_
        rintro E w3 ⟨rfl, hask⟩
        obtain ⟨v3, hs3, hn3, haw3⟩ := hask.below HA.out hg0 (New.nil _)
        replace HS := hidI hs3; replace HA := hidI haw3; have HN := hidI hn3
        clear hask hs3 haw3 hn3 HX
        go_wp2_with fail
        refine (first_yes 0 HS.out (by decide)).mono ?_
        rintro E w4 ⟨rfl, hask⟩
        obtain ⟨v4, hs4, hn4, haw4⟩ := hask.below HA.out hg0 HN.out
        replace HA := hidI haw4
        clear hask hs4 haw4 hn4
        go_wp2_with fail
        go_ret
        exact ⟨rfl, HA.out.to_below⟩
  · have KN := hidI (fun w => new_no sp li w hm)
    by_cases m1 : 1 ≤ sp
    · by_cases m2 : sp ≤ 4294967296
      · by_cases m3 : 0 ≤ li
        · have m4 : ¬ (li ≤ 4294967296) := fun h => hm ⟨m1, m2, m3, h⟩
          have d2 : decide (li ≤ 4294967296) = false := decide_eq_false m4
          clear hm
          go_enter Try.func3, Try.ntmps3
          go_wp2_with fail
          refine (alive_c _).mono ?_
          rintro E w1 ⟨rfl, haw⟩
          have HA := hidI haw
          clear haw
          go_wp2_with fail
          refine (KN.out _).mono ?_
          rintro E w2 ⟨rfl, rfl⟩
          go_wp2_with fail
          go_ret
          exact ⟨rfl, HA.out.to_below⟩
        · clear hm
          go_enter Try.func3, Try.ntmps3
          go_wp2_with fail
          refine (alive_c _).mono ?_
          rintro E w1 ⟨rfl, haw⟩
          have HA := hidI haw
          clear haw
          go_wp2_with fail
          refine (KN.out _).mono ?_
          rintro E w2 ⟨rfl, rfl⟩
          go_wp2_with fail
          go_ret
          exact ⟨rfl, HA.out.to_below⟩
      · clear hm
        go_enter Try.func3, Try.ntmps3
        go_wp2_with fail
        refine (alive_c _).mono ?_
        rintro E w1 ⟨rfl, haw⟩
        have HA := hidI haw
        clear haw
        go_wp2_with fail
        refine (KN.out _).mono ?_
        rintro E w2 ⟨rfl, rfl⟩
        go_wp2_with fail
        go_ret
        exact ⟨rfl, HA.out.to_below⟩
    · clear hm
      go_enter Try.func3, Try.ntmps3
      go_wp2_with fail
      refine (alive_c _).mono ?_
      rintro E w1 ⟨rfl, haw⟩
      have HA := hidI haw
      clear haw
      go_wp2_with fail
      refine (KN.out _).mono ?_
      rintro E w2 ⟨rfl, rfl⟩
      go_wp2_with fail
      go_ret
      exact ⟨rfl, HA.out.to_below⟩
theorem lifted (os : Os) (started : os.Started) (H : Type) (enc : TypeId × Value → H) :
    ReturnsInHanded {} Try.checked os 3 .any (Rows.identBoundsSpec.pre6 enc Try.prog Try.f3 Rows.identBoundsRow.domain false) (Rows.identBoundsSpec.post enc Try.prog Try.f3 false true false false) := by
  refine returnsInHanded_of_change_sized (C := Try.checked) ownKn started (by kernel_rfl) Try.func3
    (ChangeSpec.witness6 (enc := enc) (C := Try.checked) false ⟨#[], #[.int .i64 0, .int .i64 0, .int .i64 0, .int .i64 0], []⟩ 8 (by kernel_rfl) (by kernel_rfl) (by kernel_rfl) (by kernel_rfl)) ?_
  intro W base args ds gs before hval0 hW _ hsz0 _
  have hsz : (DataW.weightsEach Try.prog (Try.f3.params.toList ++ Rows.identBoundsSpec.plain.varTypes Try.prog) (ds ++ gs)).all (· ≤ reachBytes) = true := hsz0
  clear hsz0
  have hval : ∀ (j : Nat) t v, Try.f3.params[j]? = some t → args[j]? = some v → Value.okWide Try.prog W .any base t v := hval0
  have hW' := hW
  obtain ⟨p, q, hA0, hV, rfl, hfz, hnd⟩ := hW
  have hA : DataW.TrodAll enc Try.prog W 0 (fun _ => true) true Try.f3.params.toList args.toList ds p := hA0
  rw [Try.params3] at hA hval hsz
  obtain ⟨v0, vs0, d0, ds0, p0, q0, hargs, rfl, rfl, h0, r0⟩ := trodAll_cons hA
  obtain ⟨v1, vs1, d1, ds1, p1, q1, rfl, rfl, rfl, h1, r1⟩ := trodAll_cons r0
  obtain ⟨v2, vs2, d2, ds2, p2, q2, rfl, rfl, rfl, h2, r2⟩ := trodAll_cons r1
  obtain ⟨v3, vs3, d3, ds3, p3, q3, rfl, rfl, rfl, h3, r3⟩ := trodAll_cons r2
  obtain ⟨rfl, rfl, rfl⟩ := trodAll_nil r3
  obtain rfl : args = #[v0, v1, v2, v3] := by cases args; simp_all
  have hV2 : DataW.TrodVars enc Try.prog W (fun _ => true) Rows.identBoundsSpec.vars gs q := hV
  obtain ⟨rfl, rfl⟩ := trodVars_none hV2
  obtain ⟨a0, rfl, rfl, rfl, w0⟩ := open_int Try.underlying2 (hval 0 2 v0 rfl rfl) h0
  obtain ⟨a1, rfl, rfl, rfl, w1⟩ := open_int Try.underlying2 (hval 1 2 v1 rfl rfl) h1
  obtain ⟨a2, rfl, rfl, rfl, w2⟩ := open_int Try.underlying2 (hval 2 2 v2 rfl rfl) h2
  obtain ⟨a3, rfl, rfl, rfl, w3⟩ := open_int Try.underlying2 (hval 3 2 v3 rfl rfl) h3
  clear hA0 hval0
  refine (walk a0 a1 a2 a3 W w0 w1 w2 w3).mono fun e W' ⟨he, bel⟩ => ?_
  subst he
  exact ⟨_, rfl, _, _, _, [], _, [], hW', trodAll_mk1 (shut_bool Try.underlying4 _), (trodAll_cons_mk (shut_int Try.underlying2 w0) (trodAll_cons_mk (shut_int Try.underlying2 w1) (trodAll_cons_mk (shut_int Try.underlying2 w2) (trodAll_cons_mk (shut_int Try.underlying2 w3) trodAll_mk0)))), rfl, bel.frame _, fun h => by cases h⟩
theorem over : Rows.identBoundsRow.holds Try.pinned (OpenSpec.ofChange Rows.identBoundsSpec) :=
  OpenClaim.holds_of_wide 3 Try.f3 rfl rfl rfl rfl rfl rfl rfl ⟨rfl, rfl, rfl, rfl, rfl⟩ rfl rfl rfl rfl rfl (by kernel_rfl) Try.func3 (by kernel_rfl)
    (of_decide_eq_true (by kernel_rfl)) (by unfold Func.isWrapper; first | (rw [if_pos (by decide +kernel)]; kernel_rfl) | (rw [if_neg (by decide +kernel)]; exact ⟨rfl, rfl⟩))
    (fun os started H enc _ => lifted os started H enc)
end identBounds
theorem identBounds_holds : Rows.IdentBoundsSaid := identBounds.over
#print axioms identBounds_holds
end Go.Proofs.Ytepbgigoekpdeaa
