/-
  RouteMore.
-/
import Derived.Test.YtoifolmcdkfniaaTab
namespace Go.Proofs.Ytoifolmcdkfniaa
open Go.ChangeShapes Go.WideShapes Go.ChangeAt Go.RowKit Go.Deep
set_option linter.unusedVariables false
set_option linter.unusedSimpArgs false
set_option maxRecDepth 100000

namespace routeMore
theorem may_app {L : List Rt} {x : Rt} (h : mayL (L ++ [x]) = true) : mayL L = true := by
  obtain ⟨h1, h2, h3⟩ := mayL_iff.1 h
  refine mayL_iff.2 ⟨by simp at h1; omega, fun y hy => h2 y (by simp [hy]), (List.pairwise_append.1 h3).1⟩
theorem more_cases {v : Int} {l : List Int} {L S T : List Rt} {x : Rt} (hb : Byt l) (hA : ∀ y ∈ L ++ [x], Okr y) (hm : mayL (L ++ [x]) = true) (ho : IsOrd L S) (hu : IsOrd (L ++ [x]) T) (h : validP v l = true) :
    (findA v l S = findA v l T ∧ ((findA v l S).2 = 0 ∨ (findA v l S).2 = 210 ∧ hitR v l x = false)) ∨ (hitR v l x = true ∧ findA v l T = (x.k, 0) ∧ ((findA v l S).2 = 0 ∨ (findA v l S).2 = 210)) := by
  have hmL := may_app hm
  have hAL : ∀ y ∈ L, Okr y := fun y hy => hA y (by simp [hy])
  have hx : x ∈ L ++ [x] := by simp
  have hm2 := mayL_iff.1 hmL
  rcases ans_cases hb hA hm hu h with ⟨e1, h1⟩ | ⟨z, e1, hz⟩
  · rcases ans_cases hb hAL hmL ho h with ⟨e2, h2⟩ | ⟨y, e2, hy⟩
    · exact .inl ⟨by rw [e1, e2], .inr ⟨by rw [e2], h1 x hx⟩⟩
    · have := h1 y (by simp [hy.mem]); rw [hy.hit] at this; simp at this
  · rcases List.mem_append.1 hz.mem with hzL | hzx
    · have hB : Best v l L z := ⟨hzL, hz.hit, fun y hy hh => hz.top y (by simp [hy]) hh⟩
      rcases ans_cases hb hAL hmL ho h with ⟨e2, h2⟩ | ⟨y, e2, hy⟩
      · have := h2 z hzL; rw [hB.hit] at this; simp at this
      · obtain rfl := best_uniq hm2.2.1 hm2.2.2 hy hB
        exact .inl ⟨by rw [e1, e2], .inl (by rw [e2])⟩
    · simp at hzx
      subst hzx
      refine .inr ⟨hz.hit, e1, ?_⟩
      rcases ans_cases hb hAL hmL ho h with ⟨e2, h2⟩ | ⟨y, e2, hy⟩
      · exact .inr (by rw [e2])
      · exact .inl (by rw [e2])
theorem own_net {L T : List Rt} {x : Rt} (hA : ∀ y ∈ L ++ [x], Okr y) (hm : mayL (L ++ [x]) = true) (hu : IsOrd (L ++ [x]) T) : ∃ y : Int, findA x.v x.l T = (y, 0) ∧ (y = x.k ∨ 0 < L.length) := by
  have hx : x ∈ L ++ [x] := by simp
  have hmx := (mayL_iff.1 hm).2.1 x hx
  have hk := (mayR_iff.1 hmx).1
  have hv : validP x.v x.l = true := (ok_iff.1 hk).1
  have hh : hitR x.v x.l x = true := hit_iff.2 ⟨hk, hk, rfl, rfl⟩
  rcases ans_cases (hA x hx).2 hA hm hu hv with ⟨e1, h1⟩ | ⟨z, e1, hz⟩
  · rw [h1 x hx] at hh; simp at hh
  · refine ⟨z.k, e1, ?_⟩
    rcases List.mem_append.1 hz.mem with hzL | hzx
    · exact .inr (List.length_pos_of_mem hzL)
    · simp at hzx; subst hzx; exact .inl rfl
set_option maxHeartbeats 16000000 in
theorem walk (a : Option Addr) (L : List Rt) (cap : Nat) (x : Rt) (da : Option Addr) (D : List Ax) (dcap : Nat) (W : World) (hr : Rd W (.slice a L.length cap) L) (hl : L.length ≤ 3518437208780) (hx : Okr x) (hd : RowA W da D) (hdl : D.length ≤ 5864062014635) (hg : Glob W) :
    Calls Try.prog 4 #[.slice a L.length cap, .agg (csD x), .slice da D.length dcap] W fun E w' => E = .returned (.bool true) ∧ Below W.heap.size W w' := by
  have HR := Lib.hid hr
  have HOK := Lib.hid hr.ok
  have HX := Lib.hid hx
  have HD := Lib.hid hd
  have HG := Lib.hid hg
  have HOKM : Hid (∀ y ∈ L ++ [x], Okr y) := fun y hy => by
    rcases List.mem_append.1 hy with h | h
    · exact hr.ok y h
    · simp at h; subst h; exact hx
  obtain ⟨a', cap', he, hcap, -⟩ := hr.shp
  simp only [Value.slice.injEq, true_and] at he
  obtain ⟨rfl, rfl⟩ := he
  obtain ⟨n, hn⟩ : ∃ n, n = L.length := ⟨_, rfl⟩
  obtain ⟨m, hm⟩ : ∃ m, m = D.length := ⟨_, rfl⟩
  rw [← hn] at hl hcap HR ⊢
  rw [← hm] at hdl ⊢
  have HN := Lib.hid hn
  have HM := Lib.hid hm
  clear hr hd hg hn hm hx
  go_enter Try.func4, Try.ntmps4
  go_wp2_with (refine wpList_boxE rfl _ rfl x rfl ?_; refine Hid.out ?_)
  refine Lib.hid ?_
  intro g4 w0 hg4 hb4 haw
  have HA0 := Lib.hid haw
  have HX4 := Lib.hid hb4
  have HOW := Lib.hid (own_c (HR.out.on haw) (by rw [← HN.out]; omega))
  clear hb4 haw hg4
  go_wp2_with (go_at_call 8; refine HOW.out.mono ?_; refine Hid.out ?_)
  refine Lib.hid ?_
  rintro E w0' ⟨v1, rfl, hown, -, haw⟩
  replace HA0 := Lib.hid (HA0.out.trans haw)
  replace HX4 := Lib.hid (HX4.out.on haw (by simp))
  have HNE := Lib.hid (newO_c (hown.rd HOK.out) (by rw [← HN.out]; omega))
  obtain ⟨va, vc, rfl, -⟩ := hown.sl
  rw [← HN.out] at HNE ⊢
  clear hown haw HOW
  go_wp2_with (go_at_call 7; refine HNE.out.mono ?_; refine Hid.out ?_)
  refine Lib.hid ?_
  rintro E w1 ⟨tv, e, rfl, ht, haw⟩
  have HA := Lib.hid (HA0.out.trans haw)
  have HT := Lib.hid ht
  have HXB1 : Hid (∀ w', Away [] w1 w' → BoxD w' g4 x) := fun w' hw' => (HX4.out.on haw (by simp)).on hw' (by simp)
  clear ht haw HNE HA0 HX4
  go_upto_region 2 with fail
  go_cut [9, 10] (fun v9 v10 wc => ∃ uv f, v9 = uv ∧ v10 = .int .i64 f ∧ TabO wc (L ++ [x]) uv f ∧ Away [] w1 wc)
  case first =>
    as_aux_lemma =>
      refine wp_region_held_drew (S := fun w' => Away [] w1 w') (by kernel_rfl) (by exact (Away.refl [] w1).drew) (fun hHeld => ?_)
      refine wpAnyH_take (i := 0) (v := ?_) (by simp only [List.getElem?_toArray, List.getElem?_cons_zero]; rfl) (by kernel_rfl) (by kernel_rfl) (by kernel_rfl) (by exact fun _ _ _ h => h) (Or.inl ⟨by rfl, ?_⟩) (by assumption) ?_
      rotate_left
      · intro wq hSw
        (try dsimp only at hSw)
        go_simp
        all_goals (with_reducible rfl)
      try simp only [Act.put, List.setIfInBounds_toArray, List.set_cons_zero, List.set_cons_succ]
      refine wpAnyH_take (i := 2) (by simp only [List.getElem?_toArray, List.getElem?_cons_succ, List.getElem?_cons_zero]; rfl) (by kernel_rfl) (by kernel_rfl) (by kernel_rfl) (by exact fun _ _ _ h => h) (yields_ld (ad := ⟨g4, 0, none⟩) (by rfl) _ rfl rfl (fun w' h => loadE_run (k := 0) (HXB1.out w' h).range HX.out)) (by assumption) ?_
      try simp only [Act.put, List.setIfInBounds_toArray, List.set_cons_zero, List.set_cons_succ]
      refine wpAnyH_ready (rs := [1, 3]) (by kernel_rfl) (by simp) ?_
      refine AllReadyH.cons (by simp only [List.getElem?_toArray, List.getElem?_cons_succ, List.getElem?_cons_zero]; rfl) (fun K hK => ?_) (AllReadyH.cons (by simp only [List.getElem?_toArray, List.getElem?_cons_succ, List.getElem?_cons_zero]; rfl) (fun K hK => ?_) AllReadyH.nil)
      · have HD0 : Hid (Away [] W w1.drew) := HA.out.drew
        go_simp
        refine (own_c (HR.out.on HD0.out) (by rw [← HN.out]; omega)).mono ?_
        rintro E y2 ⟨v1, rfl, hown, hnew, haw⟩
        have HA_y2 := Lib.hid (HD0.out.trans haw)
        have HOW := Lib.hid hown
        have HNW := Lib.hid hnew
        obtain ⟨va, vc, rfl, -⟩ := hown.sl
        rw [← HN.out] at HOW HNW ⊢
        have HA2' : Hid (Away [] w1 y2) := (Away.refl [] w1).drew.trans haw
        clear hown hnew haw
        refine hK.out _ _ (by exact HA2'.out) (fun hHeld => ?_)
        clear hK K
        try simp only [Act.put, List.setIfInBounds_toArray, List.set_cons_zero, List.set_cons_succ]
        refine wpAnyH_ready (rs := [3]) (by kernel_rfl) (by simp) ?_
        refine AllReadyH.cons (by simp only [List.getElem?_toArray, List.getElem?_cons_succ, List.getElem?_cons_zero]; rfl) (fun K hK => ?_) AllReadyH.nil
        refine step_buildS rfl _ rfl x rfl HX.out ?_
        intro gb y3 hgb hbx haw
        have HBB := Lib.hid hbx
        have HA3' := Lib.hid (HA2'.out.trans haw)
        have HO3 := Lib.hid (HOW.out.on haw)
        have HN3 : Hid (New W.heap.size (.slice va n vc)) := HNW.out.mono HD0.out.size
        have HNW1 : Hid (New w1.heap.size (.slice va n vc)) := HNW.out
        clear hgb hbx haw
        refine hK.out _ _ (by exact HA3'.out) (fun hHeld => ?_)
        clear hK K
        try simp only [Act.put, List.setIfInBounds_toArray, List.set_cons_zero, List.set_cons_succ]
        refine wpAnyH_ready (rs := [4]) (by kernel_rfl) (by simp) ?_
        refine AllReadyH.cons (by simp only [List.getElem?_toArray, List.getElem?_cons_succ, List.getElem?_cons_zero]; rfl) (fun K hK => ?_) AllReadyH.nil
        refine step_appS rfl _ _ rfl (.slice va n vc) L gb 1 x rfl rfl (by exact HO3.out) (by exact HBB.out) HX.out (by rw [← HN.out]; omega) ?_
        intro v4 y4 hown hgr hmov
        have HOM := Lib.hid hown
        have HAW4 : Hid (Away [] W y4) := (HA.out.trans HA3'.out).grown hgr (fun k hk => .inr (HN3.out k hk))
        have HA4' : Hid (Away [] w1 y4) := HA3'.out.grown hgr (fun k hk => .inr (by
          have h1 := HNW1.out k hk
          exact h1))
        obtain ⟨ma, mc, rfl, -⟩ := hown.sl
        obtain ⟨p, hp⟩ : ∃ p, p = (L ++ [x]).length := ⟨_, rfl⟩
        rw [← hp] at HOM ⊢
        clear hown hgr hmov hp
        refine hK.out _ _ (by exact HA4'.out) (fun hHeld => ?_)
        clear hK K
        try simp only [Act.put, List.setIfInBounds_toArray, List.set_cons_zero, List.set_cons_succ]
        refine wpAnyH_ready (rs := [5]) (by kernel_rfl) (by simp) ?_
        refine AllReadyH.cons (by simp only [List.getElem?_toArray, List.getElem?_cons_succ, List.getElem?_cons_zero]; rfl) (fun K hK => ?_) AllReadyH.nil
        go_simp
        refine (newO_c (HOM.out.rd HOKM.out) (by rw [List.length_append, ← HN.out]; simp; omega)).mono ?_
        rintro E y5 ⟨uv, f, rfl, hu, haw⟩
        have HU := Lib.hid hu
        have HA5' := Lib.hid (HA4'.out.trans haw)
        clear hu haw
        refine hK.out _ _ (by exact HA5'.out) (fun hHeld => ?_)
        clear hK K
        try simp only [Act.put, List.setIfInBounds_toArray, List.set_cons_zero, List.set_cons_succ]
        refine wpAnyH_take (i := 6) (v := ?_) (by simp only [List.getElem?_toArray, List.getElem?_cons_succ, List.getElem?_cons_zero]; rfl) (by kernel_rfl) (by kernel_rfl) (by kernel_rfl) (by exact fun _ _ _ h => h) (Or.inl ⟨by rfl, ?_⟩) (by assumption) ?_
        rotate_left
        · intro wq hSw
          (try dsimp only at hSw)
          go_simp
          all_goals (with_reducible rfl)
        try simp only [Act.put, List.setIfInBounds_toArray, List.set_cons_zero, List.set_cons_succ]
        refine wpAnyH_take (i := 7) (v := ?_) (by simp only [List.getElem?_toArray, List.getElem?_cons_succ, List.getElem?_cons_zero]; rfl) (by kernel_rfl) (by kernel_rfl) (by kernel_rfl) (by exact fun _ _ _ h => h) (Or.inl ⟨by rfl, ?_⟩) (by assumption) ?_
        rotate_left
        · intro wq hSw
          (try dsimp only at hSw)
          go_simp
          all_goals (with_reducible rfl)
        try simp only [Act.put, List.setIfInBounds_toArray, List.set_cons_zero, List.set_cons_succ]
        refine wpAnyH_take (i := 8) (v := ?_) (by simp only [List.getElem?_toArray, List.getElem?_cons_succ, List.getElem?_cons_zero]; rfl) (by kernel_rfl) (by kernel_rfl) (by kernel_rfl) (by exact fun _ _ _ h => h) (Or.inl ⟨by rfl, ?_⟩) (by assumption) ?_
        rotate_left
        · intro wq hSw
          (try dsimp only at hSw)
          go_simp
          all_goals (with_reducible rfl)
        try simp only [Act.put, List.setIfInBounds_toArray, List.set_cons_zero, List.set_cons_succ]
        refine wpAnyH_take (i := 9) (v := ?_) (by simp only [List.getElem?_toArray, List.getElem?_cons_succ, List.getElem?_cons_zero]; rfl) (by kernel_rfl) (by kernel_rfl) (by kernel_rfl) (by exact fun _ _ _ h => h) (Or.inl ⟨by rfl, ?_⟩) (by assumption) ?_
        rotate_left
        · intro wq hSw
          (try dsimp only at hSw)
          go_simp
          all_goals (with_reducible rfl)
        try simp only [Act.put, List.setIfInBounds_toArray, List.set_cons_zero, List.set_cons_succ]
        refine wpAnyH_take (i := 10) (v := ?_) (by simp only [List.getElem?_toArray, List.getElem?_cons_succ, List.getElem?_cons_zero]; rfl) (by kernel_rfl) (by kernel_rfl) (by kernel_rfl) (by exact fun _ _ _ h => h) (Or.inl ⟨by rfl, ?_⟩) (by assumption) ?_
        rotate_left
        · intro wq hSw
          (try dsimp only at hSw)
          go_simp
          all_goals (with_reducible rfl)
        try simp only [Act.put, List.setIfInBounds_toArray, List.set_cons_zero, List.set_cons_succ]
        refine wpAnyH_done (by kernel_rfl) ?_ _
        clear hHeld
        go_wp2_with fail
        go_meet
        exact ⟨_, _, rfl, rfl, HU.out, HA5'.out⟩

      · refine step_buildS rfl _ rfl x rfl HX.out ?_
        intro gb y2 hgb hbx haw
        have HBB2 := Lib.hid hbx
        have HA2' : Hid (Away [] w1 y2) := (Away.refl [] w1).drew.trans haw
        have HD0 : Hid (Away [] W y2) := HA.out.trans HA2'.out
        clear hgb hbx haw
        refine hK.out _ _ (by exact HA2'.out) (fun hHeld => ?_)
        clear hK K
        try simp only [Act.put, List.setIfInBounds_toArray, List.set_cons_zero, List.set_cons_succ]
        refine wpAnyH_ready (rs := [1]) (by kernel_rfl) (by simp) ?_
        refine AllReadyH.cons (by simp only [List.getElem?_toArray, List.getElem?_cons_succ, List.getElem?_cons_zero]; rfl) (fun K hK => ?_) AllReadyH.nil
        go_simp
        refine (own_c (HR.out.on HD0.out) (by rw [← HN.out]; omega)).mono ?_
        rintro E y3 ⟨v1, rfl, hown, hnew, haw⟩
        have HA_y3 := Lib.hid (HD0.out.trans haw)
        have HOW := Lib.hid hown
        have HNW := Lib.hid hnew
        obtain ⟨va, vc, rfl, -⟩ := hown.sl
        rw [← HN.out] at HOW HNW ⊢
        have HA3' := Lib.hid (HA2'.out.trans haw)
        have HBB := Lib.hid (HBB2.out.on haw (by simp))
        have HO3 := Lib.hid HOW.out
        have HN3 : Hid (New W.heap.size (.slice va n vc)) := HNW.out.mono HD0.out.size
        have HNW1 : Hid (New w1.heap.size (.slice va n vc)) := HNW.out.mono HA2'.out.size
        clear hown hnew haw
        refine hK.out _ _ (by exact HA3'.out) (fun hHeld => ?_)
        clear hK K
        try simp only [Act.put, List.setIfInBounds_toArray, List.set_cons_zero, List.set_cons_succ]
        refine wpAnyH_ready (rs := [4]) (by kernel_rfl) (by simp) ?_
        refine AllReadyH.cons (by simp only [List.getElem?_toArray, List.getElem?_cons_succ, List.getElem?_cons_zero]; rfl) (fun K hK => ?_) AllReadyH.nil
        refine step_appS rfl _ _ rfl (.slice va n vc) L gb 1 x rfl rfl (by exact HO3.out) (by exact HBB.out) HX.out (by rw [← HN.out]; omega) ?_
        intro v4 y4 hown hgr hmov
        have HOM := Lib.hid hown
        have HAW4 : Hid (Away [] W y4) := (HA.out.trans HA3'.out).grown hgr (fun k hk => .inr (HN3.out k hk))
        have HA4' : Hid (Away [] w1 y4) := HA3'.out.grown hgr (fun k hk => .inr (by
          have h1 := HNW1.out k hk
          exact h1))
        obtain ⟨ma, mc, rfl, -⟩ := hown.sl
        obtain ⟨p, hp⟩ : ∃ p, p = (L ++ [x]).length := ⟨_, rfl⟩
        rw [← hp] at HOM ⊢
        clear hown hgr hmov hp
        refine hK.out _ _ (by exact HA4'.out) (fun hHeld => ?_)
        clear hK K
        try simp only [Act.put, List.setIfInBounds_toArray, List.set_cons_zero, List.set_cons_succ]
        refine wpAnyH_ready (rs := [5]) (by kernel_rfl) (by simp) ?_
        refine AllReadyH.cons (by simp only [List.getElem?_toArray, List.getElem?_cons_succ, List.getElem?_cons_zero]; rfl) (fun K hK => ?_) AllReadyH.nil
        go_simp
        refine (newO_c (HOM.out.rd HOKM.out) (by rw [List.length_append, ← HN.out]; simp; omega)).mono ?_
        rintro E y5 ⟨uv, f, rfl, hu, haw⟩
        have HU := Lib.hid hu
        have HA5' := Lib.hid (HA4'.out.trans haw)
        clear hu haw
        refine hK.out _ _ (by exact HA5'.out) (fun hHeld => ?_)
        clear hK K
        try simp only [Act.put, List.setIfInBounds_toArray, List.set_cons_zero, List.set_cons_succ]
        refine wpAnyH_take (i := 6) (v := ?_) (by simp only [List.getElem?_toArray, List.getElem?_cons_succ, List.getElem?_cons_zero]; rfl) (by kernel_rfl) (by kernel_rfl) (by kernel_rfl) (by exact fun _ _ _ h => h) (Or.inl ⟨by rfl, ?_⟩) (by assumption) ?_
        rotate_left
        · intro wq hSw
          (try dsimp only at hSw)
          go_simp
          all_goals (with_reducible rfl)
        try simp only [Act.put, List.setIfInBounds_toArray, List.set_cons_zero, List.set_cons_succ]
        refine wpAnyH_take (i := 7) (v := ?_) (by simp only [List.getElem?_toArray, List.getElem?_cons_succ, List.getElem?_cons_zero]; rfl) (by kernel_rfl) (by kernel_rfl) (by kernel_rfl) (by exact fun _ _ _ h => h) (Or.inl ⟨by rfl, ?_⟩) (by assumption) ?_
        rotate_left
        · intro wq hSw
          (try dsimp only at hSw)
          go_simp
          all_goals (with_reducible rfl)
        try simp only [Act.put, List.setIfInBounds_toArray, List.set_cons_zero, List.set_cons_succ]
        refine wpAnyH_take (i := 8) (v := ?_) (by simp only [List.getElem?_toArray, List.getElem?_cons_succ, List.getElem?_cons_zero]; rfl) (by kernel_rfl) (by kernel_rfl) (by kernel_rfl) (by exact fun _ _ _ h => h) (Or.inl ⟨by rfl, ?_⟩) (by assumption) ?_
        rotate_left
        · intro wq hSw
          (try dsimp only at hSw)
          go_simp
          all_goals (with_reducible rfl)
        try simp only [Act.put, List.setIfInBounds_toArray, List.set_cons_zero, List.set_cons_succ]
        refine wpAnyH_take (i := 9) (v := ?_) (by simp only [List.getElem?_toArray, List.getElem?_cons_succ, List.getElem?_cons_zero]; rfl) (by kernel_rfl) (by kernel_rfl) (by kernel_rfl) (by exact fun _ _ _ h => h) (Or.inl ⟨by rfl, ?_⟩) (by assumption) ?_
        rotate_left
        · intro wq hSw
          (try dsimp only at hSw)
          go_simp
          all_goals (with_reducible rfl)
        try simp only [Act.put, List.setIfInBounds_toArray, List.set_cons_zero, List.set_cons_succ]
        refine wpAnyH_take (i := 10) (v := ?_) (by simp only [List.getElem?_toArray, List.getElem?_cons_succ, List.getElem?_cons_zero]; rfl) (by kernel_rfl) (by kernel_rfl) (by kernel_rfl) (by exact fun _ _ _ h => h) (Or.inl ⟨by rfl, ?_⟩) (by assumption) ?_
        rotate_left
        · intro wq hSw
          (try dsimp only at hSw)
          go_simp
          all_goals (with_reducible rfl)
        try simp only [Act.put, List.setIfInBounds_toArray, List.set_cons_zero, List.set_cons_succ]
        refine wpAnyH_done (by kernel_rfl) ?_ _
        clear hHeld
        go_wp2_with fail
        go_meet
        exact ⟨_, _, rfl, rfl, HU.out, HA5'.out⟩

  case rest =>
  obtain ⟨uv, f, rfl, rfl, hu, haw⟩ := hcut
  replace HA := Lib.hid (HA.out.trans haw)
  replace HT := Lib.hid (HT.out.on haw)
  have HU := Lib.hid hu
  have HXB2 : Hid (∀ w', Away [] wc w' → BoxD w' g4 x) := fun w' hw' => HXB1.out w' (haw.trans hw')
  have HK := Lib.hid (known_c wc (HG.out.aw HA.out))
  clear hu haw HXB1
  go_wp2_with (go_at_call 9; refine HK.out.mono ?_; refine Hid.out ?_)
  refine Lib.hid ?_
  rintro E w9 ⟨rfl, haw⟩
  replace HA := Lib.hid (HA.out.trans haw)
  replace HT := Lib.hid (HT.out.on haw)
  replace HU := Lib.hid (HU.out.on haw)
  have HXB : Hid (∀ w', Away [] w9 w' → BoxD w' g4 x) := fun w' hw' => HXB2.out w' (haw.trans hw')
  have HXK : Hid (∀ w', Away [] w9 w' → w'.cell? ⟨g4, 18, none⟩ = some (.int .i64 x.k)) := fun w' hw' => by
    have := range_k (HXB.out w' hw').range HX.out
    simpa using this
  clear haw HK HXB2
  rcases HT.out with ⟨h1, rfl, rfl⟩ | ⟨h1, rfl, gt, tw, S, rfl, hoS, htS⟩
  · rcases HU.out with ⟨h2, rfl, rfl⟩ | ⟨h2, -⟩
    · clear HT HU h1 h2
      go_wp2_with fail
      go_ret
      exact ⟨rfl, HA.out.to_below⟩
    · exfalso; have := may_app h2; rw [h1] at this; simp at this
  · rcases HU.out with ⟨h2, rfl, rfl⟩ | ⟨h2, rfl, gu, uw, T, rfl, hoU, htU⟩
    · clear HT HU h1 h2
      go_wp2_with fail
      go_ret
      exact ⟨rfl, HA.out.to_below⟩
    have HMY := Lib.hid h2
    have HOS := Lib.hid hoS
    have HOU := Lib.hid hoU
    have HTT := Lib.hid htS
    have HTU := Lib.hid htU
    have HMX : Hid (mayR x = true) := (mayL_iff.1 h2).2.1 x (by simp)
    clear HT HU h1 h2 hoS hoU htS htU
    go_wp2_with fail
    go_loopw [11] (fun i wr => ∃ i' : Nat, i = .int .i64 (i' : Int) ∧ i' ≤ m ∧ Away [] w9 wr) (fun i _ => m - (intOf i).toNat)
    case atStart => exact ⟨0, rfl, Nat.zero_le _, Away.refl _ _⟩
    case round =>
      obtain ⟨i, rfl, hi, haw⟩ := hrel
      have HB := Lib.hid haw
      clear haw
      by_cases him : i < m
      · have i1 : decide (i < m) = true := by simp; omega
        have i0 : (i : Int) < (m : Int) := by omega
        obtain ⟨d, hd, hdm⟩ := get_of (show i < D.length by rw [← HM.out]; omega)
        obtain ⟨db, do_, hda, hdr, hdo⟩ := HD.out.at hd
        subst hda
        have HDO := Lib.hid hdo
        have HDR : Hid (∀ w', Away [] w9 w' → w'.rangeAt db (do_ + i * 17) (cellsA d.v d.l)) := fun w' hw' => range_away (HA.out.trans hw') (by simp) hdr
        clear hd hdm hdr hdo him
        obtain ⟨⟨r1, r2⟩, hrr⟩ : ∃ r, r = findA d.v d.l S := ⟨_, rfl⟩
        obtain ⟨⟨s1, s2⟩, hss⟩ : ∃ r, r = findA d.v d.l T := ⟨_, rfl⟩
        have HF1 := Lib.hid (fun w (h : Tm w gt tw S) => find_c h d.v d.l HDO.out.1)
        have HF2 := Lib.hid (fun w (h : Tm w gu uw T) => find_c h d.v d.l HDO.out.1)
        rw [← hrr] at HF1
        rw [← hss] at HF2
        have HRR := Lib.hid hrr
        have HSS := Lib.hid hss
        clear hrr hss
        have HDR1 := Lib.hid (HDR.out _ HB.out)
        go_wp2_with (first
          | (refine wpList_ixA rfl _ _ rfl db do_ m dcap i rfl rfl (by omega) ?_)
          | (refine wpList_load32m rfl _ rfl db (do_ + i * 17) rfl d.v d.l HDO.out.1 HDR1.out ?_)
          | (go_at_call 12; refine (HF1.out _ (HTT.out.on HB.out)).mono ?_; refine Hid.out ?_))
        refine Lib.hid ?_
        first
          | rintro E w10 rfl haw
          | rintro E w10 ⟨rfl, haw⟩
        replace HB := Lib.hid (HB.out.trans haw)
        replace HDR1 := Lib.hid (HDR.out _ HB.out)
        clear haw HF1
        go_wp2_with (first
          | (refine wpList_ixA rfl _ _ rfl db do_ m dcap i rfl rfl (by omega) ?_)
          | (refine wpList_load32m rfl _ rfl db (do_ + i * 17) rfl d.v d.l HDO.out.1 HDR1.out ?_)
          | (go_at_call 12; refine (HF2.out _ (HTU.out.on HB.out)).mono ?_; refine Hid.out ?_))
        refine Lib.hid ?_
        first
          | rintro E w11 rfl haw
          | rintro E w11 ⟨rfl, haw⟩
        replace HB := Lib.hid (HB.out.trans haw)
        clear haw HF2 HDR1
        cases hva : validP d.v d.l with
        | false =>
          have e1 : r1 = 0 := congrArg Prod.fst (HRR.out.trans (findA_bad hva))
          have e2 : r2 = 1 := congrArg Prod.snd (HRR.out.trans (findA_bad hva))
          have e3 : s1 = 0 := congrArg Prod.fst (HSS.out.trans (findA_bad hva))
          have e4 : s2 = 1 := congrArg Prod.snd (HSS.out.trans (findA_bad hva))
          subst e1; subst e2; subst e3; subst e4
          clear hva
          have HLI := Lib.hid trivial
          go_wp2_with fail
          refine wp_region_cls (C := fun w' => Away [] w9 w') (by kernel_rfl) (by kernel_rfl) (by exact HB.out.drew) ?_
          repeat (first
            | go_big_quiet_skip
            | (go_big_quiet_want
               first
                 | (refine quiet_ixA _ _ rfl db do_ m dcap i _ rfl rfl rfl (by omega) ?_; go_simp; go_big_quiet_on)
                 | (refine quiet_ldAm _ rfl db (do_ + i * 17) rfl d.v d.l HDO.out.1 (fun w' h => HDR.out w' h) ?_; go_simp; go_big_quiet_on)
                 | (refine quiet_ldR _ rfl g4 0 rfl x HX.out (fun w' h => (HXB.out w' h).range) ?_; go_simp; go_big_quiet_on)
                 | (refine quiet_ld3 _ rfl ⟨g4, 18, none⟩ rfl x.k (fun w' h => HXK.out w' h) ?_; go_simp; go_big_quiet_on)
                 | (refine quiet_call 13 #[.agg (csA d.v d.l), .agg (csD x)] (.bool false) ?_ (fun W hW => (HLI.out W).mono (fun _ _ h => ⟨h.1, hW.trans h.2⟩)) ?_; (focus (intro w; go_simp; done)); go_simp; go_big_quiet_on)
                 | (refine quiet_call 13 #[.agg (csA d.v d.l), .agg (csD x)] (.bool true) ?_ (fun W hW => (HLI.out W).mono (fun _ _ h => ⟨h.1, hW.trans h.2⟩)) ?_; (focus (intro w; go_simp; done)); go_simp; go_big_quiet_on)
                 | (go_big_quiet_op; go_big_quiet_on)
                 | (refine quiet_val ?_ ?_ ?_
                    rotate_left
                    · intro w; go_simp; rfl
                    go_simp; go_big_quiet_on)))
          refine wpQuiet_nil ?_
          intro V hV
          replace HB := Lib.hid hV
          clear hV
          go_wp2_with fail
          refine wp_region_cls (C := fun w' => Away [] w9 w') (by kernel_rfl) (by kernel_rfl) (by exact HB.out.drew) ?_
          repeat (first
            | go_big_quiet_skip
            | (go_big_quiet_want
               first
                 | (refine quiet_ixA _ _ rfl db do_ m dcap i _ rfl rfl rfl (by omega) ?_; go_simp; go_big_quiet_on)
                 | (refine quiet_ldAm _ rfl db (do_ + i * 17) rfl d.v d.l HDO.out.1 (fun w' h => HDR.out w' h) ?_; go_simp; go_big_quiet_on)
                 | (refine quiet_ldR _ rfl g4 0 rfl x HX.out (fun w' h => (HXB.out w' h).range) ?_; go_simp; go_big_quiet_on)
                 | (refine quiet_ld3 _ rfl ⟨g4, 18, none⟩ rfl x.k (fun w' h => HXK.out w' h) ?_; go_simp; go_big_quiet_on)
                 | (refine quiet_call 13 #[.agg (csA d.v d.l), .agg (csD x)] (.bool false) ?_ (fun W hW => (HLI.out W).mono (fun _ _ h => ⟨h.1, hW.trans h.2⟩)) ?_; (focus (intro w; go_simp; done)); go_simp; go_big_quiet_on)
                 | (refine quiet_call 13 #[.agg (csA d.v d.l), .agg (csD x)] (.bool true) ?_ (fun W hW => (HLI.out W).mono (fun _ _ h => ⟨h.1, hW.trans h.2⟩)) ?_; (focus (intro w; go_simp; done)); go_simp; go_big_quiet_on)
                 | (go_big_quiet_op; go_big_quiet_on)
                 | (refine quiet_val ?_ ?_ ?_
                    rotate_left
                    · intro w; go_simp; rfl
                    go_simp; go_big_quiet_on)))
          refine wpQuiet_nil ?_
          intro V hV
          replace HB := Lib.hid hV
          clear hV
          go_wp2_with fail
          go_roundw
          case rel => exact ⟨i + 1, by go_num, by omega, HB.out⟩
          case measure => simp [intOf]; omega
        | true =>
          have HLI := Lib.hid (fun w => lies_c HDO.out.1 HDO.out.2 hva HX.out HMX.out w)
          have HMC := Lib.hid (more_cases HDO.out.2 HOKM.out HMY.out HOS.out HOU.out hva)
          rw [← HRR.out, ← HSS.out] at HMC
          obtain ⟨q, hq⟩ : ∃ q, q = hitR d.v d.l x := ⟨_, rfl⟩
          rw [← hq] at HMC HLI
          clear hva hq
          rcases HMC.out with ⟨h1, h2⟩ | ⟨rfl, h1, h2⟩
          · have e1 : s1 = r1 := (congrArg Prod.fst h1).symm
            have e2 : s2 = r2 := (congrArg Prod.snd h1).symm
            subst e1; subst e2
            have f1 : (s1 != s1) = false := by simp
            have f1b : (s1 == s1) = true := by simp
            rcases h2 with h2 | ⟨h2, rfl⟩
            · have h2' : s2 = 0 := h2
              subst h2'
              clear h1 h2 HMC
              go_wp2_with fail
              refine wp_region_cls (C := fun w' => Away [] w9 w') (by kernel_rfl) (by kernel_rfl) (by exact HB.out.drew) ?_
              repeat (first
                | go_big_quiet_skip
                | (go_big_quiet_want
                   first
                     | (refine quiet_ixA _ _ rfl db do_ m dcap i _ rfl rfl rfl (by omega) ?_; go_simp; go_big_quiet_on)
                     | (refine quiet_ldAm _ rfl db (do_ + i * 17) rfl d.v d.l HDO.out.1 (fun w' h => HDR.out w' h) ?_; go_simp; go_big_quiet_on)
                     | (refine quiet_ldR _ rfl g4 0 rfl x HX.out (fun w' h => (HXB.out w' h).range) ?_; go_simp; go_big_quiet_on)
                     | (refine quiet_ld3 _ rfl ⟨g4, 18, none⟩ rfl x.k (fun w' h => HXK.out w' h) ?_; go_simp; go_big_quiet_on)
                     | (refine quiet_call 13 #[.agg (csA d.v d.l), .agg (csD x)] (.bool false) ?_ (fun W hW => (HLI.out W).mono (fun _ _ h => ⟨h.1, hW.trans h.2⟩)) ?_; (focus (intro w; go_simp; done)); go_simp; go_big_quiet_on)
                     | (refine quiet_call 13 #[.agg (csA d.v d.l), .agg (csD x)] (.bool true) ?_ (fun W hW => (HLI.out W).mono (fun _ _ h => ⟨h.1, hW.trans h.2⟩)) ?_; (focus (intro w; go_simp; done)); go_simp; go_big_quiet_on)
                     | (go_big_quiet_op; go_big_quiet_on)
                     | (refine quiet_val ?_ ?_ ?_
                        rotate_left
                        · intro w; go_simp; rfl
                        go_simp; go_big_quiet_on)))
              refine wpQuiet_nil ?_
              intro V hV
              replace HB := Lib.hid hV
              clear hV
              go_wp2_with fail
              refine wp_region_cls (C := fun w' => Away [] w9 w') (by kernel_rfl) (by kernel_rfl) (by exact HB.out.drew) ?_
              repeat (first
                | go_big_quiet_skip
                | (go_big_quiet_want
                   first
                     | (refine quiet_ixA _ _ rfl db do_ m dcap i _ rfl rfl rfl (by omega) ?_; go_simp; go_big_quiet_on)
                     | (refine quiet_ldAm _ rfl db (do_ + i * 17) rfl d.v d.l HDO.out.1 (fun w' h => HDR.out w' h) ?_; go_simp; go_big_quiet_on)
                     | (refine quiet_ldR _ rfl g4 0 rfl x HX.out (fun w' h => (HXB.out w' h).range) ?_; go_simp; go_big_quiet_on)
                     | (refine quiet_ld3 _ rfl ⟨g4, 18, none⟩ rfl x.k (fun w' h => HXK.out w' h) ?_; go_simp; go_big_quiet_on)
                     | (refine quiet_call 13 #[.agg (csA d.v d.l), .agg (csD x)] (.bool false) ?_ (fun W hW => (HLI.out W).mono (fun _ _ h => ⟨h.1, hW.trans h.2⟩)) ?_; (focus (intro w; go_simp; done)); go_simp; go_big_quiet_on)
                     | (refine quiet_call 13 #[.agg (csA d.v d.l), .agg (csD x)] (.bool true) ?_ (fun W hW => (HLI.out W).mono (fun _ _ h => ⟨h.1, hW.trans h.2⟩)) ?_; (focus (intro w; go_simp; done)); go_simp; go_big_quiet_on)
                     | (go_big_quiet_op; go_big_quiet_on)
                     | (refine quiet_val ?_ ?_ ?_
                        rotate_left
                        · intro w; go_simp; rfl
                        go_simp; go_big_quiet_on)))
              refine wpQuiet_nil ?_
              intro V hV
              replace HB := Lib.hid hV
              clear hV
              go_wp2_with fail
              go_roundw
              case rel => exact ⟨i + 1, by go_num, by omega, HB.out⟩
              case measure => simp [intOf]; omega
            · have h2' : s2 = 210 := h2
              subst h2'
              clear h1 h2 HMC
              go_wp2_with fail
              refine wp_region_cls (C := fun w' => Away [] w9 w') (by kernel_rfl) (by kernel_rfl) (by exact HB.out.drew) ?_
              repeat (first
                | go_big_quiet_skip
                | (go_big_quiet_want
                   first
                     | (refine quiet_ixA _ _ rfl db do_ m dcap i _ rfl rfl rfl (by omega) ?_; go_simp; go_big_quiet_on)
                     | (refine quiet_ldAm _ rfl db (do_ + i * 17) rfl d.v d.l HDO.out.1 (fun w' h => HDR.out w' h) ?_; go_simp; go_big_quiet_on)
                     | (refine quiet_ldR _ rfl g4 0 rfl x HX.out (fun w' h => (HXB.out w' h).range) ?_; go_simp; go_big_quiet_on)
                     | (refine quiet_ld3 _ rfl ⟨g4, 18, none⟩ rfl x.k (fun w' h => HXK.out w' h) ?_; go_simp; go_big_quiet_on)
                     | (refine quiet_call 13 #[.agg (csA d.v d.l), .agg (csD x)] (.bool false) ?_ (fun W hW => (HLI.out W).mono (fun _ _ h => ⟨h.1, hW.trans h.2⟩)) ?_; (focus (intro w; go_simp; done)); go_simp; go_big_quiet_on)
                     | (refine quiet_call 13 #[.agg (csA d.v d.l), .agg (csD x)] (.bool true) ?_ (fun W hW => (HLI.out W).mono (fun _ _ h => ⟨h.1, hW.trans h.2⟩)) ?_; (focus (intro w; go_simp; done)); go_simp; go_big_quiet_on)
                     | (go_big_quiet_op; go_big_quiet_on)
                     | (refine quiet_val ?_ ?_ ?_
                        rotate_left
                        · intro w; go_simp; rfl
                        go_simp; go_big_quiet_on)))
              refine wpQuiet_nil ?_
              intro V hV
              replace HB := Lib.hid hV
              clear hV
              go_wp2_with fail
              refine wp_region_cls (C := fun w' => Away [] w9 w') (by kernel_rfl) (by kernel_rfl) (by exact HB.out.drew) ?_
              repeat (first
                | go_big_quiet_skip
                | (go_big_quiet_want
                   first
                     | (refine quiet_ixA _ _ rfl db do_ m dcap i _ rfl rfl rfl (by omega) ?_; go_simp; go_big_quiet_on)
                     | (refine quiet_ldAm _ rfl db (do_ + i * 17) rfl d.v d.l HDO.out.1 (fun w' h => HDR.out w' h) ?_; go_simp; go_big_quiet_on)
                     | (refine quiet_ldR _ rfl g4 0 rfl x HX.out (fun w' h => (HXB.out w' h).range) ?_; go_simp; go_big_quiet_on)
                     | (refine quiet_ld3 _ rfl ⟨g4, 18, none⟩ rfl x.k (fun w' h => HXK.out w' h) ?_; go_simp; go_big_quiet_on)
                     | (refine quiet_call 13 #[.agg (csA d.v d.l), .agg (csD x)] (.bool false) ?_ (fun W hW => (HLI.out W).mono (fun _ _ h => ⟨h.1, hW.trans h.2⟩)) ?_; (focus (intro w; go_simp; done)); go_simp; go_big_quiet_on)
                     | (refine quiet_call 13 #[.agg (csA d.v d.l), .agg (csD x)] (.bool true) ?_ (fun W hW => (HLI.out W).mono (fun _ _ h => ⟨h.1, hW.trans h.2⟩)) ?_; (focus (intro w; go_simp; done)); go_simp; go_big_quiet_on)
                     | (go_big_quiet_op; go_big_quiet_on)
                     | (refine quiet_val ?_ ?_ ?_
                        rotate_left
                        · intro w; go_simp; rfl
                        go_simp; go_big_quiet_on)))
              refine wpQuiet_nil ?_
              intro V hV
              replace HB := Lib.hid hV
              clear hV
              go_wp2_with fail
              go_roundw
              case rel => exact ⟨i + 1, by go_num, by omega, HB.out⟩
              case measure => simp [intOf]; omega
          · have e1 : s1 = x.k := congrArg Prod.fst h1
            have e2 : s2 = 0 := congrArg Prod.snd h1
            subst e2
            have HE1 := Lib.hid e1
            have g1 : (s1 != x.k) = false := by simp [e1]
            have g2 : (s1 == x.k) = true := by simp [e1]
            clear h1 e1 HMC
            by_cases f : r1 = s1
            · have f1 : (r1 != s1) = false := by simp [f]
              have f2 : (r1 == s1) = true := by simp [f]
              clear f
              rcases h2 with h2 | h2
              · have h2' : r2 = 0 := h2
                subst h2'
                clear h2
                go_wp2_with fail
                refine wp_region_cls (C := fun w' => Away [] w9 w') (by kernel_rfl) (by kernel_rfl) (by exact HB.out.drew) ?_
                repeat (first
                  | go_big_quiet_skip
                  | (go_big_quiet_want
                     first
                       | (refine quiet_ixA _ _ rfl db do_ m dcap i _ rfl rfl rfl (by omega) ?_; go_simp; go_big_quiet_on)
                       | (refine quiet_ldAm _ rfl db (do_ + i * 17) rfl d.v d.l HDO.out.1 (fun w' h => HDR.out w' h) ?_; go_simp; go_big_quiet_on)
                       | (refine quiet_ldR _ rfl g4 0 rfl x HX.out (fun w' h => (HXB.out w' h).range) ?_; go_simp; go_big_quiet_on)
                       | (refine quiet_ld3 _ rfl ⟨g4, 18, none⟩ rfl x.k (fun w' h => HXK.out w' h) ?_; go_simp; go_big_quiet_on)
                       | (refine quiet_call 13 #[.agg (csA d.v d.l), .agg (csD x)] (.bool false) ?_ (fun W hW => (HLI.out W).mono (fun _ _ h => ⟨h.1, hW.trans h.2⟩)) ?_; (focus (intro w; go_simp; done)); go_simp; go_big_quiet_on)
                       | (refine quiet_call 13 #[.agg (csA d.v d.l), .agg (csD x)] (.bool true) ?_ (fun W hW => (HLI.out W).mono (fun _ _ h => ⟨h.1, hW.trans h.2⟩)) ?_; (focus (intro w; go_simp; done)); go_simp; go_big_quiet_on)
                       | (go_big_quiet_op; go_big_quiet_on)
                       | (refine quiet_val ?_ ?_ ?_
                          rotate_left
                          · intro w; go_simp; rfl
                          go_simp; go_big_quiet_on)))
                refine wpQuiet_nil ?_
                intro V hV
                replace HB := Lib.hid hV
                clear hV
                go_wp2_with fail
                refine wp_region_cls (C := fun w' => Away [] w9 w') (by kernel_rfl) (by kernel_rfl) (by exact HB.out.drew) ?_
                repeat (first
                  | go_big_quiet_skip
                  | (go_big_quiet_want
                     first
                       | (refine quiet_ixA _ _ rfl db do_ m dcap i _ rfl rfl rfl (by omega) ?_; go_simp; go_big_quiet_on)
                       | (refine quiet_ldAm _ rfl db (do_ + i * 17) rfl d.v d.l HDO.out.1 (fun w' h => HDR.out w' h) ?_; go_simp; go_big_quiet_on)
                       | (refine quiet_ldR _ rfl g4 0 rfl x HX.out (fun w' h => (HXB.out w' h).range) ?_; go_simp; go_big_quiet_on)
                       | (refine quiet_ld3 _ rfl ⟨g4, 18, none⟩ rfl x.k (fun w' h => HXK.out w' h) ?_; go_simp; go_big_quiet_on)
                       | (refine quiet_call 13 #[.agg (csA d.v d.l), .agg (csD x)] (.bool false) ?_ (fun W hW => (HLI.out W).mono (fun _ _ h => ⟨h.1, hW.trans h.2⟩)) ?_; (focus (intro w; go_simp; done)); go_simp; go_big_quiet_on)
                       | (refine quiet_call 13 #[.agg (csA d.v d.l), .agg (csD x)] (.bool true) ?_ (fun W hW => (HLI.out W).mono (fun _ _ h => ⟨h.1, hW.trans h.2⟩)) ?_; (focus (intro w; go_simp; done)); go_simp; go_big_quiet_on)
                       | (go_big_quiet_op; go_big_quiet_on)
                       | (refine quiet_val ?_ ?_ ?_
                          rotate_left
                          · intro w; go_simp; rfl
                          go_simp; go_big_quiet_on)))
                refine wpQuiet_nil ?_
                intro V hV
                replace HB := Lib.hid hV
                clear hV
                go_wp2_with fail
                go_roundw
                case rel => exact ⟨i + 1, by go_num, by omega, HB.out⟩
                case measure => simp [intOf]; omega
              · have h2' : r2 = 210 := h2
                subst h2'
                clear h2
                go_wp2_with fail
                refine wp_region_cls (C := fun w' => Away [] w9 w') (by kernel_rfl) (by kernel_rfl) (by exact HB.out.drew) ?_
                repeat (first
                  | go_big_quiet_skip
                  | (go_big_quiet_want
                     first
                       | (refine quiet_ixA _ _ rfl db do_ m dcap i _ rfl rfl rfl (by omega) ?_; go_simp; go_big_quiet_on)
                       | (refine quiet_ldAm _ rfl db (do_ + i * 17) rfl d.v d.l HDO.out.1 (fun w' h => HDR.out w' h) ?_; go_simp; go_big_quiet_on)
                       | (refine quiet_ldR _ rfl g4 0 rfl x HX.out (fun w' h => (HXB.out w' h).range) ?_; go_simp; go_big_quiet_on)
                       | (refine quiet_ld3 _ rfl ⟨g4, 18, none⟩ rfl x.k (fun w' h => HXK.out w' h) ?_; go_simp; go_big_quiet_on)
                       | (refine quiet_call 13 #[.agg (csA d.v d.l), .agg (csD x)] (.bool false) ?_ (fun W hW => (HLI.out W).mono (fun _ _ h => ⟨h.1, hW.trans h.2⟩)) ?_; (focus (intro w; go_simp; done)); go_simp; go_big_quiet_on)
                       | (refine quiet_call 13 #[.agg (csA d.v d.l), .agg (csD x)] (.bool true) ?_ (fun W hW => (HLI.out W).mono (fun _ _ h => ⟨h.1, hW.trans h.2⟩)) ?_; (focus (intro w; go_simp; done)); go_simp; go_big_quiet_on)
                       | (go_big_quiet_op; go_big_quiet_on)
                       | (refine quiet_val ?_ ?_ ?_
                          rotate_left
                          · intro w; go_simp; rfl
                          go_simp; go_big_quiet_on)))
                refine wpQuiet_nil ?_
                intro V hV
                replace HB := Lib.hid hV
                clear hV
                go_wp2_with fail
                refine wp_region_cls (C := fun w' => Away [] w9 w') (by kernel_rfl) (by kernel_rfl) (by exact HB.out.drew) ?_
                repeat (first
                  | go_big_quiet_skip
                  | (go_big_quiet_want
                     first
                       | (refine quiet_ixA _ _ rfl db do_ m dcap i _ rfl rfl rfl (by omega) ?_; go_simp; go_big_quiet_on)
                       | (refine quiet_ldAm _ rfl db (do_ + i * 17) rfl d.v d.l HDO.out.1 (fun w' h => HDR.out w' h) ?_; go_simp; go_big_quiet_on)
                       | (refine quiet_ldR _ rfl g4 0 rfl x HX.out (fun w' h => (HXB.out w' h).range) ?_; go_simp; go_big_quiet_on)
                       | (refine quiet_ld3 _ rfl ⟨g4, 18, none⟩ rfl x.k (fun w' h => HXK.out w' h) ?_; go_simp; go_big_quiet_on)
                       | (refine quiet_call 13 #[.agg (csA d.v d.l), .agg (csD x)] (.bool false) ?_ (fun W hW => (HLI.out W).mono (fun _ _ h => ⟨h.1, hW.trans h.2⟩)) ?_; (focus (intro w; go_simp; done)); go_simp; go_big_quiet_on)
                       | (refine quiet_call 13 #[.agg (csA d.v d.l), .agg (csD x)] (.bool true) ?_ (fun W hW => (HLI.out W).mono (fun _ _ h => ⟨h.1, hW.trans h.2⟩)) ?_; (focus (intro w; go_simp; done)); go_simp; go_big_quiet_on)
                       | (go_big_quiet_op; go_big_quiet_on)
                       | (refine quiet_val ?_ ?_ ?_
                          rotate_left
                          · intro w; go_simp; rfl
                          go_simp; go_big_quiet_on)))
                refine wpQuiet_nil ?_
                intro V hV
                replace HB := Lib.hid hV
                clear hV
                go_wp2_with fail
                go_roundw
                case rel => exact ⟨i + 1, by go_num, by omega, HB.out⟩
                case measure => simp [intOf]; omega
            · have f1 : (r1 != s1) = true := by simp [f]
              have f2 : (r1 == s1) = false := by simp [f]
              clear f
              rcases h2 with h2 | h2
              · have h2' : r2 = 0 := h2
                subst h2'
                clear h2
                go_wp2_with fail
                refine wp_region_cls (C := fun w' => Away [] w9 w') (by kernel_rfl) (by kernel_rfl) (by exact HB.out.drew) ?_
                repeat (first
                  | go_big_quiet_skip
                  | (go_big_quiet_want
                     first
                       | (refine quiet_ixA _ _ rfl db do_ m dcap i _ rfl rfl rfl (by omega) ?_; go_simp; go_big_quiet_on)
                       | (refine quiet_ldAm _ rfl db (do_ + i * 17) rfl d.v d.l HDO.out.1 (fun w' h => HDR.out w' h) ?_; go_simp; go_big_quiet_on)
                       | (refine quiet_ldR _ rfl g4 0 rfl x HX.out (fun w' h => (HXB.out w' h).range) ?_; go_simp; go_big_quiet_on)
                       | (refine quiet_ld3 _ rfl ⟨g4, 18, none⟩ rfl x.k (fun w' h => HXK.out w' h) ?_; go_simp; go_big_quiet_on)
                       | (refine quiet_call 13 #[.agg (csA d.v d.l), .agg (csD x)] (.bool false) ?_ (fun W hW => (HLI.out W).mono (fun _ _ h => ⟨h.1, hW.trans h.2⟩)) ?_; (focus (intro w; go_simp; done)); go_simp; go_big_quiet_on)
                       | (refine quiet_call 13 #[.agg (csA d.v d.l), .agg (csD x)] (.bool true) ?_ (fun W hW => (HLI.out W).mono (fun _ _ h => ⟨h.1, hW.trans h.2⟩)) ?_; (focus (intro w; go_simp; done)); go_simp; go_big_quiet_on)
                       | (go_big_quiet_op; go_big_quiet_on)
                       | (refine quiet_val ?_ ?_ ?_
                          rotate_left
                          · intro w; go_simp; rfl
                          go_simp; go_big_quiet_on)))
                refine wpQuiet_nil ?_
                intro V hV
                replace HB := Lib.hid hV
                clear hV
                go_wp2_with fail
                refine wp_region_cls (C := fun w' => Away [] w9 w') (by kernel_rfl) (by kernel_rfl) (by exact HB.out.drew) ?_
                repeat (first
                  | go_big_quiet_skip
                  | (go_big_quiet_want
                     first
                       | (refine quiet_ixA _ _ rfl db do_ m dcap i _ rfl rfl rfl (by omega) ?_; go_simp; go_big_quiet_on)
                       | (refine quiet_ldAm _ rfl db (do_ + i * 17) rfl d.v d.l HDO.out.1 (fun w' h => HDR.out w' h) ?_; go_simp; go_big_quiet_on)
                       | (refine quiet_ldR _ rfl g4 0 rfl x HX.out (fun w' h => (HXB.out w' h).range) ?_; go_simp; go_big_quiet_on)
                       | (refine quiet_ld3 _ rfl ⟨g4, 18, none⟩ rfl x.k (fun w' h => HXK.out w' h) ?_; go_simp; go_big_quiet_on)
                       | (refine quiet_call 13 #[.agg (csA d.v d.l), .agg (csD x)] (.bool false) ?_ (fun W hW => (HLI.out W).mono (fun _ _ h => ⟨h.1, hW.trans h.2⟩)) ?_; (focus (intro w; go_simp; done)); go_simp; go_big_quiet_on)
                       | (refine quiet_call 13 #[.agg (csA d.v d.l), .agg (csD x)] (.bool true) ?_ (fun W hW => (HLI.out W).mono (fun _ _ h => ⟨h.1, hW.trans h.2⟩)) ?_; (focus (intro w; go_simp; done)); go_simp; go_big_quiet_on)
                       | (go_big_quiet_op; go_big_quiet_on)
                       | (refine quiet_val ?_ ?_ ?_
                          rotate_left
                          · intro w; go_simp; rfl
                          go_simp; go_big_quiet_on)))
                refine wpQuiet_nil ?_
                intro V hV
                replace HB := Lib.hid hV
                clear hV
                go_wp2_with fail
                go_roundw
                case rel => exact ⟨i + 1, by go_num, by omega, HB.out⟩
                case measure => simp [intOf]; omega
              · have h2' : r2 = 210 := h2
                subst h2'
                clear h2
                go_wp2_with fail
                refine wp_region_cls (C := fun w' => Away [] w9 w') (by kernel_rfl) (by kernel_rfl) (by exact HB.out.drew) ?_
                repeat (first
                  | go_big_quiet_skip
                  | (go_big_quiet_want
                     first
                       | (refine quiet_ixA _ _ rfl db do_ m dcap i _ rfl rfl rfl (by omega) ?_; go_simp; go_big_quiet_on)
                       | (refine quiet_ldAm _ rfl db (do_ + i * 17) rfl d.v d.l HDO.out.1 (fun w' h => HDR.out w' h) ?_; go_simp; go_big_quiet_on)
                       | (refine quiet_ldR _ rfl g4 0 rfl x HX.out (fun w' h => (HXB.out w' h).range) ?_; go_simp; go_big_quiet_on)
                       | (refine quiet_ld3 _ rfl ⟨g4, 18, none⟩ rfl x.k (fun w' h => HXK.out w' h) ?_; go_simp; go_big_quiet_on)
                       | (refine quiet_call 13 #[.agg (csA d.v d.l), .agg (csD x)] (.bool false) ?_ (fun W hW => (HLI.out W).mono (fun _ _ h => ⟨h.1, hW.trans h.2⟩)) ?_; (focus (intro w; go_simp; done)); go_simp; go_big_quiet_on)
                       | (refine quiet_call 13 #[.agg (csA d.v d.l), .agg (csD x)] (.bool true) ?_ (fun W hW => (HLI.out W).mono (fun _ _ h => ⟨h.1, hW.trans h.2⟩)) ?_; (focus (intro w; go_simp; done)); go_simp; go_big_quiet_on)
                       | (go_big_quiet_op; go_big_quiet_on)
                       | (refine quiet_val ?_ ?_ ?_
                          rotate_left
                          · intro w; go_simp; rfl
                          go_simp; go_big_quiet_on)))
                refine wpQuiet_nil ?_
                intro V hV
                replace HB := Lib.hid hV
                clear hV
                go_wp2_with fail
                refine wp_region_cls (C := fun w' => Away [] w9 w') (by kernel_rfl) (by kernel_rfl) (by exact HB.out.drew) ?_
                repeat (first
                  | go_big_quiet_skip
                  | (go_big_quiet_want
                     first
                       | (refine quiet_ixA _ _ rfl db do_ m dcap i _ rfl rfl rfl (by omega) ?_; go_simp; go_big_quiet_on)
                       | (refine quiet_ldAm _ rfl db (do_ + i * 17) rfl d.v d.l HDO.out.1 (fun w' h => HDR.out w' h) ?_; go_simp; go_big_quiet_on)
                       | (refine quiet_ldR _ rfl g4 0 rfl x HX.out (fun w' h => (HXB.out w' h).range) ?_; go_simp; go_big_quiet_on)
                       | (refine quiet_ld3 _ rfl ⟨g4, 18, none⟩ rfl x.k (fun w' h => HXK.out w' h) ?_; go_simp; go_big_quiet_on)
                       | (refine quiet_call 13 #[.agg (csA d.v d.l), .agg (csD x)] (.bool false) ?_ (fun W hW => (HLI.out W).mono (fun _ _ h => ⟨h.1, hW.trans h.2⟩)) ?_; (focus (intro w; go_simp; done)); go_simp; go_big_quiet_on)
                       | (refine quiet_call 13 #[.agg (csA d.v d.l), .agg (csD x)] (.bool true) ?_ (fun W hW => (HLI.out W).mono (fun _ _ h => ⟨h.1, hW.trans h.2⟩)) ?_; (focus (intro w; go_simp; done)); go_simp; go_big_quiet_on)
                       | (go_big_quiet_op; go_big_quiet_on)
                       | (refine quiet_val ?_ ?_ ?_
                          rotate_left
                          · intro w; go_simp; rfl
                          go_simp; go_big_quiet_on)))
                refine wpQuiet_nil ?_
                intro V hV
                replace HB := Lib.hid hV
                clear hV
                go_wp2_with fail
                go_roundw
                case rel => exact ⟨i + 1, by go_num, by omega, HB.out⟩
                case measure => simp [intOf]; omega
      · have i1 : decide (i < m) = false := by simp; omega
        clear him
        obtain ⟨y, hy1, hy2⟩ := own_net HOKM.out HMY.out HOU.out
        have HF := Lib.hid (fun w (h : Tm w gu uw T) => find_c h x.v x.l HX.out.1)
        rw [hy1] at HF
        have HY2 := Lib.hid hy2
        have HRA := Lib.hid (range_a (HXB.out _ HB.out).range HX.out)
        clear hy1 hy2
        go_wp2_with (first
          | (refine wpList_load32m rfl _ rfl g4 0 rfl x.v x.l HX.out.1 HRA.out ?_)
          | (go_at_call 12; refine (HF.out _ (HTU.out.on HB.out)).mono ?_; refine Hid.out ?_))
        refine Lib.hid ?_
        first
          | rintro E w12 rfl haw
          | rintro E w12 ⟨rfl, haw⟩
        replace HB := Lib.hid (HB.out.trans haw)
        clear haw HF HRA
        have c17 := range_b (HXB.out _ HB.out).range HX.out
        have c18 := range_k (HXB.out _ HB.out).range HX.out
        simp only [Nat.zero_add] at c17 c18
        by_cases hb : x.b < 8
        · have hb1 : decide (x.b < 8) = true := by simpa using hb
          go_wp2_with fail
          go_ret
          exact ⟨rfl, (HA.out.trans HB.out).to_below⟩
        · have hb1 : decide (x.b < 8) = false := by simpa using hb
          by_cases hyk : y = x.k
          · have hy1 : (y == x.k) = true := by simpa using hyk
            clear hyk
            go_wp2_with fail
            go_ret
            exact ⟨rfl, (HA.out.trans HB.out).to_below⟩
          · have hy1 : (y == x.k) = false := by simpa using hyk
            have hn0 : 0 < n := by
              rcases HY2.out with h | h
              · exact absurd h hyk
              · rw [HN.out]; exact h
            have hn1 : (n : Int) > 0 := by omega
            have hn2 : decide ((n : Int) > 0) = true := by simp; omega
            clear hyk
            go_wp2_with fail
            go_ret
            exact ⟨rfl, (HA.out.trans HB.out).to_below⟩

end routeMore
namespace routeMore
theorem lifted (os : Os) (started : os.Started) (H : Type) (enc : TypeId × Value → H) :
    ReturnsInHanded {} Try.checked os 4 .any (Rows.routeMoreSpec.pre6 enc Try.prog Try.f4 Rows.routeMoreRow.domain false) (Rows.routeMoreSpec.post enc Try.prog Try.f4 false true false false) := by
  refine returnsInHanded_of_change_shaped (C := Try.checked) ownKn started (by kernel_rfl) Try.func4
    (ChangeSpec.witness6 (enc := enc) (C := Try.checked) false ⟨#[], #[.slice none 0 0, .agg zD, .slice none 0 0], []⟩ 8 (by kernel_rfl) (by kernel_rfl) (by kernel_rfl) (by kernel_rfl)) ?_
  intro W base args ds gs before hval0 hW _ hsz0 hsh0 _
  have hsz : (DataW.weightsEach Try.prog (Try.f4.params.toList ++ Rows.routeMoreSpec.plain.varTypes Try.prog) (ds ++ gs)).all (· ≤ reachBytes) = true := hsz0
  clear hsz0
  have hval : ∀ (j : Nat) t v, Try.f4.params[j]? = some t → args[j]? = some v → Value.okWide Try.prog W .any base t v := hval0
  have hW' := hW
  obtain ⟨p, q, hA0, hV, rfl, hfz, hnd⟩ := hW
  have hA : DataW.TrodAll enc Try.prog W 0 (fun _ => true) true Try.f4.params.toList args.toList ds p := hA0
  rw [Try.params4] at hA hval hsz
  obtain ⟨v0, vs0, d0, ds0, p0, q0, hargs, rfl, rfl, h0, r0⟩ := trodAll_cons hA
  obtain ⟨v1, vs1, d1, ds1, p1, q1, rfl, rfl, rfl, h1, r1⟩ := trodAll_cons r0
  obtain ⟨v2, vs2, d2, ds2, p2, q2, rfl, rfl, rfl, h2, r2⟩ := trodAll_cons r1
  obtain ⟨rfl, rfl, rfl⟩ := trodAll_nil r2
  obtain rfl : args = #[v0, v1, v2] := by cases args; simp_all
  have hV2 : DataW.TrodVars enc Try.prog W (fun _ => true) Rows.routeMoreSpec.vars gs q := hV
  obtain ⟨rfl, rfl⟩ := trodVars_none hV2
  have k0 := h0
  have lt0 : ∀ x ∈ p0, x.block < W.heap.size := by obtain ⟨m, hm⟩ := k0; exact DataW.trod_lt m _ _ _ hm
  have z0 : ∀ m ∈ d0.weights Try.prog 22, m ≤ reachBytes := fun m hm => by
    have := List.all_eq_true.1 hsz m (DataW.weights_mem_each (j := 0) (t := 22) rfl rfl m hm)
    simpa using this
  obtain ⟨a0, len0, cap0, rfl⟩ := okWide_slice Try.underlying22 (hval 0 22 v0 rfl rfl)
  obtain ⟨l0, rfl, w0, b0⟩ := open_routes h0 z0 lt0
  have k1 := h1
  have lt1 : ∀ x ∈ p1, x.block < W.heap.size := by obtain ⟨m, hm⟩ := k1; exact DataW.trod_lt m _ _ _ hm
  have z1 : ∀ m ∈ d1.weights Try.prog 33, m ≤ reachBytes := fun m hm => by
    have := List.all_eq_true.1 hsz m (DataW.weights_mem_each (j := 1) (t := 33) rfl rfl m hm)
    simpa using this
  obtain ⟨x1, rfl, b1⟩ := open_route (hval 1 33 v1 rfl rfl) h1
  have k2 := h2
  have lt2 : ∀ x ∈ p2, x.block < W.heap.size := by obtain ⟨m, hm⟩ := k2; exact DataW.trod_lt m _ _ _ hm
  have z2 : ∀ m ∈ d2.weights Try.prog 23, m ≤ reachBytes := fun m hm => by
    have := List.all_eq_true.1 hsz m (DataW.weights_mem_each (j := 2) (t := 23) rfl rfl m hm)
    simpa using this
  obtain ⟨a2, len2, cap2, rfl⟩ := okWide_slice Try.underlying23 (hval 2 23 v2 rfl rfl)
  obtain ⟨l2, rfl, w2, b2⟩ := open_addrs h2 z2 lt2
  clear hA0 hval0
  refine (walk a0 l0 cap0 x1 a2 l2 cap2 W w0 b0 b1 w2 b2 (glob_of hsh0)).mono fun e W' ⟨he, bel⟩ => ?_
  subst he
  exact ⟨_, rfl, _, _, _, [], _, [], hW', trodAll_mk1 (shut_bool Try.underlying4 _), (trodAll_cons_mk (Below.trod laidOut (by kernel_rfl) (of_decide_eq_true (by kernel_rfl)) k0 bel lt0) (trodAll_cons_mk (Below.trod laidOut (by kernel_rfl) (of_decide_eq_true (by kernel_rfl)) k1 bel lt1) (trodAll_cons_mk (Below.trod laidOut (by kernel_rfl) (of_decide_eq_true (by kernel_rfl)) k2 bel lt2) trodAll_mk0))), rfl, bel.frame _, fun h => by cases h⟩
theorem over : Rows.routeMoreRow.holds Try.pinned (OpenSpec.ofChange Rows.routeMoreSpec) :=
  OpenClaim.holds_of_wide 4 Try.f4 rfl rfl rfl rfl rfl rfl rfl ⟨rfl, rfl, rfl, rfl, rfl⟩ rfl rfl rfl rfl rfl (by kernel_rfl) Try.func4 (by kernel_rfl)
    (of_decide_eq_true (by kernel_rfl)) (by unfold Func.isWrapper; first | (rw [if_pos (by decide +kernel)]; kernel_rfl) | (rw [if_neg (by decide +kernel)]; exact ⟨rfl, rfl⟩))
    (fun os started H enc _ => lifted os started H enc)
end routeMore
theorem routeMore_holds : Rows.RouteMoreSaid := routeMore.over
#print axioms routeMore_holds
end Go.Proofs.Ytoifolmcdkfniaa
