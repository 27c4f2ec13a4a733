/-
  HolesKeeps.
-/
import Derived.Test.YtcjkhpinccjncaaKeep
namespace Go.Proofs.Ytcjkhpinccjncaa
open Go.ChangeShapes Go.WideShapes Go.ChangeAt Go.RowKit Go.Deep
set_option linter.unusedVariables false
set_option linter.unusedSimpArgs false
set_option maxRecDepth 100000

theorem sl_of {w : World} {r : Value} {f : List Sp} (h : Lst w r f) (hf : rightP f = true) : ∃ a n c, r = .slice a n c ∧ f.length = n ∧ (a = none → c = 0) ∧ Row w a f := by
  obtain ⟨a, c, h1, -, h2, h3, -⟩ := h.row (by have := right_short hf; omega) (fun x hx => is_ok (right_is hf x hx))
  exact ⟨a, f.length, c, h1, rfl, h2, h3⟩
theorem Tk.to {K U K' U' : List Value} {P : List (Value × List Sp)} {T : List Kept} (h : Tk K U P T) (hk : K = K') (hu : U = U') : Tk K' U' P T := by subst hk; subst hu; exact h
theorem perm3 {α : Type} (a b c : α) : [c, b, a].Perm [a, b, c] := (List.reverse_perm [a, b, c])
theorem perm4 {α : Type} (s a b c : α) : [c, b, s, a].Perm [s, a, b, c] := by
  have h1 : [c, b, s, a].Perm [c, b, a, s] := ((List.Perm.swap a s []).cons b).cons c
  exact h1.trans (List.reverse_perm [s, a, b, c])
namespace holesKeeps
/-- What the loop holds. -/
def KsE (w wr : World) (ga gb gc : Nat) (ku wu : Value) (k : Nat) : Prop := ∃ va vb vc m mb e eb K U P T, Ks w wr ga gb gc va vb vc ku wu m mb m e eb e K U P ∧ Tk K U P T ∧ T.length ≤ 4 * k
set_option maxHeartbeats 16000000 in
theorem walk (wa : Option Addr) (ws : List Pc) (cap : Nat) (ya : Option Addr) (ys : List Pc) (ycap : Nat) (w : World) (hr : RowC w wa ws) (hlen : ws.length ≤ 5864062014634) (hry : RowC w ya ys) (hylen : ys.length ≤ 5864062014634) :
    Calls Try.prog 4 #[.slice wa ws.length cap, .slice ya ys.length ycap] w fun E w' => E = .returned (.bool true) ∧ Below w.heap.size w w' := by
  have HR := hidI hr
  have HRY := hidI hry
  clear hr hry
  obtain ⟨n, hn⟩ : ∃ n, n = ws.length := ⟨_, rfl⟩
  rw [← hn] at hlen ⊢
  have HN := hidI hn
  obtain ⟨ny, hny⟩ : ∃ ny, ny = ys.length := ⟨_, rfl⟩
  rw [← hny] at hylen ⊢
  have HNY := hidI hny
  clear hn hny
  go_enter Try.func4, Try.ntmps4
  go_wp2_with fail
  refine (new_c w).mono ?_
  rintro E w0 ⟨ga, va0, rfl, h0, hg0, hv0, haw0⟩
  have H0 := hidI h0
  have HG0 := hidI hg0
  have HV0 := hidI hv0
  have HA0 := hidI haw0
  clear h0 hg0 hv0 haw0
  go_wp2_with fail
  refine (new_c w0).mono ?_
  rintro E w1 ⟨gb, vb0, rfl, h1, hg1, hv1, haw1⟩
  have H1 := hidI h1
  have HG1 := hidI hg1
  have HV1 := hidI hv1
  have HA1 := hidI haw1
  clear h1 hg1 hv1 haw1
  go_wp2_with fail
  refine (new_c w1).mono ?_
  rintro E w2 ⟨gc, vc0, rfl, h2, hg2, hv2, haw2⟩
  have HST0 : Hid (Ks w w2 ga gb gc va0 vb0 vc0 (.slice none 0 0) (.slice none 0 0) [(0, 65535)] [(0, 65535)] [(0, 65535)] (-1) (-1) (-1) [] [] []) :=
    Ks.start H0.out HG0.out HV0.out HA0.out H1.out HG1.out HV1.out HA1.out h2 hg2 hv2 haw2
  clear h2 hg2 hv2 haw2 H0 HG0 HV0 HA0 H1 HG1 HV1 HA1
  have KK := hidI (known_c w2)
  go_wp2_with fail
  refine KK.out.mono ?_
  rintro E w9 ⟨rfl, haw9⟩
  have HST : Hid (KsE w w9 ga gb gc (.slice none 0 0) (.slice none 0 0) 0) := ⟨va0, vb0, vc0, _, _, _, _, [], [], [], [], HST0.out.on haw9, Tk.nil _, by simp⟩
  clear haw9 HST0 KK
  go_wp2_with fail
  go_loopw [8, 9, 10] (fun ku wu i wr => ∃ (k : Nat), i = .int .i64 (k : Int) ∧ k ≤ 60 ∧ KsE w wr ga gb gc ku wu k) (fun _ _ i _ => 60 - (intOf i).toNat)
  case atStart => exact ⟨0, rfl, by omega, HST.out⟩
  case round =>
    clear HST
    obtain ⟨k, rfl, hk, va, vb, vc, m, mb, e, eb, K, U, P, T, hks, htk, hTk⟩ := hrel
    have HT := hidI hks
    have HK := hidI htk
    have hKl : K.length ≤ 240 := by rw [htk.k, List.length_map]; omega
    have hUl : U.length ≤ 240 := by rw [htk.u, List.length_map]; omega
    clear hks htk
    by_cases hlt : k < n ∧ k < 60
    · obtain ⟨hlt, hk2⟩ := hlt
      obtain ⟨x, hx⟩ : ∃ x, ws[k]? = some x := ⟨ws[k]'(by have := HN.out; omega), by simp⟩
      obtain ⟨b, off, rfl, hcs, hok⟩ := HR.out.at hx
      obtain ⟨po, pn, pm⟩ := x
      simp only at hcs hok
      have HC := hidI hcs
      have HOKb : Hid (I64 po ∧ I64 pn) := hok
      have j2 : 0 ≤ (k : Int) := by omega
      have j3 : (k : Int) < (n : Int) := by omega
      have j4 : ((k : Int)).toNat = k := by omega
      clear hx hcs hok
      have c0 := HT.out.aw.cell (by simp) HC.out.1
      have c1 := HT.out.aw.cell (by simp) HC.out.2.1
      have c2 := HT.out.aw.cell (by simp) HC.out.2.2
      have KP : Hid (∀ q, Calls Try.prog 10 #[.pointer (some ⟨ga, 0, none⟩), .int .i64 po, .int .i64 pn, .bool pm] (wr.drewN q) fun E w' => ∃ r ev, E = .returned (.tuple #[r, .int .i64 ev]) ∧ PutQ (wr.drewN q) ga va m e po pn pm r ev w') := fun q => putQ_c po pn pm (HT.out.ha.on ((Away.refl _ _).drewN q)) HOKb.out.1 HOKb.out.2
      go_wp2_with fail
      have hbn : b ∉ fpH ga va := fun hc => by
        have h1 := HT.out.lo (fpH ga va) (by simp [areas]) b hc
        have e2 : b < w.heap.size := block_lt_of_cell HC.out.1
        omega
      go_region_held3 (fun w' => w'.cell? ⟨b, off + k * 3, none⟩ = some (.int .i64 po) ∧ w'.cell? ⟨b, off + k * 3 + 1, none⟩ = some (.int .i64 pn) ∧ w'.cell? ⟨b, off + k * 3 + 2, none⟩ = some (.bool pm)) (go_keep)
        (first | (go_at_call 10; refine (KP.out 1).mono ?_; rintro E y1 ⟨r, ev, rfl, hq⟩; have z0 := hq.aw.cell hbn c0; have z1 := hq.aw.cell hbn c1; have z2 := hq.aw.cell hbn c2))
      all_goals
        clear z0 z1 z2 c0 c1 c2 KP hbn
        obtain ⟨rfl, van, hks⟩ := (HT.out.on ((Away.refl [] wr).drewN 1)).qA hq
        have H1 := hidI hks
        clear hq hks
        obtain ⟨ra, rn, rc, re, hrl, hrn, -⟩ := sl_of (H1.out.own (r, stF m e po pn pm) (by simp)).1 (H1.out.own (r, stF m e po pn pm) (by simp)).2
        subst re
        have HLr := hidI hrl
        have HNr := hidI hrn
        clear hrl hrn
        have hcl : True := trivial
        clear HT
        by_cases hky : k < ny
        · obtain ⟨y, hy⟩ : ∃ y, ys[k]? = some y := ⟨ys[k]'(by have := HNY.out; omega), by simp⟩
          obtain ⟨b2, off2, rfl, hcs, hok⟩ := HRY.out.at hy
          obtain ⟨qo, qn, qm⟩ := y
          simp only at hcs hok
          have HD := hidI hcs
          have HOKb2 : Hid (I64 qo ∧ I64 qn) := hok
          have l3 : (k : Int) < (ny : Int) := by omega
          clear hy hcs hok
          have c0 := H1.out.aw.cell (by simp) HD.out.1
          have c1 := H1.out.aw.cell (by simp) HD.out.2.1
          have c2 := H1.out.aw.cell (by simp) HD.out.2.2
          have KP : Hid (∀ q, Calls Try.prog 10 #[.pointer (some ⟨gb, 0, none⟩), .int .i64 qo, .int .i64 qn, .bool qm] (y1.drewN q) fun E w' => ∃ r ev, E = .returned (.tuple #[r, .int .i64 ev]) ∧ PutQ (y1.drewN q) gb vb mb eb qo qn qm r ev w') := fun q => putQ_c qo qn qm (H1.out.hb.on ((Away.refl _ _).drewN q)) HOKb2.out.1 HOKb2.out.2
          go_wp2_with fail
          have hbn : b2 ∉ fpH gb vb := fun hc => by
            have h1 := H1.out.lo (fpH gb vb) (by simp [areas]) b2 hc
            have e2 : b2 < w.heap.size := block_lt_of_cell HD.out.1
            omega
          go_region_held3 (fun w' => w'.cell? ⟨b2, off2 + k * 3, none⟩ = some (.int .i64 qo) ∧ w'.cell? ⟨b2, off2 + k * 3 + 1, none⟩ = some (.int .i64 qn) ∧ w'.cell? ⟨b2, off2 + k * 3 + 2, none⟩ = some (.bool qm)) (go_keep)
            (first | (go_at_call 10; refine (KP.out 1).mono ?_; rintro E y2 ⟨s, ev, rfl, hq⟩; have z0 := hq.aw.cell hbn c0; have z1 := hq.aw.cell hbn c1; have z2 := hq.aw.cell hbn c2))
          all_goals
            clear z0 z1 z2 c0 c1 c2 KP hbn
            obtain ⟨rfl, vbn, hks⟩ := (H1.out.on ((Away.refl [] y1).drewN 1)).qB hq
            have H2 := hidI hks
            clear hq hks
            obtain ⟨sa, sn, sc, se, hrl, hrn, -⟩ := sl_of (H2.out.own (s, stF mb eb qo qn qm) (by simp)).1 (H2.out.own (s, stF mb eb qo qn qm) (by simp)).2
            subst se
            have HLs := hidI hrl
            have HNs := hidI hrn
            clear hrl hrn
            clear H1
            obtain ⟨W, hW⟩ : ∃ W, W = y2.alloc (.cells #[.slice sa sn sc] 27) := ⟨_, rfl⟩
            have AB : Hid (Away [] y2 W) := by show Away _ _ _; rw [hW]; exact (Away.refl _ _).alloc _
            go_wp2_with (at_builtin; refine wpList_appV rfl _ _ rfl _ K [.slice sa sn sc] rfl (by (first | rw [← hW] | skip); exact H2.out.kl.on AB.out) ⟨_, 0, none⟩ 1 1 rfl rfl (fun j u hu => by
                rcases j with _ | j
                · simp at hu; subst hu; simp [Addr.add]
                · simp at hu) (by simp [Value.oneCell']) (by simp; omega) ?_)
            intro ku2 y3 hlv haw hmv
            rw [← hW] at haw hmv
            have H3 := hidI ((H2.out.on AB.out).pushK (us := [.slice sa sn sc]) (by first | exact hlv | simpa using hlv) haw hmv)
            clear hlv haw hmv hW AB H2
            have HRW : Hid (Row y3 sa (stF mb eb qo qn qm)) := by
              obtain ⟨a', n', c', h1, -, -, h4⟩ := sl_of (H3.out.own (.slice sa sn sc, stF mb eb qo qn qm) (by simp)).1 (H3.out.own (.slice sa sn sc, stF mb eb qo qn qm) (by simp)).2
              simp only [Value.slice.injEq] at h1
              rw [← h1.1] at h4
              exact h4
            have HSN : Hid (sn ≤ 32768) := by show sn ≤ 32768; rw [← HLs.out]; exact right_short (H3.out.own (.slice sa sn sc, stF mb eb qo qn qm) (by simp)).2
            go_wp2_with (at_builtin; refine wpList_appL rfl _ _ rfl _ [] (stF mb eb qo qn qm) rfl (Lst.nil _) sa sn sc rfl HLs.out HNs.out (by exact HRW.out) (by have := HSN.out; simp; omega) ?_)
            intro u y4 hown hgr hmov
            have hnw : New y3.heap.size u := fun z hz => by
              rcases hmov z hz with h | h
              · simp [Value.ownBlock] at h
              · exact h
            have H4 := hidI (H3.out.more ((Away.refl [] _).grown hgr (fun z hz => by simp [Value.ownBlock] at hz)) (by exact hown) (H3.out.own (.slice sa sn sc, stF mb eb qo qn qm) (by simp)).2 hnw)
            clear hown hgr hmov hnw HRW HSN H3
            obtain ⟨ua, un, uc, ue, hrl, hrn, -⟩ := sl_of (H4.out.own (u, stF mb eb qo qn qm) (by simp)).1 (H4.out.own (u, stF mb eb qo qn qm) (by simp)).2
            subst ue
            have HLu := hidI hrl
            have HNu := hidI hrn
            clear hrl hrn
            obtain ⟨W, hW⟩ : ∃ W, W = y4.alloc (.cells #[.slice ua un uc] 27) := ⟨_, rfl⟩
            have AB : Hid (Away [] y4 W) := by show Away _ _ _; rw [hW]; exact (Away.refl _ _).alloc _
            go_wp2_with (at_builtin; refine wpList_appV rfl _ _ rfl _ U [.slice ua un uc] rfl (by (first | rw [← hW] | skip); exact H4.out.wl.on AB.out) ⟨_, 0, none⟩ 1 1 rfl rfl (fun j u hu => by
                rcases j with _ | j
                · simp at hu; subst hu; simp [Addr.add]
                · simp at hu) (by simp [Value.oneCell']) (by simp; omega) ?_)
            intro wu2 y5 hlv haw hmv
            rw [← hW] at haw hmv
            have H5 := hidI ((H4.out.on AB.out).pushU (us := [.slice ua un uc]) (by first | exact hlv | simpa using hlv) haw hmv)
            clear hlv haw hmv hW AB H4
            have c0 := H5.out.aw.cell (by simp) HC.out.1
            have c1 := H5.out.aw.cell (by simp) HC.out.2.1
            have c2 := H5.out.aw.cell (by simp) HC.out.2.2
            have KP : Hid (∀ q, Calls Try.prog 10 #[.pointer (some ⟨gc, 0, none⟩), .int .i64 po, .int .i64 pn, .bool pm] (y5.drewN q) fun E w' => ∃ r ev, E = .returned (.tuple #[r, .int .i64 ev]) ∧ PutQ (y5.drewN q) gc vc m e po pn pm r ev w') := fun q => putQ_c po pn pm (H5.out.hc.on ((Away.refl _ _).drewN q)) HOKb.out.1 HOKb.out.2
            go_wp2_with fail
            have hbn : b ∉ fpH gc vc := fun hc => by
              have h1 := H5.out.lo (fpH gc vc) (by simp [areas]) b hc
              have e2 : b < w.heap.size := block_lt_of_cell HC.out.1
              omega
            go_region_held3 (fun w' => w'.cell? ⟨b, off + k * 3, none⟩ = some (.int .i64 po) ∧ w'.cell? ⟨b, off + k * 3 + 1, none⟩ = some (.int .i64 pn) ∧ w'.cell? ⟨b, off + k * 3 + 2, none⟩ = some (.bool pm)) (go_keep)
              (first | (go_at_call 10; refine (KP.out 1).mono ?_; rintro E y6 ⟨t, ev, rfl, hq⟩; have z0 := hq.aw.cell hbn c0; have z1 := hq.aw.cell hbn c1; have z2 := hq.aw.cell hbn c2))
            all_goals
              clear z0 z1 z2 c0 c1 c2 KP hbn
              obtain ⟨rfl, vcn, hks⟩ := (H5.out.on ((Away.refl [] y5).drewN 1)).qC hq
              have H6 := hidI hks
              clear hq hks
              obtain ⟨ta, tn, tc, te, hrl, hrn, -⟩ := sl_of (H6.out.own (t, stF m e po pn pm) (by simp)).1 (H6.out.own (t, stF m e po pn pm) (by simp)).2
              subst te
              have HLt := hidI hrl
              have HNt := hidI hrn
              clear hrl hrn
              clear H5
              have K1 := hidI (same_yes (H6.out.own (.slice ra rn rc, stF m e po pn pm) (by simp)).1 (H6.out.own (.slice ta tn tc, stF m e po pn pm) (by simp)).1 (fun s hs => is_ok (right_is (H6.out.own (.slice ta tn tc, stF m e po pn pm) (by simp)).2 s hs)) (Nat.le_trans (right_short (H6.out.own (.slice ta tn tc, stF m e po pn pm) (by simp)).2) (by omega)))
              go_wp2_with fail
              refine K1.out.mono ?_
              rintro E y7 ⟨rfl, q7, h7⟩
              have H7 : Hid (_) := hidI (H6.out.on (w' := y7) (by rw [h7]; exact (Away.refl _ _).drewN _))
              clear h7 H6 K1
              have K1 := hidI (holes_c H7.out.ha)
              go_wp2_with fail
              refine K1.out.mono ?_
              rintro E y8 ⟨hx1, rfl, hmk⟩
              have LX := hidI hmk.1
              have H8 := hidI (H7.out.on hmk.2.2)
              clear hmk H7 K1
              have K1 := hidI (holes_c H8.out.hc)
              go_wp2_with fail
              refine K1.out.mono ?_
              rintro E y9 ⟨hx2, rfl, hmk⟩
              have LY := hidI hmk.1
              replace LX := hidI (LX.out.on hmk.2.2)
              have H9 := hidI (H8.out.on hmk.2.2)
              clear hmk H8 K1
              have K1 := hidI (same_yes LX.out LY.out (fun s hs => is_ok (right_is H9.out.ha.right s hs)) (by have := right_short H9.out.ha.right; omega))
              clear LX LY
              go_wp2_with fail
              refine K1.out.mono ?_
              rintro E y10 ⟨rfl, q10, h10⟩
              have H10 := hidI (H9.out.on (w' := y10) (by rw [h10]; exact (Away.refl _ _).drewN _))
              clear h10 H9 K1
              have K1 := hidI (holes_c H10.out.ha)
              go_wp2_with fail
              refine K1.out.mono ?_
              rintro E y11 ⟨ph, rfl, hmk⟩
              have H11 := hidI (H10.out.more hmk.2.2 hmk.1 H10.out.ha.right hmk.2.1)
              clear hmk H10 K1
              obtain ⟨pha, phn, phc, phe, hrl, hrn, -⟩ := sl_of (H11.out.own (ph, stM m e po pn pm) (by simp)).1 (H11.out.own (ph, stM m e po pn pm) (by simp)).2
              subst phe
              have HLph := hidI hrl
              have HNph := hidI hrn
              clear hrl hrn
              have K1 := hidI (holes_c H11.out.ha)
              go_wp2_with fail
              refine K1.out.mono ?_
              rintro E y12 ⟨qh, rfl, hmk⟩
              have H12 := hidI (H11.out.more hmk.2.2 hmk.1 H11.out.ha.right hmk.2.1)
              clear hmk H11 K1
              obtain ⟨qha, qhn, qhc, qhe, hrl, hrn, -⟩ := sl_of (H12.out.own (qh, stM m e po pn pm) (by simp)).1 (H12.out.own (qh, stM m e po pn pm) (by simp)).2
              subst qhe
              have HLqh := hidI hrl
              have HNqh := hidI hrn
              clear hrl hrn
              obtain ⟨W, hW⟩ : ∃ W, W = y12.alloc (.cells #[.slice ra rn rc, .slice pha phn phc, .slice qha qhn qhc] 27) := ⟨_, rfl⟩
              have AB : Hid (Away [] y12 W) := by show Away _ _ _; rw [hW]; exact (Away.refl _ _).alloc _
              go_wp2_with (at_builtin; refine wpList_appV rfl _ _ rfl _ (K ++ [.slice sa sn sc]) [.slice ra rn rc, .slice pha phn phc, .slice qha qhn qhc] rfl (by (first | rw [← hW] | skip); exact H12.out.kl.on AB.out) ⟨_, 0, none⟩ 3 3 rfl rfl (fun j u hu => by
                  rcases j with _ | _ | _ | j
                  · simp at hu; subst hu; simp [Addr.add]
                  · simp at hu; subst hu; simp [Addr.add]
                  · simp at hu; subst hu; simp [Addr.add]
                  · simp at hu) (by simp [Value.oneCell']) (by simp; omega) ?_)
              intro ku3 y13 hlv haw hmv
              rw [← hW] at haw hmv
              have H13 := hidI ((H12.out.on AB.out).pushK (us := [.slice ra rn rc, .slice pha phn phc, .slice qha qhn qhc]) (by first | exact hlv | simpa using hlv) haw hmv)
              clear hlv haw hmv hW AB H12
              have K1 := hidI (holes_c H13.out.hc)
              go_wp2_with fail
              refine K1.out.mono ?_
              rintro E y14 ⟨gh, rfl, hmk⟩
              have H14 := hidI (H13.out.more hmk.2.2 hmk.1 H13.out.hc.right hmk.2.1)
              clear hmk H13 K1
              obtain ⟨gha, ghn, ghc, ghe, hrl, hrn, -⟩ := sl_of (H14.out.own (gh, stM m e po pn pm) (by simp)).1 (H14.out.own (gh, stM m e po pn pm) (by simp)).2
              subst ghe
              have HLgh := hidI hrl
              have HNgh := hidI hrn
              clear hrl hrn
              have K1 := hidI (holes_c H14.out.hc)
              go_wp2_with fail
              refine K1.out.mono ?_
              rintro E y15 ⟨hh, rfl, hmk⟩
              have H15 := hidI (H14.out.more hmk.2.2 hmk.1 H14.out.hc.right hmk.2.1)
              clear hmk H14 K1
              obtain ⟨hha, hhn, hhc, hhe, hrl, hrn, -⟩ := sl_of (H15.out.own (hh, stM m e po pn pm) (by simp)).1 (H15.out.own (hh, stM m e po pn pm) (by simp)).2
              subst hhe
              have HLhh := hidI hrl
              have HNhh := hidI hrn
              clear hrl hrn
              obtain ⟨W, hW⟩ : ∃ W, W = y15.alloc (.cells #[.slice ta tn tc, .slice gha ghn ghc, .slice hha hhn hhc] 27) := ⟨_, rfl⟩
              have AB : Hid (Away [] y15 W) := by show Away _ _ _; rw [hW]; exact (Away.refl _ _).alloc _
              go_wp2_with (at_builtin; refine wpList_appV rfl _ _ rfl _ (U ++ [.slice ua un uc]) [.slice ta tn tc, .slice gha ghn ghc, .slice hha hhn hhc] rfl (by (first | rw [← hW] | skip); exact H15.out.wl.on AB.out) ⟨_, 0, none⟩ 3 3 rfl rfl (fun j u hu => by
                  rcases j with _ | _ | _ | j
                  · simp at hu; subst hu; simp [Addr.add]
                  · simp at hu; subst hu; simp [Addr.add]
                  · simp at hu; subst hu; simp [Addr.add]
                  · simp at hu) (by simp [Value.oneCell']) (by simp; omega) ?_)
              intro wu3 y16 hlv haw hmv
              rw [← hW] at haw hmv
              have H16 := hidI ((H15.out.on AB.out).pushU (us := [.slice ta tn tc, .slice gha ghn ghc, .slice hha hhn hhc]) (by first | exact hlv | simpa using hlv) haw hmv)
              clear hlv haw hmv hW AB H15
              have HFIN : Hid (KsE w y16 ga gb gc ku3 wu3 (k + 1)) := by
                refine ⟨_, _, _, _, _, _, _, _, _, _, T ++ [⟨stF mb eb qo qn qm, .slice sa sn sc, .slice ua un uc⟩, ⟨stF m e po pn pm, .slice ra rn rc, .slice ta tn tc⟩, ⟨stM m e po pn pm, .slice pha phn phc, .slice gha ghn ghc⟩, ⟨stM m e po pn pm, .slice qha qhn qhc, .slice hha hhn hhc⟩], H16.out, ?_, by simp; omega⟩
                refine Tk.to (HK.out.adds [⟨stF mb eb qo qn qm, .slice sa sn sc, .slice ua un uc⟩, ⟨stF m e po pn pm, .slice ra rn rc, .slice ta tn tc⟩, ⟨stM m e po pn pm, .slice pha phn phc, .slice gha ghn ghc⟩, ⟨stM m e po pn pm, .slice qha qhn qhc, .slice hha hhn hhc⟩] (M := [(.slice qha qhn qhc, stM m e po pn pm), (.slice pha phn phc, stM m e po pn pm), (.slice sa sn sc, stF mb eb qo qn qm), (.slice ra rn rc, stF m e po pn pm)]) (perm4 _ _ _ _) ?_ ?_) (by simp) (by simp)
                · repeat (first | exact List.Sublist.refl _ | refine List.Sublist.cons_cons _ ?_ | refine List.Sublist.cons _ ?_)
                · simp
              clear H16
              go_wp2_with fail
              go_roundw
              case rel => exact ⟨k + 1, by go_num, by omega, HFIN.out⟩
              case measure => simp [intOf]; omega
        · have hky2 : ¬ ((k : Int) < (ny : Int)) := by omega
          have c0 := H1.out.aw.cell (by simp) HC.out.1
          have c1 := H1.out.aw.cell (by simp) HC.out.2.1
          have c2 := H1.out.aw.cell (by simp) HC.out.2.2
          have KP : Hid (∀ q, Calls Try.prog 10 #[.pointer (some ⟨gc, 0, none⟩), .int .i64 po, .int .i64 pn, .bool pm] (y1.drewN q) fun E w' => ∃ r ev, E = .returned (.tuple #[r, .int .i64 ev]) ∧ PutQ (y1.drewN q) gc vc m e po pn pm r ev w') := fun q => putQ_c po pn pm (H1.out.hc.on ((Away.refl _ _).drewN q)) HOKb.out.1 HOKb.out.2
          go_wp2_with fail
          have hbn : b ∉ fpH gc vc := fun hc => by
            have h1 := H1.out.lo (fpH gc vc) (by simp [areas]) b hc
            have e2 : b < w.heap.size := block_lt_of_cell HC.out.1
            omega
          go_region_held3 (fun w' => w'.cell? ⟨b, off + k * 3, none⟩ = some (.int .i64 po) ∧ w'.cell? ⟨b, off + k * 3 + 1, none⟩ = some (.int .i64 pn) ∧ w'.cell? ⟨b, off + k * 3 + 2, none⟩ = some (.bool pm)) (go_keep)
            (first | (go_at_call 10; refine (KP.out 1).mono ?_; rintro E y6 ⟨t, ev, rfl, hq⟩; have z0 := hq.aw.cell hbn c0; have z1 := hq.aw.cell hbn c1; have z2 := hq.aw.cell hbn c2))
          all_goals
            clear z0 z1 z2 c0 c1 c2 KP hbn
            obtain ⟨rfl, vcn, hks⟩ := (H1.out.on ((Away.refl [] y1).drewN 1)).qC hq
            have H6 := hidI hks
            clear hq hks
            obtain ⟨ta, tn, tc, te, hrl, hrn, -⟩ := sl_of (H6.out.own (t, stF m e po pn pm) (by simp)).1 (H6.out.own (t, stF m e po pn pm) (by simp)).2
            subst te
            have HLt := hidI hrl
            have HNt := hidI hrn
            clear hrl hrn
            clear H1
            have K1 := hidI (same_yes (H6.out.own (.slice ra rn rc, stF m e po pn pm) (by simp)).1 (H6.out.own (.slice ta tn tc, stF m e po pn pm) (by simp)).1 (fun s hs => is_ok (right_is (H6.out.own (.slice ta tn tc, stF m e po pn pm) (by simp)).2 s hs)) (Nat.le_trans (right_short (H6.out.own (.slice ta tn tc, stF m e po pn pm) (by simp)).2) (by omega)))
            go_wp2_with fail
            refine K1.out.mono ?_
            rintro E y7 ⟨rfl, q7, h7⟩
            have H7 : Hid (_) := hidI (H6.out.on (w' := y7) (by rw [h7]; exact (Away.refl _ _).drewN _))
            clear h7 H6 K1
            have K1 := hidI (holes_c H7.out.ha)
            go_wp2_with fail
            refine K1.out.mono ?_
            rintro E y8 ⟨hx1, rfl, hmk⟩
            have LX := hidI hmk.1
            have H8 := hidI (H7.out.on hmk.2.2)
            clear hmk H7 K1
            have K1 := hidI (holes_c H8.out.hc)
            go_wp2_with fail
            refine K1.out.mono ?_
            rintro E y9 ⟨hx2, rfl, hmk⟩
            have LY := hidI hmk.1
            replace LX := hidI (LX.out.on hmk.2.2)
            have H9 := hidI (H8.out.on hmk.2.2)
            clear hmk H8 K1
            have K1 := hidI (same_yes LX.out LY.out (fun s hs => is_ok (right_is H9.out.ha.right s hs)) (by have := right_short H9.out.ha.right; omega))
            clear LX LY
            go_wp2_with fail
            refine K1.out.mono ?_
            rintro E y10 ⟨rfl, q10, h10⟩
            have H10 := hidI (H9.out.on (w' := y10) (by rw [h10]; exact (Away.refl _ _).drewN _))
            clear h10 H9 K1
            have K1 := hidI (holes_c H10.out.ha)
            go_wp2_with fail
            refine K1.out.mono ?_
            rintro E y11 ⟨ph, rfl, hmk⟩
            have H11 := hidI (H10.out.more hmk.2.2 hmk.1 H10.out.ha.right hmk.2.1)
            clear hmk H10 K1
            obtain ⟨pha, phn, phc, phe, hrl, hrn, -⟩ := sl_of (H11.out.own (ph, stM m e po pn pm) (by simp)).1 (H11.out.own (ph, stM m e po pn pm) (by simp)).2
            subst phe
            have HLph := hidI hrl
            have HNph := hidI hrn
            clear hrl hrn
            have K1 := hidI (holes_c H11.out.ha)
            go_wp2_with fail
            refine K1.out.mono ?_
            rintro E y12 ⟨qh, rfl, hmk⟩
            have H12 := hidI (H11.out.more hmk.2.2 hmk.1 H11.out.ha.right hmk.2.1)
            clear hmk H11 K1
            obtain ⟨qha, qhn, qhc, qhe, hrl, hrn, -⟩ := sl_of (H12.out.own (qh, stM m e po pn pm) (by simp)).1 (H12.out.own (qh, stM m e po pn pm) (by simp)).2
            subst qhe
            have HLqh := hidI hrl
            have HNqh := hidI hrn
            clear hrl hrn
            obtain ⟨W, hW⟩ : ∃ W, W = y12.alloc (.cells #[.slice ra rn rc, .slice pha phn phc, .slice qha qhn qhc] 27) := ⟨_, rfl⟩
            have AB : Hid (Away [] y12 W) := by show Away _ _ _; rw [hW]; exact (Away.refl _ _).alloc _
            go_wp2_with (at_builtin; refine wpList_appV rfl _ _ rfl _ K [.slice ra rn rc, .slice pha phn phc, .slice qha qhn qhc] rfl (by (first | rw [← hW] | skip); exact H12.out.kl.on AB.out) ⟨_, 0, none⟩ 3 3 rfl rfl (fun j u hu => by
                rcases j with _ | _ | _ | j
                · simp at hu; subst hu; simp [Addr.add]
                · simp at hu; subst hu; simp [Addr.add]
                · simp at hu; subst hu; simp [Addr.add]
                · simp at hu) (by simp [Value.oneCell']) (by simp; omega) ?_)
            intro ku3 y13 hlv haw hmv
            rw [← hW] at haw hmv
            have H13 := hidI ((H12.out.on AB.out).pushK (us := [.slice ra rn rc, .slice pha phn phc, .slice qha qhn qhc]) (by first | exact hlv | simpa using hlv) haw hmv)
            clear hlv haw hmv hW AB H12
            have K1 := hidI (holes_c H13.out.hc)
            go_wp2_with fail
            refine K1.out.mono ?_
            rintro E y14 ⟨gh, rfl, hmk⟩
            have H14 := hidI (H13.out.more hmk.2.2 hmk.1 H13.out.hc.right hmk.2.1)
            clear hmk H13 K1
            obtain ⟨gha, ghn, ghc, ghe, hrl, hrn, -⟩ := sl_of (H14.out.own (gh, stM m e po pn pm) (by simp)).1 (H14.out.own (gh, stM m e po pn pm) (by simp)).2
            subst ghe
            have HLgh := hidI hrl
            have HNgh := hidI hrn
            clear hrl hrn
            have K1 := hidI (holes_c H14.out.hc)
            go_wp2_with fail
            refine K1.out.mono ?_
            rintro E y15 ⟨hh, rfl, hmk⟩
            have H15 := hidI (H14.out.more hmk.2.2 hmk.1 H14.out.hc.right hmk.2.1)
            clear hmk H14 K1
            obtain ⟨hha, hhn, hhc, hhe, hrl, hrn, -⟩ := sl_of (H15.out.own (hh, stM m e po pn pm) (by simp)).1 (H15.out.own (hh, stM m e po pn pm) (by simp)).2
            subst hhe
            have HLhh := hidI hrl
            have HNhh := hidI hrn
            clear hrl hrn
            obtain ⟨W, hW⟩ : ∃ W, W = y15.alloc (.cells #[.slice ta tn tc, .slice gha ghn ghc, .slice hha hhn hhc] 27) := ⟨_, rfl⟩
            have AB : Hid (Away [] y15 W) := by show Away _ _ _; rw [hW]; exact (Away.refl _ _).alloc _
            go_wp2_with (at_builtin; refine wpList_appV rfl _ _ rfl _ U [.slice ta tn tc, .slice gha ghn ghc, .slice hha hhn hhc] rfl (by (first | rw [← hW] | skip); exact H15.out.wl.on AB.out) ⟨_, 0, none⟩ 3 3 rfl rfl (fun j u hu => by
                rcases j with _ | _ | _ | j
                · simp at hu; subst hu; simp [Addr.add]
                · simp at hu; subst hu; simp [Addr.add]
                · simp at hu; subst hu; simp [Addr.add]
                · simp at hu) (by simp [Value.oneCell']) (by simp; omega) ?_)
            intro wu3 y16 hlv haw hmv
            rw [← hW] at haw hmv
            have H16 := hidI ((H15.out.on AB.out).pushU (us := [.slice ta tn tc, .slice gha ghn ghc, .slice hha hhn hhc]) (by first | exact hlv | simpa using hlv) haw hmv)
            clear hlv haw hmv hW AB H15
            have HFIN : Hid (KsE w y16 ga gb gc ku3 wu3 (k + 1)) := by
              refine ⟨_, _, _, _, _, _, _, _, _, _, T ++ [⟨stF m e po pn pm, .slice ra rn rc, .slice ta tn tc⟩, ⟨stM m e po pn pm, .slice pha phn phc, .slice gha ghn ghc⟩, ⟨stM m e po pn pm, .slice qha qhn qhc, .slice hha hhn hhc⟩], H16.out, ?_, by simp; omega⟩
              refine Tk.to (HK.out.adds [⟨stF m e po pn pm, .slice ra rn rc, .slice ta tn tc⟩, ⟨stM m e po pn pm, .slice pha phn phc, .slice gha ghn ghc⟩, ⟨stM m e po pn pm, .slice qha qhn qhc, .slice hha hhn hhc⟩] (M := [(.slice qha qhn qhc, stM m e po pn pm), (.slice pha phn phc, stM m e po pn pm), (.slice ra rn rc, stF m e po pn pm)]) (perm3 _ _ _) ?_ ?_) (by simp) (by simp)
              · repeat (first | exact List.Sublist.refl _ | refine List.Sublist.cons_cons _ ?_ | refine List.Sublist.cons _ ?_)
              · simp
            clear H16
            go_wp2_with fail
            go_roundw
            case rel => exact ⟨k + 1, by go_num, by omega, HFIN.out⟩
            case measure => simp [intOf]; omega
    · have hT2 : T.length ≤ 1000 := by omega
      have KM := hidI (marked_c wr u8 u9 T (HK.out.bag HT.out) hT2)
      by_cases hkn : k < n
      · have hk2 : ¬ ((k : Int) < 60) := by omega
        go_wp2_with fail
        refine KM.out.mono ?_
        rintro E y1 ⟨rfl, haw⟩
        obtain ⟨f1, f2, f3⟩ := HT.out.marked HK.out haw
        have HHa := hidI f1
        have HHb := hidI f2
        have HAW := hidI f3
        clear f1 f2 f3 haw KM HT HK
        have K1 := hidI (holes_c HHa.out)
        go_wp2_with fail
        refine K1.out.mono ?_
        rintro E w2 ⟨x, rfl, hmk⟩
        have A2 := hidI hmk.2.2
        have LX := hidI hmk.1
        clear hmk
        have K2 := hidI (holes_c (HHb.out.on A2.out))
        go_wp2_with fail
        refine K2.out.mono ?_
        rintro E w3 ⟨y, rfl, hmk⟩
        have A3 := hidI hmk.2.2
        have LY := hidI hmk.1
        clear hmk
        have K3 := hidI (same_yes (LX.out.on A3.out) LY.out (fun s hs => is_ok (right_is HHa.out.right s hs)) (by have := right_short HHa.out.right; omega))
        go_wp2_with fail
        refine K3.out.mono ?_
        rintro E w4 ⟨rfl, q4, h4⟩
        have A4 : Hid (Away [] w3 w4) := by show Away _ _ _; rw [h4]; exact (Away.refl _ _).drewN _
        clear h4
        have K4 := hidI (end_c (HHa.out.on ((A2.out.trans A3.out).trans A4.out)))
        have K5 := hidI (end_c (HHb.out.on ((A2.out.trans A3.out).trans A4.out)))
        have AWF : Hid (Below w.heap.size w w4) := (((HAW.out.trans A2.out).trans A3.out).trans A4.out).to_below
        go_wp2_with fail
        refine K4.out.mono ?_
        rintro E w4 ⟨rfl, rfl⟩
        go_wp2_with fail
        refine K5.out.mono ?_
        rintro E w4 ⟨rfl, rfl⟩
        go_wp2_with fail
        go_ret
        exact ⟨by first | rfl | simp, AWF.out⟩
      · have hk3 : ¬ ((k : Int) < (n : Int)) := by omega
        go_wp2_with fail
        refine KM.out.mono ?_
        rintro E y1 ⟨rfl, haw⟩
        obtain ⟨f1, f2, f3⟩ := HT.out.marked HK.out haw
        have HHa := hidI f1
        have HHb := hidI f2
        have HAW := hidI f3
        clear f1 f2 f3 haw KM HT HK
        have K1 := hidI (holes_c HHa.out)
        go_wp2_with fail
        refine K1.out.mono ?_
        rintro E w2 ⟨x, rfl, hmk⟩
        have A2 := hidI hmk.2.2
        have LX := hidI hmk.1
        clear hmk
        have K2 := hidI (holes_c (HHb.out.on A2.out))
        go_wp2_with fail
        refine K2.out.mono ?_
        rintro E w3 ⟨y, rfl, hmk⟩
        have A3 := hidI hmk.2.2
        have LY := hidI hmk.1
        clear hmk
        have K3 := hidI (same_yes (LX.out.on A3.out) LY.out (fun s hs => is_ok (right_is HHa.out.right s hs)) (by have := right_short HHa.out.right; omega))
        go_wp2_with fail
        refine K3.out.mono ?_
        rintro E w4 ⟨rfl, q4, h4⟩
        have A4 : Hid (Away [] w3 w4) := by show Away _ _ _; rw [h4]; exact (Away.refl _ _).drewN _
        clear h4
        have K4 := hidI (end_c (HHa.out.on ((A2.out.trans A3.out).trans A4.out)))
        have K5 := hidI (end_c (HHb.out.on ((A2.out.trans A3.out).trans A4.out)))
        have AWF : Hid (Below w.heap.size w w4) := (((HAW.out.trans A2.out).trans A3.out).trans A4.out).to_below
        go_wp2_with fail
        refine K4.out.mono ?_
        rintro E w4 ⟨rfl, rfl⟩
        go_wp2_with fail
        refine K5.out.mono ?_
        rintro E w4 ⟨rfl, rfl⟩
        go_wp2_with fail
        go_ret
        exact ⟨by first | rfl | simp, AWF.out⟩
theorem lifted (os : Os) (started : os.Started) (H : Type) (enc : TypeId × Value → H) :
    ReturnsInHanded {} Try.checked os 4 .any (Rows.holesKeepsSpec.pre6 enc Try.prog Try.f4 Rows.holesKeepsRow.domain false) (Rows.holesKeepsSpec.post enc Try.prog Try.f4 false true false false) := by
  refine returnsInHanded_of_change_sized (C := Try.checked) ownKn started (by kernel_rfl) Try.func4
    (ChangeSpec.witness6 (enc := enc) (C := Try.checked) false ⟨#[], #[.slice none 0 0, .slice none 0 0], []⟩ 8 (by kernel_rfl) (by kernel_rfl) (by kernel_rfl) (by kernel_rfl)) ?_
  intro W base args ds gs before hval0 hW _ hsz0 _
  have hsz : (DataW.weightsEach Try.prog (Try.f4.params.toList ++ Rows.holesKeepsSpec.plain.varTypes Try.prog) (ds ++ gs)).all (· ≤ reachBytes) = true := hsz0
  clear hsz0
  have hval : ∀ (j : Nat) t v, Try.f4.params[j]? = some t → args[j]? = some v → Value.okWide Try.prog W .any base t v := hval0
  have hW' := hW
  obtain ⟨p, q, hA0, hV, rfl, hfz, hnd⟩ := hW
  have hA : DataW.TrodAll enc Try.prog W 0 (fun _ => true) true Try.f4.params.toList args.toList ds p := hA0
  rw [Try.params4] at hA hval hsz
  obtain ⟨v0, vs0, d0, ds0, p0, q0, hargs, rfl, rfl, h0, r0⟩ := trodAll_cons hA
  obtain ⟨v1, vs1, d1, ds1, p1, q1, rfl, rfl, rfl, h1, r1⟩ := trodAll_cons r0
  obtain ⟨rfl, rfl, rfl⟩ := trodAll_nil r1
  obtain rfl : args = #[v0, v1] := by cases args; simp_all
  have hV2 : DataW.TrodVars enc Try.prog W (fun _ => true) Rows.holesKeepsSpec.vars gs q := hV
  obtain ⟨rfl, rfl⟩ := trodVars_none hV2
  have k0 := h0
  have lt0 : ∀ x ∈ p0, x.block < W.heap.size := by obtain ⟨m, hm⟩ := k0; exact DataW.trod_lt m _ _ _ hm
  have z0 : ∀ m ∈ d0.weights Try.prog 22, m ≤ reachBytes := fun m hm => by
    have := List.all_eq_true.1 hsz m (DataW.weights_mem_each (j := 0) (t := 22) rfl rfl m hm)
    simpa using this
  obtain ⟨a0, len0, cap0, rfl⟩ := okWide_slice Try.underlying22 (hval 0 22 v0 rfl rfl)
  obtain ⟨l0, rfl, w0, u0, b0⟩ := open_script h0 z0 lt0
  have k1 := h1
  have lt1 : ∀ x ∈ p1, x.block < W.heap.size := by obtain ⟨m, hm⟩ := k1; exact DataW.trod_lt m _ _ _ hm
  have z1 : ∀ m ∈ d1.weights Try.prog 22, m ≤ reachBytes := fun m hm => by
    have := List.all_eq_true.1 hsz m (DataW.weights_mem_each (j := 1) (t := 22) rfl rfl m hm)
    simpa using this
  obtain ⟨a1, len1, cap1, rfl⟩ := okWide_slice Try.underlying22 (hval 1 22 v1 rfl rfl)
  obtain ⟨l1, rfl, w1, u1, b1⟩ := open_script h1 z1 lt1
  clear hA0 hval0
  refine (walk a0 l0 cap0 a1 l1 cap1 W w0 b0 w1 b1).mono fun e W' ⟨he, bel⟩ => ?_
  subst he
  exact ⟨_, rfl, _, _, _, [], _, [], hW', trodAll_mk1 (shut_bool Try.underlying4 _), (trodAll_cons_mk (Below.trod laidOut (by kernel_rfl) (of_decide_eq_true (by kernel_rfl)) k0 bel lt0) (trodAll_cons_mk (Below.trod laidOut (by kernel_rfl) (of_decide_eq_true (by kernel_rfl)) k1 bel lt1) trodAll_mk0)), rfl, bel.frame _, fun h => by cases h⟩
theorem over : Rows.holesKeepsRow.holds Try.pinned (OpenSpec.ofChange Rows.holesKeepsSpec) :=
  OpenClaim.holds_of_wide 4 Try.f4 rfl rfl rfl rfl rfl rfl rfl ⟨rfl, rfl, rfl, rfl, rfl⟩ rfl rfl rfl rfl rfl (by kernel_rfl) Try.func4 (by kernel_rfl)
    (of_decide_eq_true (by kernel_rfl)) (by unfold Func.isWrapper; first | (rw [if_pos (by decide +kernel)]; kernel_rfl) | (rw [if_neg (by decide +kernel)]; exact ⟨rfl, rfl⟩))
    (fun os started H enc _ => lifted os started H enc)
end holesKeeps
theorem holesKeeps_holds : Rows.HolesKeepsSaid := holesKeeps.over
#print axioms holesKeeps_holds
end Go.Proofs.Ytcjkhpinccjncaa
