/-
  IcmpBuilds: every Build is the document's; the body stays, its spare room too.
-/
import Derived.Test.YtbgpjhekohabiaaLm
import Derived.Test.YtbgpjhekohabiaaMend
import Derived.Test.YtbgpjhekohabiaaRefBm
import Derived.Test.YtbgpjhekohabiaaKit
import Derived.Deep.CondSized
namespace Go.Proofs.Ytbgpjhekohabiaa
open Go.ChangeShapes Go.WideShapes Go.ChangeAt Go.RowKit Go.Deep Num
set_option linter.unusedVariables false
set_option maxHeartbeats 8000000
set_option maxRecDepth 100000

theorem step_appW {ops : Array Oper} {o : Oper} {a : Act} {w : World} {K : Act → World → Prop} {Q : Exit → Act → World → Prop} {E : Prop} (hw : Region.wanted o (yielded ops a.tmps) = true) (s x : Operand)
    (hop : o.op = .call { callee := .builtin .append, args := #[s, x], argTypes := #[26, 26] }) (v : Value) (l m : List Int) (hs : a.eval s = v) (hown : Owns w v l)
    (ad : Addr) (n c : Nat) (hx : a.eval x = .slice (some ad) n c) (hn : m.length = n) (hm : ∀ j u, (m.map (Value.int .u8))[j]? = some u → w.cell? (ad.add j) = some u) (hlen : l.length + n ≤ 140737488355328)
    (hK : ∀ v' w', Owns w' v' (l ++ m) → w.grownBy w' v.ownBlock → Moved w v v' → K (a.put o.dst v') w') :
    if Region.wanted o (yielded ops a.tmps) = true then Oper.wp Try.prog o a w K Q else E := by
  rw [if_pos hw]
  obtain ⟨v', w', hrun, r1, r2, r3⟩ := run_appB o.type w v l m hown ad n c hn hm hlen
  unfold Oper.wp
  simp [execOp, hop, resolve, invoke, builtin, hs, hx, hrun, Result.andThen]
  exact hK v' w' r1 r2 r3
/-- The two marks. -/
def mk2 : List Int := [165, 166]
theorem mk2_bytes : Bytes mk2 := (Bytes.nil.cons (by omega) (by omega)).cons (by omega) (by omega)
theorem Owns.front {w : World} {g n c : Nat} {l : List Int} (h : Owns w (.slice (some ⟨g, 0, none⟩) n c) (l ++ mk2)) (hn : n = l.length + 2) (hb : Bytes l) (hl : l.length + 2 ≤ 140737488355328) (hc : n ≤ c) : Sl w (.slice (some ⟨g, 0, none⟩) l.length c) l := by
  have hr := h.row' (by simp [mk2]; omega) (hb.app mk2_bytes)
  have := hr.head l.length
  rw [List.take_left] at this
  exact ⟨_, _, rfl, by omega, by simp, this⟩
theorem mbuild_bd {s t : Ax} {m : Mg} (hs : WfA s) (ht : WfA t) (hw : WfM m) : Bytes (mbuildP s t m).1 ∧ (mbuildP s t m).1.length ≤ 65535 := by
  by_cases h : (mbuildP s t m).2 = 0
  · obtain ⟨h1, h2, h3⟩ := mbuild_fit hw h
    have h4 := most_bd s.v
    have h5 := h2.n
    rw [h3]
    exact ⟨mlay_bytes hs ht h2, by rw [mlay_len]; omega⟩
  · have : (mbuildP s t m).1 = [] := by
      unfold mbuildP at h ⊢
      split
      · rename_i h1
        rw [if_pos h1] at h
        split
        · rename_i h2; rw [if_pos h2] at h; simp at h
        · rfl
      · rfl
    rw [this]
    exact ⟨Bytes.nil, by simp⟩
theorem full_sl {w : World} {g c : Nat} {l : List Int} (h : Owns w (.slice (some ⟨g, 0, none⟩) (l.length + 2) c) (l ++ mk2)) (hb : Bytes l) (hl : l.length + 2 ≤ 140737488355328) (hc : l.length + 2 ≤ c) : Sl w (.slice (some ⟨g, 0, none⟩) (l.length + 2) c) (l ++ mk2) := by
  have hn : (l ++ mk2).length = l.length + 2 := by simp [mk2]
  exact ⟨_, _, by rw [hn], by omega, by simp, h.row' (by omega) (hb.app mk2_bytes)⟩
namespace icmpBuilds
theorem walk (s t : Ax) (m : Mg) (mv : Value) (W : World) (hs : WfA s) (ht : WfA t) (hm : Dam W m mv) (hml : m.d.length ≤ 140737488351232) :
    Calls Try.prog 5 #[.agg (csA s.v s.l), .agg (csA t.v t.l), .agg (csM m mv)] W fun e W' => e = .returned (.bool true) ∧ Below W.heap.size W W' := by
  have HS := Lib.hid hs; have HT := Lib.hid ht
  have HM := Lib.hid hm
  have HA : Hid (Away [] W W) := Away.refl _ _
  have hmb := mbuild_bd hs ht hm.wf
  obtain ⟨r1, hr1⟩ : ∃ r, r = (mbuildP s t m).1 := ⟨_, rfl⟩
  obtain ⟨r2, hr2⟩ : ∃ r, r = (mbuildP s t m).2 := ⟨_, rfl⟩
  have HBE : Hid (mbuildP s t m = (r1, r2)) := by rw [hr1, hr2]; rfl
  rw [← hr1] at hmb
  have HRB := Lib.hid hmb
  have hr65 := hmb.2
  have HMD := Lib.hid hm.wf.d
  obtain ⟨ma, mc, hmv, hm1, hm2, hm3⟩ := hm.d
  subst hmv
  have HR := Lib.hid hm3
  clear hs ht hm hmb hr1 hr2 hm3
  go_enter Try.func5, Try.ntmps5
  go_wp2_with (refine wpList_box24 rfl _ rfl s rfl ?_; refine Hid.out ?_)
  refine Lib.hid ?_
  intro g3 w1 hg_g3 hb haw
  replace HA := Lib.hid (HA.out.on haw)
  clear haw
  have H3 := Lib.hid hb
  have hl_g3 := hb.lt
  clear hb
  go_wp2_with (refine wpList_box24 rfl _ rfl t rfl ?_; refine Hid.out ?_)
  refine Lib.hid ?_
  intro g4 w2 hg_g4 hb haw
  replace HA := Lib.hid (HA.out.on haw)
  replace H3 := Lib.hid (H3.out.on haw)
  clear haw
  have H4 := Lib.hid hb
  have hl_g4 := hb.lt
  clear hb
  go_wp2_with (refine wpList_boxM rfl _ rfl m (.slice ma m.d.length mc) rfl ?_; refine Hid.out ?_)
  refine Lib.hid ?_
  intro g5 w3 hg_g5 hb haw
  replace HA := Lib.hid (HA.out.on haw)
  replace H3 := Lib.hid (H3.out.on haw)
  replace H4 := Lib.hid (H4.out.on haw)
  clear haw
  have H5 := Lib.hid hb
  have hl_g5 := hb.lt
  clear hb
  go_wp2_with fail
  refine (alive_c _).mono ?_
  rintro E w4 ⟨rfl, haw⟩
  replace HA := Lib.hid (HA.out.on haw)
  replace H3 := Lib.hid (H3.out.on haw)
  replace H4 := Lib.hid (H4.out.on haw)
  replace H5 := Lib.hid (H5.out.on haw)
  clear haw
  have c4 := H5.out.c4
  go_wp2_with fail
  refine (own_any ma m.d _ mc _ rfl (by exact HR.out.on HA.out)).mono ?_
  rintro E wo ⟨vo, rfl, hown, hnew, haw, -, -⟩
  have HOO := Lib.hid hown
  clear hown
  go_wp2_with (at_builtin; refine wpList_app rfl _ _ rfl _ m.d [165, 166] rfl (by exact HOO.out.away ((Away.refl [] _).alloc _) (by simp)) ⟨wo.heap.size, 0, none⟩ 2 2 rfl rfl (lit_cells _ [165, 166] _ rfl) (by omega) ?_; refine Hid.out ?_)
  refine Lib.hid ?_
  intro vf w5 hownf hgr hmov
  have hsw0 := haw.size
  have haw2 : Away [] w4 w5 := (haw.alloc _).grown hgr (fun k hk => .inr (hnew k hk))
  have hnf : New w4.heap.size vf := hnew.moved hmov (by simp; omega)
  clear hgr hmov hnew haw HOO
  have haw := haw2
  clear haw2
  replace HA := Lib.hid (HA.out.on haw)
  replace H3 := Lib.hid (H3.out.on haw)
  replace H4 := Lib.hid (H4.out.on haw)
  replace H5 := Lib.hid (H5.out.on haw)
  clear haw
  obtain ⟨gf, cf, rfl, hc_gf⟩ := hownf.block (by simp)
  have hg_gf := hnf gf rfl
  have hln : (m.d ++ [165, 166]).length = m.d.length + 2 := by simp
  rw [hln] at hc_gf
  have HF : Hid (Owns w5 (.slice (some ⟨gf, 0, none⟩) (m.d.length + 2) cf) (m.d ++ mk2)) := by rw [hln] at hownf; exact hownf
  have hl_gf := HF.out.lt gf rfl
  clear hownf hnf
  clear c4
  have hl3b := H3.out.lt; have hl4b := H4.out.lt; have hl5b := H5.out.lt
  go_wp2_with (first | (refine wpList_loadM rfl _ rfl g5 rfl m (.slice ma m.d.length mc) (by exact H5.out) ?_) | (refine wpList_newM rfl rfl rfl _ _ rfl m (.slice ma m.d.length mc) (fun _ => rfl) (fun _ => rfl) rfl ?_; refine Hid.out ?_))
  refine Lib.hid ?_
  intro g8 w6 hg_g8 hb haw
  replace HA := Lib.hid (HA.out.on haw)
  replace H3 := Lib.hid (H3.out.on haw)
  replace H4 := Lib.hid (H4.out.on haw)
  replace H5 := Lib.hid (H5.out.on haw)
  replace HF := Lib.hid (HF.out.on haw)
  clear haw
  have H8 := Lib.hid hb
  have hl_g8 := hb.lt
  clear hb
  have c4 := H5.out.c4; have d4 := H8.out.c4; have f4 := H8.out.free 4
  have s1 := slice_h (some ⟨gf, 0, none⟩) (m.d.length + 2) cf m.d.length (m.d.length : Int) rfl (by omega)
  have haw := away_put (w := w6) (g := g8) 4 (.slice (some ⟨gf, 0, none⟩) m.d.length cf)
  have h8 := H8.out.put 4 (.slice (some ⟨gf, 0, none⟩) m.d.length cf) (g' := m) (dv' := .slice (some ⟨gf, 0, none⟩) m.d.length cf) rfl
  replace HA := Lib.hid (HA.out.next haw (fun x hx => .inr (by simp at hx; omega)))
  replace H3 := Lib.hid (H3.out.away haw (by simp; omega))
  replace H4 := Lib.hid (H4.out.away haw (by simp; omega))
  replace H5 := Lib.hid (H5.out.away haw (by simp; omega))
  replace HF := Lib.hid (HF.out.away haw (fun k hk => by simp [Value.ownBlock] at hk; simp; omega))
  replace H8 := Lib.hid h8
  clear h8 haw
  try rw [hln]
  go_upto_region 6 with fail
  clear c4 d4 f4 s1
  generalize w6.setCell ⟨g8, 4, none⟩ (.slice (some ⟨gf, 0, none⟩) m.d.length cf) = w7 at *
  go_wp2_with (first | (refine wpList_loadX rfl _ rfl g3 rfl s (by exact H3.out) HS.out ?_) | (refine wpList_loadX rfl _ rfl g4 rfl t (by exact H4.out) HT.out ?_) | (refine wpList_loadM rfl _ rfl g8 rfl m _ (by exact H8.out) ?_))
  refine (build_c s t m _ _ HS.out HT.out ⟨HM.out.wf, by exact HF.out.front rfl HMD.out (by omega) hc_gf⟩).mono ?_
  rw [HBE.out]
  rintro E w8 ⟨bv, rfl, hown, hnew, haw⟩
  have hs_bv := haw.size
  replace HA := Lib.hid (HA.out.on haw)
  replace H3 := Lib.hid (H3.out.on haw)
  replace H4 := Lib.hid (H4.out.on haw)
  replace H5 := Lib.hid (H5.out.on haw)
  replace HF := Lib.hid (HF.out.on haw)
  replace H8 := Lib.hid (H8.out.on haw)
  clear haw
  have HBV := Lib.hid hown
  have hn_bv := Lib.hid hnew
  clear hown hnew
  go_wp2_with (first | (refine wpList_loadX rfl _ rfl g3 rfl s (by exact H3.out) HS.out ?_) | (refine wpList_loadX rfl _ rfl g4 rfl t (by exact H4.out) HT.out ?_) | (refine wpList_loadM rfl _ rfl g5 rfl m _ (by exact H5.out) ?_))
  refine (rbuild_c s t m _ _ HS.out HT.out ⟨HM.out.wf, by exact ⟨ma, mc, rfl, hm1, hm2, HR.out.on HA.out⟩⟩).mono ?_
  rw [HBE.out]
  rintro E w9 ⟨cv, rfl, hown, hnew, haw⟩
  have hs_cv := haw.size
  replace HA := Lib.hid (HA.out.on haw)
  replace H3 := Lib.hid (H3.out.on haw)
  replace H4 := Lib.hid (H4.out.on haw)
  replace H5 := Lib.hid (H5.out.on haw)
  replace HF := Lib.hid (HF.out.on haw)
  replace H8 := Lib.hid (H8.out.on haw)
  replace HBV := Lib.hid (HBV.out.on haw)
  clear haw
  have HCV := Lib.hid hown
  have hn_cv := Lib.hid hnew
  clear hown hnew
  obtain ⟨ba, bc, hbv, -, -⟩ := HBV.out.slc
  subst hbv
  obtain ⟨ca, cc, hcv, -, -⟩ := HCV.out.slc
  subst hcv
  have q1 : (r2 == r2) = true := by simp
  have q2 : (errP m == errP m) = true := by simp
  go_upto_region 8 with fail
  refine wp_region_held_drew (S := (fun w' => Away [] w9 w')) (by kernel_rfl) ((Away.refl [] w9).drew) (fun hHeld => ?_)
  generalize w9.drew = yq at *
  refine wpAnyH_take (i := 0) (v := ?_) (by simp only [List.getElem?_toArray, List.getElem?_cons_zero]; rfl) (by kernel_rfl) (by kernel_rfl) (by kernel_rfl) (by exact fun _ _ _ h => h) (Or.inl ⟨by rfl, ?_⟩) (by assumption) ?_
  rotate_left
  · intro wq hSw
    (try dsimp only at hSw)
    go_simp
    all_goals (with_reducible rfl)
  try simp only [Act.put, List.setIfInBounds_toArray, List.set_cons_zero, List.set_cons_succ]
  refine wpAnyH_take (i := 1) (v := ?_) (by simp only [List.getElem?_toArray, List.getElem?_cons_succ, List.getElem?_cons_zero]; rfl) (by kernel_rfl) (by kernel_rfl) (by kernel_rfl) (by exact fun _ _ _ h => h) (Or.inl ⟨by rfl, ?_⟩) (by assumption) ?_
  rotate_left
  · intro wq hSw
    (try dsimp only at hSw)
    go_simp
    all_goals (with_reducible rfl)
  try simp only [Act.put, List.setIfInBounds_toArray, List.set_cons_zero, List.set_cons_succ]
  refine wpAnyH_ready (rs := [2]) (by kernel_rfl) (by simp) ?_
  refine AllReadyH.cons (by simp only [List.getElem?_toArray, List.getElem?_cons_succ, List.getElem?_cons_zero]; rfl) (fun K hK => ?_) AllReadyH.nil
  go_simp
  refine (same_sl _ _ r1 _ (by exact (HBV.out.on hHeld).sl HRB.out.1 (by omega)) (by exact (HCV.out.on hHeld).sl HRB.out.1 (by omega))).mono ?_
  rintro E y1 ⟨rfl, hwe⟩
  subst hwe
  go_wp2_with fail
  refine hK.out _ _ hHeld (fun hHeld => ?_)
  clear hK K
  try simp only [Act.put, List.setIfInBounds_toArray, List.set_cons_zero, List.set_cons_succ]
  refine wpAnyH_take (i := 3) (v := ?_) (by simp only [List.getElem?_toArray, List.getElem?_cons_succ, List.getElem?_cons_zero]; rfl) (by kernel_rfl) (by kernel_rfl) (by kernel_rfl) (by exact fun _ _ _ h => h) (Or.inl ⟨by rfl, ?_⟩) (by assumption) ?_
  rotate_left
  · intro wq hSw
    (try dsimp only at hSw)
    go_simp
    all_goals (with_reducible rfl)
  try simp only [Act.put, List.setIfInBounds_toArray, List.set_cons_zero, List.set_cons_succ]
  refine wpAnyH_take (i := 4) (v := ?_) (by simp only [List.getElem?_toArray, List.getElem?_cons_succ, List.getElem?_cons_zero]; rfl) (by kernel_rfl) (by kernel_rfl) (by kernel_rfl) (by exact fun _ _ _ h => h) (Or.inl ⟨by rfl, ?_⟩) (by assumption) ?_
  rotate_left
  · intro wq hSw
    (try dsimp only at hSw)
    go_simp
    all_goals (with_reducible rfl)
  try simp only [Act.put, List.setIfInBounds_toArray, List.set_cons_zero, List.set_cons_succ]
  refine wpAnyH_take (i := 5) (v := ?_) (by simp only [List.getElem?_toArray, List.getElem?_cons_succ, List.getElem?_cons_zero]; rfl) (by kernel_rfl) (by kernel_rfl) (by kernel_rfl) (by exact fun _ _ _ h => h) (Or.inl ⟨by rfl, ?_⟩) (by assumption) ?_
  rotate_left
  · intro wq hSw
    (try dsimp only at hSw)
    go_simp
    all_goals (with_reducible rfl)
  try simp only [Act.put, List.setIfInBounds_toArray, List.set_cons_zero, List.set_cons_succ]
  refine wpAnyH_take (i := 6) (v := ?_) (by simp only [List.getElem?_toArray, List.getElem?_cons_succ, List.getElem?_cons_zero]; rfl) (by kernel_rfl) (by kernel_rfl) (by kernel_rfl) (by exact fun _ _ _ h => h) (Or.inl ⟨by rfl, ?_⟩) (by assumption) ?_
  rotate_left
  · intro wq hSw
    (try dsimp only at hSw)
    go_simp
    all_goals (with_reducible rfl)
  try simp only [Act.put, List.setIfInBounds_toArray, List.set_cons_zero, List.set_cons_succ]
  refine wpAnyH_take (i := 7) (v := ?_) (by simp only [List.getElem?_toArray, List.getElem?_cons_succ, List.getElem?_cons_zero]; rfl) (by kernel_rfl) (by kernel_rfl) (by kernel_rfl) (by exact fun _ _ _ h => h) (Or.inl ⟨by rfl, ?_⟩) (by assumption) ?_
  rotate_left
  · intro wq hSw
    (try dsimp only at hSw)
    go_simp
    all_goals (with_reducible rfl)
  try simp only [Act.put, List.setIfInBounds_toArray, List.set_cons_zero, List.set_cons_succ]
  refine wpAnyH_take (i := 8) (v := ?_) (by simp only [List.getElem?_toArray, List.getElem?_cons_succ, List.getElem?_cons_zero]; rfl) (by kernel_rfl) (by kernel_rfl) (by kernel_rfl) (by exact fun _ _ _ h => h) (Or.inl ⟨by rfl, ?_⟩) (by assumption) ?_
  rotate_left
  · intro wq hSw
    (try dsimp only at hSw)
    go_simp
    all_goals (with_reducible rfl)
  try simp only [Act.put, List.setIfInBounds_toArray, List.set_cons_zero, List.set_cons_succ]
  refine wpAnyH_take (i := 9) (v := ?_) (by simp only [List.getElem?_toArray, List.getElem?_cons_succ, List.getElem?_cons_zero]; rfl) (by kernel_rfl) (by kernel_rfl) (by kernel_rfl) (by exact fun _ _ _ h => h) (Or.inl ⟨by rfl, ?_⟩) (by assumption) ?_
  rotate_left
  · intro wq hSw
    (try dsimp only at hSw)
    go_simp
    all_goals (with_reducible rfl)
  try simp only [Act.put, List.setIfInBounds_toArray, List.set_cons_zero, List.set_cons_succ]
  refine wpAnyH_take (i := 10) (v := ?_) (by simp only [List.getElem?_toArray, List.getElem?_cons_succ, List.getElem?_cons_zero]; rfl) (by kernel_rfl) (by kernel_rfl) (by kernel_rfl) (by exact fun _ _ _ h => h) (Or.inl ⟨by rfl, ?_⟩) (by assumption) ?_
  rotate_left
  · intro wq hSw
    (try dsimp only at hSw)
    go_simp
    all_goals (with_reducible rfl)
  try simp only [Act.put, List.setIfInBounds_toArray, List.set_cons_zero, List.set_cons_succ]
  refine wpAnyH_take (i := 11) (by simp only [List.getElem?_toArray, List.getElem?_cons_succ, List.getElem?_cons_zero]; rfl) (by kernel_rfl) (by kernel_rfl) (by kernel_rfl) (by exact fun _ _ _ h => h) (yields_ld (ad := ⟨g5, 4, none⟩) (by rfl) _ rfl rfl (fun w' h => ldB (H5.out.on h).c4)) (by assumption) ?_
  try simp only [Act.put, List.setIfInBounds_toArray, List.set_cons_zero, List.set_cons_succ]
  refine wpAnyH_ready (rs := [12, 13]) (by kernel_rfl) (by simp) ?_
  refine AllReadyH.cons (by simp only [List.getElem?_toArray, List.getElem?_cons_succ, List.getElem?_cons_zero]; rfl) (fun K hK => ?_) (AllReadyH.cons (by simp only [List.getElem?_toArray, List.getElem?_cons_succ, List.getElem?_cons_zero]; rfl) (fun K hK => ?_) AllReadyH.nil)
  · go_simp
    refine (own_any ma m.d _ mc _ rfl (by exact (HR.out.on HA.out).on hHeld)).mono ?_
    rintro E y2 ⟨vo, rfl, hown, hnwo, haw, -, -⟩
    have hS := hHeld.on haw
    have hzo := hHeld.size
    clear haw
    go_wp2_with fail
    refine hK.out _ _ hS (fun hHeld => ?_)
    clear hK K
    try simp only [Act.put, List.setIfInBounds_toArray, List.set_cons_zero, List.set_cons_succ]
    refine wpAnyH_ready (rs := [13]) (by kernel_rfl) (by simp) ?_
    refine AllReadyH.cons (by simp only [List.getElem?_toArray, List.getElem?_cons_succ, List.getElem?_cons_zero]; rfl) (fun K hK => ?_) AllReadyH.nil
    have haw : Away [] y2 (y2.alloc (.cells (mk2.map (Value.int .u8)).toArray 5)) := (Away.refl [] y2).alloc _
    have hRL : Row (y2.alloc (.cells (mk2.map (Value.int .u8)).toArray 5)) (some ⟨y2.heap.size, 0, none⟩) mk2 := Row.lit y2 _ mk2_bytes (by decide)
    have hS := hHeld.on haw
    replace hown := hown.on haw
    obtain ⟨gl, hgl⟩ : ∃ gl, gl = y2.heap.size := ⟨_, rfl⟩
    obtain ⟨y3, hwa⟩ : ∃ wa, wa = y2.alloc (.cells (mk2.map (Value.int .u8)).toArray 5) := ⟨_, rfl⟩
    go_simp
    refine hK.out _ _ hS (fun hHeld => ?_)
    clear hK K
    try simp only [Act.put, List.setIfInBounds_toArray, List.set_cons_zero, List.set_cons_succ]
    rw [← hgl] at hRL ⊢
    rw [← hwa] at hRL hS hown
    simp only [mk2, List.map_cons, List.map_nil] at hwa
    rw [← hwa] at hHeld ⊢
    clear hwa haw hgl
    refine wpAnyH_ready (rs := [14]) (by kernel_rfl) (by simp) ?_
    refine AllReadyH.cons (by simp only [List.getElem?_toArray, List.getElem?_cons_succ, List.getElem?_cons_zero]; rfl) (fun K hK => ?_) AllReadyH.nil
    refine step_appW (by rfl) (.tmp 53) (.tmp 54) rfl vo m.d mk2 rfl (by exact hown) ⟨gl, 0, none⟩ 2 2 rfl rfl (by exact hRL.src) (by omega) (fun v5 y4 rz1 rz2 rz3 => ?_)
    have hzz : Away [] w9 y4 := hHeld.grown rz2 (fun k hk => .inr (by have := hnwo k hk; have := hzo; omega))
    obtain ⟨gz, cz, rfl, hc5⟩ := rz1.block (by simp [mk2])
    have hln5 : (m.d ++ mk2).length = m.d.length + 2 := by simp [mk2]
    rw [hln5] at hc5 rz1
    have hR5 := rz1
    clear rz2 rz3 hown hRL
    refine hK.out _ _ hzz (fun hHeld => ?_)
    clear hK K
    try simp only [Act.put, List.setIfInBounds_toArray, List.set_cons_zero, List.set_cons_succ]
    try rw [hln5]
    refine wpAnyH_ready (rs := [15]) (by kernel_rfl) (by simp) ?_
    refine AllReadyH.cons (by simp only [List.getElem?_toArray, List.getElem?_cons_succ, List.getElem?_cons_zero]; rfl) (fun K hK => ?_) AllReadyH.nil
    go_simp
    refine (same_sl _ _ (m.d ++ mk2) _ (by exact full_sl (HF.out.on hHeld) HMD.out (by omega) hc_gf) (by exact full_sl hR5 HMD.out (by omega) hc5)).mono ?_
    rintro E yz ⟨rfl, hwe⟩
    subst hwe
    go_wp2_with fail
    refine hK.out _ _ hHeld (fun hHeld => ?_)
    clear hK K
    try simp only [Act.put, List.setIfInBounds_toArray, List.set_cons_zero, List.set_cons_succ]
    refine wpAnyH_take (i := 16) (v := ?_) (by simp only [List.getElem?_toArray, List.getElem?_cons_succ, List.getElem?_cons_zero]; rfl) (by kernel_rfl) (by kernel_rfl) (by kernel_rfl) (by exact fun _ _ _ h => h) (Or.inl ⟨by rfl, ?_⟩) (by assumption) ?_
    rotate_left
    · intro wq hSw
      (try dsimp only at hSw)
      go_simp
      all_goals (with_reducible rfl)
    try simp only [Act.put, List.setIfInBounds_toArray, List.set_cons_zero, List.set_cons_succ]
    refine wpAnyH_take (i := 17) (v := ?_) (by simp only [List.getElem?_toArray, List.getElem?_cons_succ, List.getElem?_cons_zero]; rfl) (by kernel_rfl) (by kernel_rfl) (by kernel_rfl) (by exact fun _ _ _ h => h) (Or.inl ⟨by rfl, ?_⟩) (by assumption) ?_
    rotate_left
    · intro wq hSw
      (try dsimp only at hSw)
      go_simp
      all_goals (with_reducible rfl)
    try simp only [Act.put, List.setIfInBounds_toArray, List.set_cons_zero, List.set_cons_succ]
    refine wpAnyH_take (i := 18) (by simp only [List.getElem?_toArray, List.getElem?_cons_succ, List.getElem?_cons_zero]; rfl) (by kernel_rfl) (by kernel_rfl) (by kernel_rfl) (by exact fun _ _ _ h => h) (yields_ld (ad := ⟨g5, 0, none⟩) (by rfl) _ rfl rfl (fun w' h => loadM_run (H5.out.on h))) (by assumption) ?_
    try simp only [Act.put, List.setIfInBounds_toArray, List.set_cons_zero, List.set_cons_succ]
    refine wpAnyH_take (i := 20) (by simp only [List.getElem?_toArray, List.getElem?_cons_succ, List.getElem?_cons_zero]; rfl) (by kernel_rfl) (by kernel_rfl) (by kernel_rfl) (by exact fun _ _ _ h => h) (yields_ld (ad := ⟨g5, 0, none⟩) (by rfl) _ rfl rfl (fun w' h => loadM_run (H5.out.on h))) (by assumption) ?_
    try simp only [Act.put, List.setIfInBounds_toArray, List.set_cons_zero, List.set_cons_succ]
    refine wpAnyH_ready (rs := [19]) (by kernel_rfl) (by simp) ?_
    refine AllReadyH.cons (by simp only [List.getElem?_toArray, List.getElem?_cons_succ, List.getElem?_cons_zero]; rfl) (fun K hK => ?_) AllReadyH.nil
    go_simp
    refine (isError_c m _ _).mono ?_
    rintro E y5 ⟨rfl, haw⟩
    have hS := hHeld.on haw
    clear haw
    go_wp2_with fail
    refine hK.out _ _ hS (fun hHeld => ?_)
    clear hK K
    try simp only [Act.put, List.setIfInBounds_toArray, List.set_cons_zero, List.set_cons_succ]
    refine wpAnyH_ready (rs := [21]) (by kernel_rfl) (by simp) ?_
    refine AllReadyH.cons (by simp only [List.getElem?_toArray, List.getElem?_cons_succ, List.getElem?_cons_zero]; rfl) (fun K hK => ?_) AllReadyH.nil
    go_simp
    refine (risError_c m _ _).mono ?_
    rintro E y6 ⟨rfl, haw⟩
    have hS := hHeld.on haw
    clear haw
    go_wp2_with fail
    refine hK.out _ _ hS (fun hHeld => ?_)
    clear hK K
    try simp only [Act.put, List.setIfInBounds_toArray, List.set_cons_zero, List.set_cons_succ]
    refine wpAnyH_take (i := 22) (v := ?_) (by simp only [List.getElem?_toArray, List.getElem?_cons_succ, List.getElem?_cons_zero]; rfl) (by kernel_rfl) (by kernel_rfl) (by kernel_rfl) (by exact fun _ _ _ h => h) (Or.inl ⟨by rfl, ?_⟩) (by assumption) ?_
    rotate_left
    · intro wq hSw
      (try dsimp only at hSw)
      go_simp
      all_goals (with_reducible rfl)
    try simp only [Act.put, List.setIfInBounds_toArray, List.set_cons_zero, List.set_cons_succ]
    refine wpAnyH_take (i := 23) (v := ?_) (by simp only [List.getElem?_toArray, List.getElem?_cons_succ, List.getElem?_cons_zero]; rfl) (by kernel_rfl) (by kernel_rfl) (by kernel_rfl) (by exact fun _ _ _ h => h) (Or.inl ⟨by rfl, ?_⟩) (by assumption) ?_
    rotate_left
    · intro wq hSw
      (try dsimp only at hSw)
      go_simp
      all_goals (with_reducible rfl)
    try simp only [Act.put, List.setIfInBounds_toArray, List.set_cons_zero, List.set_cons_succ]
    refine wpAnyH_take (i := 24) (v := ?_) (by simp only [List.getElem?_toArray, List.getElem?_cons_succ, List.getElem?_cons_zero]; rfl) (by kernel_rfl) (by kernel_rfl) (by kernel_rfl) (by exact fun _ _ _ h => h) (Or.inl ⟨by rfl, ?_⟩) (by assumption) ?_
    rotate_left
    · intro wq hSw
      (try dsimp only at hSw)
      go_simp
      all_goals (with_reducible rfl)
    try simp only [Act.put, List.setIfInBounds_toArray, List.set_cons_zero, List.set_cons_succ]
    refine wpAnyH_done (by kernel_rfl) ?_ _
    go_wp2_with fail
    go_ret
    exact ⟨rfl, (HA.out.on hHeld).to_below⟩
  · have haw : Away [] y1 (y1.alloc (.cells (mk2.map (Value.int .u8)).toArray 5)) := (Away.refl [] y1).alloc _
    have hRL : Row (y1.alloc (.cells (mk2.map (Value.int .u8)).toArray 5)) (some ⟨y1.heap.size, 0, none⟩) mk2 := Row.lit y1 _ mk2_bytes (by decide)
    have hS := hHeld.on haw
    obtain ⟨gl, hgl⟩ : ∃ gl, gl = y1.heap.size := ⟨_, rfl⟩
    obtain ⟨y2, hwa⟩ : ∃ wa, wa = y1.alloc (.cells (mk2.map (Value.int .u8)).toArray 5) := ⟨_, rfl⟩
    go_simp
    refine hK.out _ _ hS (fun hHeld => ?_)
    clear hK K
    try simp only [Act.put, List.setIfInBounds_toArray, List.set_cons_zero, List.set_cons_succ]
    rw [← hgl] at hRL ⊢
    rw [← hwa] at hRL hS
    simp only [mk2, List.map_cons, List.map_nil] at hwa
    rw [← hwa] at hHeld ⊢
    clear hwa haw hgl
    refine wpAnyH_ready (rs := [12]) (by kernel_rfl) (by simp) ?_
    refine AllReadyH.cons (by simp only [List.getElem?_toArray, List.getElem?_cons_succ, List.getElem?_cons_zero]; rfl) (fun K hK => ?_) AllReadyH.nil
    go_simp
    refine (own_any ma m.d _ mc _ rfl (by exact (HR.out.on HA.out).on hHeld)).mono ?_
    rintro E y3 ⟨vo, rfl, hown, hnwo, haw, -, -⟩
    have hS := hHeld.on haw
    have hzo := hHeld.size
    replace hRL := hRL.on haw
    clear haw
    go_wp2_with fail
    refine hK.out _ _ hS (fun hHeld => ?_)
    clear hK K
    try simp only [Act.put, List.setIfInBounds_toArray, List.set_cons_zero, List.set_cons_succ]
    refine wpAnyH_ready (rs := [14]) (by kernel_rfl) (by simp) ?_
    refine AllReadyH.cons (by simp only [List.getElem?_toArray, List.getElem?_cons_succ, List.getElem?_cons_zero]; rfl) (fun K hK => ?_) AllReadyH.nil
    refine step_appW (by rfl) (.tmp 53) (.tmp 54) rfl vo m.d mk2 rfl (by exact hown) ⟨gl, 0, none⟩ 2 2 rfl rfl (by exact hRL.src) (by omega) (fun v5 y4 rz1 rz2 rz3 => ?_)
    have hzz : Away [] w9 y4 := hHeld.grown rz2 (fun k hk => .inr (by have := hnwo k hk; have := hzo; omega))
    obtain ⟨gz, cz, rfl, hc5⟩ := rz1.block (by simp [mk2])
    have hln5 : (m.d ++ mk2).length = m.d.length + 2 := by simp [mk2]
    rw [hln5] at hc5 rz1
    have hR5 := rz1
    clear rz2 rz3 hown hRL
    refine hK.out _ _ hzz (fun hHeld => ?_)
    clear hK K
    try simp only [Act.put, List.setIfInBounds_toArray, List.set_cons_zero, List.set_cons_succ]
    try rw [hln5]
    refine wpAnyH_ready (rs := [15]) (by kernel_rfl) (by simp) ?_
    refine AllReadyH.cons (by simp only [List.getElem?_toArray, List.getElem?_cons_succ, List.getElem?_cons_zero]; rfl) (fun K hK => ?_) AllReadyH.nil
    go_simp
    refine (same_sl _ _ (m.d ++ mk2) _ (by exact full_sl (HF.out.on hHeld) HMD.out (by omega) hc_gf) (by exact full_sl hR5 HMD.out (by omega) hc5)).mono ?_
    rintro E yz ⟨rfl, hwe⟩
    subst hwe
    go_wp2_with fail
    refine hK.out _ _ hHeld (fun hHeld => ?_)
    clear hK K
    try simp only [Act.put, List.setIfInBounds_toArray, List.set_cons_zero, List.set_cons_succ]
    refine wpAnyH_take (i := 16) (v := ?_) (by simp only [List.getElem?_toArray, List.getElem?_cons_succ, List.getElem?_cons_zero]; rfl) (by kernel_rfl) (by kernel_rfl) (by kernel_rfl) (by exact fun _ _ _ h => h) (Or.inl ⟨by rfl, ?_⟩) (by assumption) ?_
    rotate_left
    · intro wq hSw
      (try dsimp only at hSw)
      go_simp
      all_goals (with_reducible rfl)
    try simp only [Act.put, List.setIfInBounds_toArray, List.set_cons_zero, List.set_cons_succ]
    refine wpAnyH_take (i := 17) (v := ?_) (by simp only [List.getElem?_toArray, List.getElem?_cons_succ, List.getElem?_cons_zero]; rfl) (by kernel_rfl) (by kernel_rfl) (by kernel_rfl) (by exact fun _ _ _ h => h) (Or.inl ⟨by rfl, ?_⟩) (by assumption) ?_
    rotate_left
    · intro wq hSw
      (try dsimp only at hSw)
      go_simp
      all_goals (with_reducible rfl)
    try simp only [Act.put, List.setIfInBounds_toArray, List.set_cons_zero, List.set_cons_succ]
    refine wpAnyH_take (i := 18) (by simp only [List.getElem?_toArray, List.getElem?_cons_succ, List.getElem?_cons_zero]; rfl) (by kernel_rfl) (by kernel_rfl) (by kernel_rfl) (by exact fun _ _ _ h => h) (yields_ld (ad := ⟨g5, 0, none⟩) (by rfl) _ rfl rfl (fun w' h => loadM_run (H5.out.on h))) (by assumption) ?_
    try simp only [Act.put, List.setIfInBounds_toArray, List.set_cons_zero, List.set_cons_succ]
    refine wpAnyH_take (i := 20) (by simp only [List.getElem?_toArray, List.getElem?_cons_succ, List.getElem?_cons_zero]; rfl) (by kernel_rfl) (by kernel_rfl) (by kernel_rfl) (by exact fun _ _ _ h => h) (yields_ld (ad := ⟨g5, 0, none⟩) (by rfl) _ rfl rfl (fun w' h => loadM_run (H5.out.on h))) (by assumption) ?_
    try simp only [Act.put, List.setIfInBounds_toArray, List.set_cons_zero, List.set_cons_succ]
    refine wpAnyH_ready (rs := [19]) (by kernel_rfl) (by simp) ?_
    refine AllReadyH.cons (by simp only [List.getElem?_toArray, List.getElem?_cons_succ, List.getElem?_cons_zero]; rfl) (fun K hK => ?_) AllReadyH.nil
    go_simp
    refine (isError_c m _ _).mono ?_
    rintro E y5 ⟨rfl, haw⟩
    have hS := hHeld.on haw
    clear haw
    go_wp2_with fail
    refine hK.out _ _ hS (fun hHeld => ?_)
    clear hK K
    try simp only [Act.put, List.setIfInBounds_toArray, List.set_cons_zero, List.set_cons_succ]
    refine wpAnyH_ready (rs := [21]) (by kernel_rfl) (by simp) ?_
    refine AllReadyH.cons (by simp only [List.getElem?_toArray, List.getElem?_cons_succ, List.getElem?_cons_zero]; rfl) (fun K hK => ?_) AllReadyH.nil
    go_simp
    refine (risError_c m _ _).mono ?_
    rintro E y6 ⟨rfl, haw⟩
    have hS := hHeld.on haw
    clear haw
    go_wp2_with fail
    refine hK.out _ _ hS (fun hHeld => ?_)
    clear hK K
    try simp only [Act.put, List.setIfInBounds_toArray, List.set_cons_zero, List.set_cons_succ]
    refine wpAnyH_take (i := 22) (v := ?_) (by simp only [List.getElem?_toArray, List.getElem?_cons_succ, List.getElem?_cons_zero]; rfl) (by kernel_rfl) (by kernel_rfl) (by kernel_rfl) (by exact fun _ _ _ h => h) (Or.inl ⟨by rfl, ?_⟩) (by assumption) ?_
    rotate_left
    · intro wq hSw
      (try dsimp only at hSw)
      go_simp
      all_goals (with_reducible rfl)
    try simp only [Act.put, List.setIfInBounds_toArray, List.set_cons_zero, List.set_cons_succ]
    refine wpAnyH_take (i := 23) (v := ?_) (by simp only [List.getElem?_toArray, List.getElem?_cons_succ, List.getElem?_cons_zero]; rfl) (by kernel_rfl) (by kernel_rfl) (by kernel_rfl) (by exact fun _ _ _ h => h) (Or.inl ⟨by rfl, ?_⟩) (by assumption) ?_
    rotate_left
    · intro wq hSw
      (try dsimp only at hSw)
      go_simp
      all_goals (with_reducible rfl)
    try simp only [Act.put, List.setIfInBounds_toArray, List.set_cons_zero, List.set_cons_succ]
    refine wpAnyH_take (i := 24) (v := ?_) (by simp only [List.getElem?_toArray, List.getElem?_cons_succ, List.getElem?_cons_zero]; rfl) (by kernel_rfl) (by kernel_rfl) (by kernel_rfl) (by exact fun _ _ _ h => h) (Or.inl ⟨by rfl, ?_⟩) (by assumption) ?_
    rotate_left
    · intro wq hSw
      (try dsimp only at hSw)
      go_simp
      all_goals (with_reducible rfl)
    try simp only [Act.put, List.setIfInBounds_toArray, List.set_cons_zero, List.set_cons_succ]
    refine wpAnyH_done (by kernel_rfl) ?_ _
    go_wp2_with fail
    go_ret
    exact ⟨rfl, (HA.out.on hHeld).to_below⟩
end icmpBuilds
namespace icmpBuilds
theorem lifted (os : Os) (started : os.Started) (H : Type) (enc : TypeId × Value → H) :
    ReturnsInHanded {} Try.checked os 5 .any (Rows.icmpBuildsSpec.pre6 enc Try.prog Try.f5 Rows.icmpBuildsRow.domain false) (Rows.icmpBuildsSpec.post enc Try.prog Try.f5 false true false false) := by
  refine returnsInHanded_of_change_sized (C := Try.checked) ownKn started (by kernel_rfl) Try.func5
    (ChangeSpec.witness6 (enc := enc) (C := Try.checked) false ⟨#[], #[.agg (csA 0 z16), .agg (csA 0 z16), .agg (csM zeroMg (.slice none 0 0))], []⟩ 8 (by kernel_rfl) (by kernel_rfl) (by kernel_rfl) (by kernel_rfl)) ?_
  intro W base args ds gs before hval0 hW _ hsz0 _
  have hsz : (DataW.weightsEach Try.prog (Try.f5.params.toList ++ Rows.icmpBuildsSpec.plain.varTypes Try.prog) (ds ++ gs)).all (· ≤ reachBytes) = true := hsz0
  clear hsz0
  have hval : ∀ (j : Nat) t v, Try.f5.params[j]? = some t → args[j]? = some v → Value.okWide Try.prog W .any base t v := hval0
  have hW' := hW
  obtain ⟨p, q, hA0, hV, rfl, hfz, hnd⟩ := hW
  have hA : DataW.TrodAll enc Try.prog W 0 (fun _ => true) true Try.f5.params.toList args.toList ds p := hA0
  rw [Try.params5] at hA hval hsz
  obtain ⟨v0, vs0, d0, ds0, p0, q0, hargs, rfl, rfl, h0, r0⟩ := trodAll_cons hA
  obtain ⟨v1, vs1, d1, ds1, p1, q1, rfl, rfl, rfl, h1, r1⟩ := trodAll_cons r0
  obtain ⟨v2, vs2, d2, ds2, p2, q2, rfl, rfl, rfl, h2, r2⟩ := trodAll_cons r1
  obtain ⟨rfl, rfl, rfl⟩ := trodAll_nil r2
  obtain rfl : args = #[v0, v1, v2] := by cases args; simp_all
  have hV2 : DataW.TrodVars enc Try.prog W (fun _ => true) Rows.icmpBuildsSpec.vars gs q := hV
  obtain ⟨rfl, rfl⟩ := trodVars_none hV2
  have k0 := h0
  have lt0 : ∀ x ∈ p0, x.block < W.heap.size := by obtain ⟨m, hm⟩ := k0; exact DataW.trod_lt m _ _ _ hm
  have z0 : ∀ m ∈ d0.weights Try.prog 24, m ≤ reachBytes := fun m hm => by
    have := List.all_eq_true.1 hsz m (DataW.weights_mem_each (j := 0) (t := 24) rfl rfl m hm)
    simpa using this
  obtain ⟨x0, rfl, w0⟩ := open_ax (hval 0 24 v0 rfl rfl) h0
  have k1 := h1
  have lt1 : ∀ x ∈ p1, x.block < W.heap.size := by obtain ⟨m, hm⟩ := k1; exact DataW.trod_lt m _ _ _ hm
  have z1 : ∀ m ∈ d1.weights Try.prog 24, m ≤ reachBytes := fun m hm => by
    have := List.all_eq_true.1 hsz m (DataW.weights_mem_each (j := 1) (t := 24) rfl rfl m hm)
    simpa using this
  obtain ⟨x1, rfl, w1⟩ := open_ax (hval 1 24 v1 rfl rfl) h1
  have k2 := h2
  have lt2 : ∀ x ∈ p2, x.block < W.heap.size := by obtain ⟨m, hm⟩ := k2; exact DataW.trod_lt m _ _ _ hm
  have z2 : ∀ m ∈ d2.weights Try.prog 28, m ≤ reachBytes := fun m hm => by
    have := List.all_eq_true.1 hsz m (DataW.weights_mem_each (j := 2) (t := 28) rfl rfl m hm)
    simpa using this
  obtain ⟨x2, dv2, rfl, w2, dl2⟩ := open_mg (hval 2 28 v2 rfl rfl) h2 z2
  clear hA0 hval0
  refine (walk x0 x1 x2 dv2 W w0 w1 w2 dl2).mono fun e W' ⟨he, bel⟩ => ?_
  subst he
  exact ⟨_, rfl, _, _, _, [], _, [], hW', trodAll_mk1 (shut_bool Try.underlying4 _), (trodAll_cons_mk (Below.trod laidOut (by kernel_rfl) (of_decide_eq_true (by kernel_rfl)) k0 bel lt0) (trodAll_cons_mk (Below.trod laidOut (by kernel_rfl) (of_decide_eq_true (by kernel_rfl)) k1 bel lt1) (trodAll_cons_mk (Below.trod laidOut (by kernel_rfl) (of_decide_eq_true (by kernel_rfl)) k2 bel lt2) trodAll_mk0))), rfl, bel.frame _, fun h => by cases h⟩
theorem over : Rows.icmpBuildsRow.holds Try.pinned (OpenSpec.ofChange Rows.icmpBuildsSpec) :=
  OpenClaim.holds_of_wide 5 Try.f5 rfl rfl rfl rfl rfl rfl rfl ⟨rfl, rfl, rfl, rfl, rfl⟩ rfl rfl rfl rfl rfl (by kernel_rfl) Try.func5 (by kernel_rfl)
    (of_decide_eq_true (by kernel_rfl)) (by unfold Func.isWrapper; first | (rw [if_pos (by decide +kernel)]; kernel_rfl) | (rw [if_neg (by decide +kernel)]; exact ⟨rfl, rfl⟩))
    (fun os started H enc _ => lifted os started H enc)
end icmpBuilds
theorem icmpBuilds_holds : Rows.IcmpBuildsSaid := icmpBuilds.over
#print axioms icmpBuilds_holds
end Go.Proofs.Ytbgpjhekohabiaa
