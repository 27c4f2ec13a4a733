/-
  IcmpParses: every Parse is the document's; the bytes stay, their spare room too.
-/
import Derived.Test.YtbgpjhekohabiaaLm
import Derived.Test.YtbgpjhekohabiaaMend
import Derived.Test.YtbgpjhekohabiaaRefPm
import Derived.Test.YtbgpjhekohabiaaKit
import Derived.Deep.CondSized
namespace Go.Proofs.Ytbgpjhekohabiaa
open Go.ChangeShapes Go.WideShapes Go.ChangeAt Go.RowKit Go.Deep Num
set_option linter.unusedVariables false
set_option maxHeartbeats 8000000
set_option maxRecDepth 100000

theorem step_appW {ops : Array Oper} {o : Oper} {a : Act} {w : World} {K : Act → World → Prop} {Q : Exit → Act → World → Prop} {E : Prop} (hw : Region.wanted o (yielded ops a.tmps) = true) (s x : Operand)
    (hop : o.op = .call { callee := .builtin .append, args := #[s, x], argTypes := #[26, 26] }) (v : Value) (l m : List Int) (hs : a.eval s = v) (hown : Owns w v l)
    (ad : Addr) (n c : Nat) (hx : a.eval x = .slice (some ad) n c) (hn : m.length = n) (hm : ∀ j u, (m.map (Value.int .u8))[j]? = some u → w.cell? (ad.add j) = some u) (hlen : l.length + n ≤ 140737488355328)
    (hK : ∀ v' w', Owns w' v' (l ++ m) → w.grownBy w' v.ownBlock → Moved w v v' → K (a.put o.dst v') w') :
    if Region.wanted o (yielded ops a.tmps) = true then Oper.wp Try.prog o a w K Q else E := by
  rw [if_pos hw]
  obtain ⟨v', w', hrun, r1, r2, r3⟩ := run_appB o.type w v l m hown ad n c hn hm hlen
  unfold Oper.wp
  simp [execOp, hop, resolve, invoke, builtin, hs, hx, hrun, Result.andThen]
  exact hK v' w' r1 r2 r3
/-- An append that may stand behind a guard. -/
theorem wpList_appG {w : World} {ops : Array Oper} {rest : List Oper} {o : Oper} {a : Act} {Q : Exit → Act → World → Prop} (hw : Region.wanted o (yielded ops a.tmps) = true) (s x : Operand)
    (ho : o.op = .call { callee := .builtin .append, args := #[s, x], argTypes := #[26, 26] }) (v : Value) (l m : List Int) (hs : a.eval s = v) (hown : Owns w v l)
    (ad : Addr) (n c : Nat) (hx : a.eval x = .slice (some ad) n c) (hn : m.length = n) (hm : ∀ j u, (m.map (Value.int .u8))[j]? = some u → w.cell? (ad.add j) = some u) (hlen : l.length + n ≤ 140737488355328)
    (h : ∀ v' w', Owns w' v' (l ++ m) → w.grownBy w' v.ownBlock → Moved w v v' → wpList Try.prog ops Q rest (a.put o.dst v') w') : wpList Try.prog ops Q (o :: rest) a w := by
  obtain ⟨v', w', hrun, r1, r2, r3⟩ := run_appB o.type w v l m hown ad n c hn hm hlen
  refine BigFrame.wpList_want hw fun K hK => ?_
  unfold Oper.wp
  simp [execOp, ho, resolve, invoke, builtin, hs, hx, hrun, Result.andThen]
  exact hK _ _ (h v' w' r1 r2 r3)
/-- The two marks. -/
def mk2 : List Int := [165, 166]
theorem mk2_bytes : Bytes mk2 := (Bytes.nil.cons (by omega) (by omega)).cons (by omega) (by omega)
theorem Owns.front {w : World} {g n c : Nat} {l : List Int} (h : Owns w (.slice (some ⟨g, 0, none⟩) n c) (l ++ mk2)) (hn : n = l.length + 2) (hb : Bytes l) (hl : l.length + 2 ≤ 140737488355328) (hc : n ≤ c) : Sl w (.slice (some ⟨g, 0, none⟩) l.length c) l := by
  have hr := h.row' (by simp [mk2]; omega) (hb.app mk2_bytes)
  have := hr.head l.length
  rw [List.take_left] at this
  exact ⟨_, _, rfl, by omega, by simp, this⟩
theorem full_sl {w : World} {g c : Nat} {l : List Int} (h : Owns w (.slice (some ⟨g, 0, none⟩) (l.length + 2) c) (l ++ mk2)) (hb : Bytes l) (hl : l.length + 2 ≤ 140737488355328) (hc : l.length + 2 ≤ c) : Sl w (.slice (some ⟨g, 0, none⟩) (l.length + 2) c) (l ++ mk2) := by
  have hn : (l ++ mk2).length = l.length + 2 := by simp [mk2]
  exact ⟨_, _, by rw [hn], by omega, by simp, h.row' (by omega) (hb.app mk2_bytes)⟩
theorem yields_sl {ops : Array Oper} {S : World → Prop} {op : Oper} {a : Act} {v : Value} {sa : Option Addr} {n c : Nat} {hi : Int} (hw : Region.wanted op (yielded ops a.tmps) = true) (x h : Operand) (ho : op.op = .slice 26 x none (some h) none) (hx : a.eval x = .slice sa n c) (hh : a.eval h = .int .i64 hi)
    (hS : ∀ w, (Instr.sliceAt 26 (.slice sa n c) none (some (.int .i64 hi)) none).run Try.prog w = .ok v w) : YieldsIf Try.prog ops S op v a :=
  .inl ⟨hw, fun w hw' => by
    unfold execOp
    simp only [ho, hx, hh, Option.map_none, Option.map_some, Sem.run_bind, hS w, Result.andThen_ok, Sem.run_pure]⟩
theorem mparse_bytes {s t : Ax} {b : List Int} (hb : Bytes b) : Bytes (mparseP s t b).1.d ∧ (mparseP s t b).1.d.length ≤ b.length := by
  by_cases h : (mparseP s t b).2 = 0
  · rw [mparse_taken (mtaken_iff.1 h)]
    exact ⟨hb.drop 8, by show (b.drop 8).length ≤ _; simp⟩
  · rw [mparse_no h]; exact ⟨Bytes.nil, by simp [zeroMg]⟩
namespace icmpParses
theorem walk (s t : Ax) (a : Option Addr) (b : List Int) (cap : Nat) (W : World) (hs : WfA s) (ht : WfA t) (hbl : b.length ≤ cap) (hbr : Row W a b) (hbn : a = none → cap = 0) (hbc : cap ≤ 140737488351232) :
    Calls Try.prog 6 #[.agg (csA s.v s.l), .agg (csA t.v t.l), .slice a b.length cap] W fun e W' => e = .returned (.bool true) ∧ Below W.heap.size W W' := by
  have HS := Lib.hid hs; have HT := Lib.hid ht
  have HR := Lib.hid hbr
  have HA : Hid (Away [] W W) := Away.refl _ _
  have hmb := mparse_bytes (s := s) (t := t) hbr.2.1
  obtain ⟨p, hp⟩ : ∃ r, r = (mparseP s t b).1 := ⟨_, rfl⟩
  obtain ⟨e, he⟩ : ∃ r, r = (mparseP s t b).2 := ⟨_, rfl⟩
  have HPB : Hid (mparseP s t b = (p, e)) := by rw [hp, he]; rfl
  rw [← hp] at hmb
  have HPD := Lib.hid hmb
  have hpl := hmb.2
  have HBY := Lib.hid hbr.2.1
  clear hs ht hbr hmb hp he
  go_enter Try.func6, Try.ntmps6
  go_wp2_with (refine wpList_box24 rfl _ rfl s rfl ?_; refine Hid.out ?_)
  refine Lib.hid ?_
  intro g3 w1 hg_g3 hb haw
  replace HA := Lib.hid (HA.out.on haw)
  clear haw
  have H3 := Lib.hid hb
  have hl_g3 := hb.lt
  clear hb
  go_wp2_with (refine wpList_box24 rfl _ rfl t rfl ?_; refine Hid.out ?_)
  refine Lib.hid ?_
  intro g4 w2 hg_g4 hb haw
  replace HA := Lib.hid (HA.out.on haw)
  replace H3 := Lib.hid (H3.out.on haw)
  clear haw
  have H4 := Lib.hid hb
  have hl_g4 := hb.lt
  clear hb
  go_wp2_with fail
  refine (alive_c _).mono ?_
  rintro E w3 ⟨rfl, haw⟩
  replace HA := Lib.hid (HA.out.on haw)
  replace H3 := Lib.hid (H3.out.on haw)
  replace H4 := Lib.hid (H4.out.on haw)
  clear haw
  go_wp2_with fail
  refine (own_any a b _ cap _ rfl (by exact HR.out.on HA.out)).mono ?_
  rintro E wo ⟨vo, rfl, hown, hnew, haw, -, -⟩
  have HOO := Lib.hid hown
  clear hown
  go_wp2_with (at_builtin; refine wpList_appG rfl _ _ rfl _ b [165, 166] rfl (by exact HOO.out.away ((Away.refl [] _).alloc _) (by simp)) ⟨wo.heap.size, 0, none⟩ 2 2 rfl rfl (lit_cells _ [165, 166] _ rfl) (by omega) ?_; refine Hid.out ?_)
  refine Lib.hid ?_
  intro vf w4 hownf hgr hmov
  have hsw0 := haw.size
  have haw2 : Away [] w3 w4 := (haw.alloc _).grown hgr (fun k hk => .inr (hnew k hk))
  have hnf : New w3.heap.size vf := hnew.moved hmov (by simp; omega)
  clear hgr hmov hnew haw HOO
  have haw := haw2
  clear haw2
  replace HA := Lib.hid (HA.out.on haw)
  replace H3 := Lib.hid (H3.out.on haw)
  replace H4 := Lib.hid (H4.out.on haw)
  clear haw
  obtain ⟨gf, cf, rfl, hc_gf⟩ := hownf.block (by simp)
  have hg_gf := hnf gf rfl
  have hln : (b ++ [165, 166]).length = b.length + 2 := by simp
  rw [hln] at hc_gf
  have HF : Hid (Owns w4 (.slice (some ⟨gf, 0, none⟩) (b.length + 2) cf) (b ++ mk2)) := by rw [hln] at hownf; exact hownf
  have hl_gf := HF.out.lt gf rfl
  clear hownf hnf
  have s1 := slice_h (some ⟨gf, 0, none⟩) (b.length + 2) cf b.length (b.length : Int) rfl (by omega)
  try rw [hln]
  go_upto_region 4 with fail
  go_cut [8, 9] (fun v er wc => ∃ g8 vp, v = .pointer (some ⟨g8, 0, none⟩) ∧ er = .int .i64 e ∧ BoxM wc g8 p vp ∧ Owns wc vp p.d ∧ Away [] w4 wc ∧ w4.heap.size ≤ g8)
  case first =>
    refine wp_region_held_drew (S := (fun w' => Away [] w4 w')) (by kernel_rfl) ((Away.refl [] w4).drew) (fun hHeld => ?_)
    refine wpAnyH_take (i := 0) (by simp only [List.getElem?_toArray, List.getElem?_cons_zero]; rfl) (by kernel_rfl) (by kernel_rfl) (by kernel_rfl) (by exact fun _ _ _ h => h) (yields_ld (ad := ⟨g3, 0, none⟩) (by rfl) _ rfl rfl (fun w' h => load24_run (H3.out.on h) HS.out)) (by assumption) ?_
    try simp only [Act.put, List.setIfInBounds_toArray, List.set_cons_zero, List.set_cons_succ]
    refine wpAnyH_take (i := 1) (by simp only [List.getElem?_toArray, List.getElem?_cons_succ, List.getElem?_cons_zero]; rfl) (by kernel_rfl) (by kernel_rfl) (by kernel_rfl) (by exact fun _ _ _ h => h) (yields_ld (ad := ⟨g4, 0, none⟩) (by rfl) _ rfl rfl (fun w' h => load24_run (H4.out.on h) HT.out)) (by assumption) ?_
    try simp only [Act.put, List.setIfInBounds_toArray, List.set_cons_zero, List.set_cons_succ]
    refine wpAnyH_take (i := 2) (v := ?_) (by simp only [List.getElem?_toArray, List.getElem?_cons_succ, List.getElem?_cons_zero]; rfl) (by kernel_rfl) (by kernel_rfl) (by kernel_rfl) (by exact fun _ _ _ h => h) (Or.inl ⟨by rfl, ?_⟩) (by assumption) ?_
    rotate_left
    · intro wq hSw
      (try dsimp only at hSw)
      go_simp
      all_goals (with_reducible rfl)
    try simp only [Act.put, List.setIfInBounds_toArray, List.set_cons_zero, List.set_cons_succ]
    refine wpAnyH_take (i := 3) (v := ?_) (by simp only [List.getElem?_toArray, List.getElem?_cons_succ, List.getElem?_cons_zero]; rfl) (by kernel_rfl) (by kernel_rfl) (by kernel_rfl) (by exact fun _ _ _ h => h) (Or.inl ⟨by rfl, ?_⟩) (by assumption) ?_
    rotate_left
    · intro wq hSw
      (try dsimp only at hSw)
      go_simp
      all_goals (with_reducible rfl)
    try simp only [Act.put, List.setIfInBounds_toArray, List.set_cons_zero, List.set_cons_succ]
    refine wpAnyH_take (i := 4) (v := ?_) (by simp only [List.getElem?_toArray, List.getElem?_cons_succ, List.getElem?_cons_zero]; rfl) (by kernel_rfl) (by kernel_rfl) (by kernel_rfl) (by exact fun _ _ _ h => h) (Or.inl ⟨by rfl, ?_⟩) (by assumption) ?_
    rotate_left
    · intro wq hSw
      (try dsimp only at hSw)
      go_simp
      all_goals (with_reducible rfl)
    try simp only [Act.put, List.setIfInBounds_toArray, List.set_cons_zero, List.set_cons_succ]
    refine wpAnyH_take (i := 5) (by simp only [List.getElem?_toArray, List.getElem?_cons_succ, List.getElem?_cons_zero]; rfl) (by kernel_rfl) (by kernel_rfl) (by kernel_rfl) (by exact fun _ _ _ h => h) (yields_sl (by rfl) _ _ rfl rfl rfl s1) (by assumption) ?_
    try simp only [Act.put, List.setIfInBounds_toArray, List.set_cons_zero, List.set_cons_succ]
    refine wpAnyH_ready (rs := [6, 10]) (by kernel_rfl) (by simp) ?_
    refine AllReadyH.cons (by simp only [List.getElem?_toArray, List.getElem?_cons_succ, List.getElem?_cons_zero]; rfl) (fun K hK => ?_) (AllReadyH.cons (by simp only [List.getElem?_toArray, List.getElem?_cons_succ, List.getElem?_cons_zero]; rfl) (fun K hK => ?_) AllReadyH.nil)
    · go_simp
      refine (parse_c s t (some ⟨gf, 0, none⟩) b cf _ HS.out HT.out (by exact ((HF.out.front rfl HBY.out (by omega) hc_gf).of.2.2.2).on hHeld) (by simp)).mono ?_
      rw [HPB.out]
      rintro E y1 ⟨vp, rfl, hpo, hnwp, haw⟩
      have hS := hHeld.on haw
      have hzp := hHeld.size
      clear haw
      obtain ⟨pa, pc, rfl, -, -⟩ := hpo.slc
      go_wp2_with fail
      refine hK.out _ _ hS (fun hHeld => ?_)
      clear hK K
      try simp only [Act.put, List.setIfInBounds_toArray, List.set_cons_zero, List.set_cons_succ]
      refine wpAnyH_take (i := 7) (v := ?_) (by simp only [List.getElem?_toArray, List.getElem?_cons_succ, List.getElem?_cons_zero]; rfl) (by kernel_rfl) (by kernel_rfl) (by kernel_rfl) (by exact fun _ _ _ h => h) (Or.inl ⟨by rfl, ?_⟩) (by assumption) ?_
      rotate_left
      · intro wq hSw
        (try dsimp only at hSw)
        go_simp
        all_goals (with_reducible rfl)
      try simp only [Act.put, List.setIfInBounds_toArray, List.set_cons_zero, List.set_cons_succ]
      refine wpAnyH_take (i := 8) (v := ?_) (by simp only [List.getElem?_toArray, List.getElem?_cons_succ, List.getElem?_cons_zero]; rfl) (by kernel_rfl) (by kernel_rfl) (by kernel_rfl) (by exact fun _ _ _ h => h) (Or.inl ⟨by rfl, ?_⟩) (by assumption) ?_
      rotate_left
      · intro wq hSw
        (try dsimp only at hSw)
        go_simp
        all_goals (with_reducible rfl)
      try simp only [Act.put, List.setIfInBounds_toArray, List.set_cons_zero, List.set_cons_succ]
      refine wpAnyH_take (i := 9) (v := ?_) (by simp only [List.getElem?_toArray, List.getElem?_cons_succ, List.getElem?_cons_zero]; rfl) (by kernel_rfl) (by kernel_rfl) (by kernel_rfl) (by exact fun _ _ _ h => h) (Or.inl ⟨by rfl, ?_⟩) (by assumption) ?_
      rotate_left
      · intro wq hSw
        (try dsimp only at hSw)
        go_simp
        all_goals (with_reducible rfl)
      try simp only [Act.put, List.setIfInBounds_toArray, List.set_cons_zero, List.set_cons_succ]
      refine wpAnyH_ready (rs := [10]) (by kernel_rfl) (by simp) ?_
      refine AllReadyH.cons (by simp only [List.getElem?_toArray, List.getElem?_cons_succ, List.getElem?_cons_zero]; rfl) (fun K hK => ?_) AllReadyH.nil
      rw [if_pos (by rfl)]
      refine wp_allocM rfl ?_
      intro g14 y2 hg14 hbx haw
      have hS := hHeld.on haw
      have hza := hHeld.size
      have hl14 := hbx.lt
      have hlp := hpo.lt
      have hne : ∀ k, (Value.slice pa _ pc).ownBlock = some k → k ≠ g14 := fun k hk => by have := hlp k hk; omega
      replace hpo := hpo.on haw
      clear haw
      refine hK.out _ _ hS (fun hHeld => ?_)
      clear hK K
      try simp only [Act.put, List.setIfInBounds_toArray, List.set_cons_zero, List.set_cons_succ]
      refine wpAnyH_ready (rs := [11]) (by kernel_rfl) (by simp) ?_
      refine AllReadyH.cons (by simp only [List.getElem?_toArray, List.getElem?_cons_succ, List.getElem?_cons_zero]; rfl) (fun K hK => ?_) AllReadyH.nil
      rw [if_pos (by rfl)]
      refine wp_storeM (.tmp 8) (.tmp 26) rfl g14 rfl p (.slice pa _ pc) rfl zeroMg (.slice none 0 0) (by exact hbx) rfl ?_
      intro y3 hb2 haw
      have hS : Away [] w4 y3 := hHeld.next haw (fun x hx => .inr (by simp at hx; omega))
      have hpo2 := hpo.away haw (fun k hk => by have := hne k hk; simpa using this)
      clear haw
      refine hK.out _ _ hS (fun hHeld => ?_)
      clear hK K
      try simp only [Act.put]
      refine wpAnyH_take (i := 12) (v := ?_) (by simp only [List.getElem?_toArray, List.getElem?_cons_succ, List.getElem?_cons_zero]; rfl) (by kernel_rfl) (by kernel_rfl) (by kernel_rfl) (by exact fun _ _ _ h => h) (Or.inl ⟨by rfl, ?_⟩) (by assumption) ?_
      rotate_left
      · intro wq hSw
        (try dsimp only at hSw)
        go_simp
        all_goals (with_reducible rfl)
      try simp only [Act.put, List.setIfInBounds_toArray, List.set_cons_zero, List.set_cons_succ]
      refine wpAnyH_done (by kernel_rfl) ?_ _
      go_wp2_with fail
      go_meet
      exact ⟨g14, _, rfl, rfl, hb2, hpo2, hHeld, by omega⟩
    · rw [if_pos (by rfl)]
      refine wp_allocM rfl ?_
      intro g14 y1 hg14 hbx haw
      have hS := hHeld.on haw
      have hza := hHeld.size
      have hl14 := hbx.lt
      clear haw
      refine hK.out _ _ hS (fun hHeld => ?_)
      clear hK K
      try simp only [Act.put, List.setIfInBounds_toArray, List.set_cons_zero, List.set_cons_succ]
      refine wpAnyH_ready (rs := [6]) (by kernel_rfl) (by simp) ?_
      refine AllReadyH.cons (by simp only [List.getElem?_toArray, List.getElem?_cons_succ, List.getElem?_cons_zero]; rfl) (fun K hK => ?_) AllReadyH.nil
      go_simp
      refine (parse_c s t (some ⟨gf, 0, none⟩) b cf _ HS.out HT.out (by exact ((HF.out.front rfl HBY.out (by omega) hc_gf).of.2.2.2).on hHeld) (by simp)).mono ?_
      rw [HPB.out]
      rintro E y2 ⟨vp, rfl, hpo, hnwp, haw⟩
      have hS := hHeld.on haw
      have hzp := hHeld.size
      have hlx := hbx.lt
      replace hbx := hbx.on haw
      have hne : ∀ k, vp.ownBlock = some k → k ≠ g14 := fun k hk => by have := hnwp k hk; omega
      clear haw
      obtain ⟨pa, pc, rfl, -, -⟩ := hpo.slc
      go_wp2_with fail
      refine hK.out _ _ hS (fun hHeld => ?_)
      clear hK K
      try simp only [Act.put, List.setIfInBounds_toArray, List.set_cons_zero, List.set_cons_succ]
      refine wpAnyH_take (i := 7) (v := ?_) (by simp only [List.getElem?_toArray, List.getElem?_cons_succ, List.getElem?_cons_zero]; rfl) (by kernel_rfl) (by kernel_rfl) (by kernel_rfl) (by exact fun _ _ _ h => h) (Or.inl ⟨by rfl, ?_⟩) (by assumption) ?_
      rotate_left
      · intro wq hSw
        (try dsimp only at hSw)
        go_simp
        all_goals (with_reducible rfl)
      try simp only [Act.put, List.setIfInBounds_toArray, List.set_cons_zero, List.set_cons_succ]
      refine wpAnyH_take (i := 8) (v := ?_) (by simp only [List.getElem?_toArray, List.getElem?_cons_succ, List.getElem?_cons_zero]; rfl) (by kernel_rfl) (by kernel_rfl) (by kernel_rfl) (by exact fun _ _ _ h => h) (Or.inl ⟨by rfl, ?_⟩) (by assumption) ?_
      rotate_left
      · intro wq hSw
        (try dsimp only at hSw)
        go_simp
        all_goals (with_reducible rfl)
      try simp only [Act.put, List.setIfInBounds_toArray, List.set_cons_zero, List.set_cons_succ]
      refine wpAnyH_take (i := 9) (v := ?_) (by simp only [List.getElem?_toArray, List.getElem?_cons_succ, List.getElem?_cons_zero]; rfl) (by kernel_rfl) (by kernel_rfl) (by kernel_rfl) (by exact fun _ _ _ h => h) (Or.inl ⟨by rfl, ?_⟩) (by assumption) ?_
      rotate_left
      · intro wq hSw
        (try dsimp only at hSw)
        go_simp
        all_goals (with_reducible rfl)
      try simp only [Act.put, List.setIfInBounds_toArray, List.set_cons_zero, List.set_cons_succ]
      refine wpAnyH_ready (rs := [11]) (by kernel_rfl) (by simp) ?_
      refine AllReadyH.cons (by simp only [List.getElem?_toArray, List.getElem?_cons_succ, List.getElem?_cons_zero]; rfl) (fun K hK => ?_) AllReadyH.nil
      rw [if_pos (by rfl)]
      refine wp_storeM (.tmp 8) (.tmp 26) rfl g14 rfl p (.slice pa _ pc) rfl zeroMg (.slice none 0 0) (by exact hbx) rfl ?_
      intro y3 hb2 haw
      have hS : Away [] w4 y3 := hHeld.next haw (fun x hx => .inr (by simp at hx; omega))
      have hpo2 := hpo.away haw (fun k hk => by have := hne k hk; simpa using this)
      clear haw
      refine hK.out _ _ hS (fun hHeld => ?_)
      clear hK K
      try simp only [Act.put]
      refine wpAnyH_take (i := 12) (v := ?_) (by simp only [List.getElem?_toArray, List.getElem?_cons_succ, List.getElem?_cons_zero]; rfl) (by kernel_rfl) (by kernel_rfl) (by kernel_rfl) (by exact fun _ _ _ h => h) (Or.inl ⟨by rfl, ?_⟩) (by assumption) ?_
      rotate_left
      · intro wq hSw
        (try dsimp only at hSw)
        go_simp
        all_goals (with_reducible rfl)
      try simp only [Act.put, List.setIfInBounds_toArray, List.set_cons_zero, List.set_cons_succ]
      refine wpAnyH_done (by kernel_rfl) ?_ _
      go_wp2_with fail
      go_meet
      exact ⟨g14, _, rfl, rfl, hb2, hpo2, hHeld, by omega⟩
  case rest =>
  obtain ⟨g8, g8v, rfl, rfl, hb, hpo, haw, hg_g8⟩ := hcut
  generalize wc = w5 at *
  replace HA := Lib.hid (HA.out.on haw)
  replace H3 := Lib.hid (H3.out.on haw)
  replace H4 := Lib.hid (H4.out.on haw)
  replace HF := Lib.hid (HF.out.on haw)
  clear haw
  have Hg8 := Lib.hid hb; have HOg8 := Lib.hid hpo
  have hl_g8 := hb.lt
  clear hb hpo
  clear s1
  go_wp2_with (first | (refine wpList_loadX rfl _ rfl g3 rfl s (by exact H3.out) HS.out ?_) | (refine wpList_loadX rfl _ rfl g4 rfl t (by exact H4.out) HT.out ?_))
  refine (rparse_c s t a b cap _ HS.out HT.out (by exact HR.out.on HA.out) hbl hbn).mono ?_
  rw [HPB.out]
  rintro E w6 ⟨cv, rfl, hown, hnew, haw⟩
  have hs_cv := haw.size
  replace HA := Lib.hid (HA.out.on haw)
  replace H3 := Lib.hid (H3.out.on haw)
  replace H4 := Lib.hid (H4.out.on haw)
  replace HF := Lib.hid (HF.out.on haw)
  replace Hg8 := Lib.hid (Hg8.out.on haw)
  replace HOg8 := Lib.hid (HOg8.out.on haw)
  clear haw
  have HCV := Lib.hid hown
  have hn_cv := Lib.hid hnew
  clear hown hnew
  obtain ⟨ca, cc, hcv, -, -⟩ := HCV.out.slc
  subst hcv
  go_wp2_with (refine wpList_newM rfl rfl rfl _ _ rfl p (.slice ca p.d.length cc) (fun _ => rfl) (fun _ => rfl) rfl ?_; refine Hid.out ?_)
  refine Lib.hid ?_
  intro g10 w7 hg_g10 hb haw
  replace HA := Lib.hid (HA.out.on haw)
  replace H3 := Lib.hid (H3.out.on haw)
  replace H4 := Lib.hid (H4.out.on haw)
  replace HF := Lib.hid (HF.out.on haw)
  replace Hg8 := Lib.hid (Hg8.out.on haw)
  replace HOg8 := Lib.hid (HOg8.out.on haw)
  replace HCV := Lib.hid (HCV.out.on haw)
  clear haw
  have H10 := Lib.hid hb
  have hl_g10 := hb.lt
  clear hb
  obtain ⟨pa, pc, hpv, -, -⟩ := HOg8.out.slc
  subst hpv
  go_wp2_with (first | (refine wpList_loadM rfl _ rfl g8 rfl p _ (by exact Hg8.out) ?_) | (refine wpList_loadM rfl _ rfl g10 rfl p _ (by exact H10.out) ?_))
  refine (sameM_yes p _ _ _ (by exact HOg8.out.sl HPD.out.1 (by omega)) (by exact HCV.out.sl HPD.out.1 (by omega))).mono ?_
  rintro E w8 ⟨rfl, haw⟩
  replace HA := Lib.hid (HA.out.on haw)
  replace H3 := Lib.hid (H3.out.on haw)
  replace H4 := Lib.hid (H4.out.on haw)
  replace HF := Lib.hid (HF.out.on haw)
  replace Hg8 := Lib.hid (Hg8.out.on haw)
  replace HOg8 := Lib.hid (HOg8.out.on haw)
  replace HCV := Lib.hid (HCV.out.on haw)
  replace H10 := Lib.hid (H10.out.on haw)
  clear haw
  have q1 : (e == e) = true := by simp
  go_wp2_with fail
  refine (own_any a b _ cap _ rfl (by exact HR.out.on HA.out)).mono ?_
  rintro E wo ⟨vo, rfl, hown, hnew, haw, -, -⟩
  have HOO := Lib.hid hown
  clear hown
  go_wp2_with (at_builtin; refine wpList_appG rfl _ _ rfl _ b [165, 166] rfl (by exact HOO.out.away ((Away.refl [] _).alloc _) (by simp)) ⟨wo.heap.size, 0, none⟩ 2 2 rfl rfl (lit_cells _ [165, 166] _ rfl) (by omega) ?_; refine Hid.out ?_)
  refine Lib.hid ?_
  intro vf w9 hownf hgr hmov
  have hsw0 := haw.size
  have haw2 : Away [] w8 w9 := (haw.alloc _).grown hgr (fun k hk => .inr (hnew k hk))
  have hnf : New w8.heap.size vf := hnew.moved hmov (by simp; omega)
  clear hgr hmov hnew haw HOO
  have haw := haw2
  clear haw2
  replace HA := Lib.hid (HA.out.on haw)
  replace H3 := Lib.hid (H3.out.on haw)
  replace H4 := Lib.hid (H4.out.on haw)
  replace HF := Lib.hid (HF.out.on haw)
  replace Hg8 := Lib.hid (Hg8.out.on haw)
  replace HOg8 := Lib.hid (HOg8.out.on haw)
  replace HCV := Lib.hid (HCV.out.on haw)
  replace H10 := Lib.hid (H10.out.on haw)
  clear haw
  obtain ⟨gz, cz, rfl, hc_gz⟩ := hownf.block (by simp)
  have hg_gz := hnf gz rfl
  have hln : (b ++ [165, 166]).length = b.length + 2 := by simp
  rw [hln] at hc_gz
  have HZ : Hid (Owns w9 (.slice (some ⟨gz, 0, none⟩) (b.length + 2) cz) (b ++ mk2)) := by rw [hln] at hownf; exact hownf
  have hl_gz := HZ.out.lt gz rfl
  clear hownf hnf
  go_wp2_with fail
  refine (same_sl _ _ (b ++ mk2) _ (by exact full_sl HF.out HBY.out (by omega) hc_gf) (by exact full_sl HZ.out HBY.out (by omega) hc_gz)).mono ?_
  rintro E w9 ⟨rfl, rfl⟩
  go_wp2_with fail
  go_ret
  exact ⟨rfl, HA.out.to_below⟩
end icmpParses
namespace icmpParses
theorem lifted (os : Os) (started : os.Started) (H : Type) (enc : TypeId × Value → H) :
    ReturnsInHanded {} Try.checked os 6 .any (Rows.icmpParsesSpec.pre6 enc Try.prog Try.f6 Rows.icmpParsesRow.domain false) (Rows.icmpParsesSpec.post enc Try.prog Try.f6 false true false false) := by
  refine returnsInHanded_of_change_sized (C := Try.checked) ownKn started (by kernel_rfl) Try.func6
    (ChangeSpec.witness6 (enc := enc) (C := Try.checked) false ⟨#[], #[.agg (csA 0 z16), .agg (csA 0 z16), .slice none 0 0], []⟩ 8 (by kernel_rfl) (by kernel_rfl) (by kernel_rfl) (by kernel_rfl)) ?_
  intro W base args ds gs before hval0 hW _ hsz0 _
  have hsz : (DataW.weightsEach Try.prog (Try.f6.params.toList ++ Rows.icmpParsesSpec.plain.varTypes Try.prog) (ds ++ gs)).all (· ≤ reachBytes) = true := hsz0
  clear hsz0
  have hval : ∀ (j : Nat) t v, Try.f6.params[j]? = some t → args[j]? = some v → Value.okWide Try.prog W .any base t v := hval0
  have hW' := hW
  obtain ⟨p, q, hA0, hV, rfl, hfz, hnd⟩ := hW
  have hA : DataW.TrodAll enc Try.prog W 0 (fun _ => true) true Try.f6.params.toList args.toList ds p := hA0
  rw [Try.params6] at hA hval hsz
  obtain ⟨v0, vs0, d0, ds0, p0, q0, hargs, rfl, rfl, h0, r0⟩ := trodAll_cons hA
  obtain ⟨v1, vs1, d1, ds1, p1, q1, rfl, rfl, rfl, h1, r1⟩ := trodAll_cons r0
  obtain ⟨v2, vs2, d2, ds2, p2, q2, rfl, rfl, rfl, h2, r2⟩ := trodAll_cons r1
  obtain ⟨rfl, rfl, rfl⟩ := trodAll_nil r2
  obtain rfl : args = #[v0, v1, v2] := by cases args; simp_all
  have hV2 : DataW.TrodVars enc Try.prog W (fun _ => true) Rows.icmpParsesSpec.vars gs q := hV
  obtain ⟨rfl, rfl⟩ := trodVars_none hV2
  have k0 := h0
  have lt0 : ∀ x ∈ p0, x.block < W.heap.size := by obtain ⟨m, hm⟩ := k0; exact DataW.trod_lt m _ _ _ hm
  have z0 : ∀ m ∈ d0.weights Try.prog 24, m ≤ reachBytes := fun m hm => by
    have := List.all_eq_true.1 hsz m (DataW.weights_mem_each (j := 0) (t := 24) rfl rfl m hm)
    simpa using this
  obtain ⟨x0, rfl, w0⟩ := open_ax (hval 0 24 v0 rfl rfl) h0
  have k1 := h1
  have lt1 : ∀ x ∈ p1, x.block < W.heap.size := by obtain ⟨m, hm⟩ := k1; exact DataW.trod_lt m _ _ _ hm
  have z1 : ∀ m ∈ d1.weights Try.prog 24, m ≤ reachBytes := fun m hm => by
    have := List.all_eq_true.1 hsz m (DataW.weights_mem_each (j := 1) (t := 24) rfl rfl m hm)
    simpa using this
  obtain ⟨x1, rfl, w1⟩ := open_ax (hval 1 24 v1 rfl rfl) h1
  have k2 := h2
  have lt2 : ∀ x ∈ p2, x.block < W.heap.size := by obtain ⟨m, hm⟩ := k2; exact DataW.trod_lt m _ _ _ hm
  have z2 : ∀ m ∈ d2.weights Try.prog 26, m ≤ reachBytes := fun m hm => by
    have := List.all_eq_true.1 hsz m (DataW.weights_mem_each (j := 2) (t := 26) rfl rfl m hm)
    simpa using this
  obtain ⟨a2, len2, cap2, rfl⟩ := okWide_slice Try.underlying26 (hval 2 26 v2 rfl rfl)
  obtain ⟨l2, rfl, c2, cc2, w2, n2, u2⟩ := open_bytes h2 z2
  clear hA0 hval0
  refine (walk x0 x1 a2 l2 cap2 W w0 w1 c2 w2 n2 cc2).mono fun e W' ⟨he, bel⟩ => ?_
  subst he
  exact ⟨_, rfl, _, _, _, [], _, [], hW', trodAll_mk1 (shut_bool Try.underlying4 _), (trodAll_cons_mk (Below.trod laidOut (by kernel_rfl) (of_decide_eq_true (by kernel_rfl)) k0 bel lt0) (trodAll_cons_mk (Below.trod laidOut (by kernel_rfl) (of_decide_eq_true (by kernel_rfl)) k1 bel lt1) (trodAll_cons_mk (Below.trod laidOut (by kernel_rfl) (of_decide_eq_true (by kernel_rfl)) k2 bel lt2) trodAll_mk0))), rfl, bel.frame _, fun h => by cases h⟩
theorem over : Rows.icmpParsesRow.holds Try.pinned (OpenSpec.ofChange Rows.icmpParsesSpec) :=
  OpenClaim.holds_of_wide 6 Try.f6 rfl rfl rfl rfl rfl rfl rfl ⟨rfl, rfl, rfl, rfl, rfl⟩ rfl rfl rfl rfl rfl (by kernel_rfl) Try.func6 (by kernel_rfl)
    (of_decide_eq_true (by kernel_rfl)) (by unfold Func.isWrapper; first | (rw [if_pos (by decide +kernel)]; kernel_rfl) | (rw [if_neg (by decide +kernel)]; exact ⟨rfl, rfl⟩))
    (fun os started H enc _ => lifted os started H enc)
end icmpParses
theorem icmpParses_holds : Rows.IcmpParsesSaid := icmpParses.over
#print axioms icmpParses_holds
end Go.Proofs.Ytbgpjhekohabiaa
