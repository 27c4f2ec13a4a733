/-
  Lists of keys: slices.Delete.
-/
import Derived.Test.YtpmkmldcgiodgaaDoorDLst
namespace Go.Proofs.YtpmkmldcgiodgaaDoor.W
open Go.ChangeShapes Go.WideShapes Go.ChangeAt Go.RowKit
open S6 (wp_region_cls quiet_val quiet_call quiet_ld ld3 ld4 ld5 ld25 ld26 load28_run load24m_run)
set_option linter.unusedVariables false
set_option linter.unusedSimpArgs false
set_option maxRecDepth 100000

/-- The cells behind a key that goes. -/
theorem flat_split (ks : List Dd) (i : Nat) : ks.flatMap listD = (ks.take i).flatMap listD ++ (ks.drop i).flatMap listD := by
  rw [← List.flatMap_append, List.take_append_drop]
theorem flat_take {ks : List Dd} (hA : ∀ x ∈ ks, Okd x) {i : Nat} (hi : i ≤ ks.length) : (ks.flatMap listD).take (i * 40) = (ks.take i).flatMap listD := by
  have hl : ((ks.take i).flatMap listD).length = i * 40 := by rw [flatD_len _ (fun x hx => hA x (List.mem_of_mem_take hx)), List.length_take]; rw [Nat.min_eq_left hi]
  rw [flat_split ks i, List.take_append_of_le_length (by omega), List.take_of_length_le (by omega)]
theorem flat_drop {ks : List Dd} (hA : ∀ x ∈ ks, Okd x) {i : Nat} (hi : i ≤ ks.length) : (ks.flatMap listD).drop (i * 40) = (ks.drop i).flatMap listD := by
  have hl : ((ks.take i).flatMap listD).length = i * 40 := by rw [flatD_len _ (fun x hx => hA x (List.mem_of_mem_take hx)), List.length_take]; rw [Nat.min_eq_left hi]
  rw [flat_split ks i, List.drop_append, List.drop_of_length_le (by omega), hl, Nat.sub_self]; simp
theorem erase_flat (ks : List Dd) (i : Nat) : (ks.eraseIdx i).flatMap listD = (ks.take i).flatMap listD ++ (ks.drop (i + 1)).flatMap listD := by
  rw [List.eraseIdx_eq_take_drop_succ, List.flatMap_append]
theorem step_appB {ops : Array Oper} {o : Oper} {a : Act} {w : World} {K : Act → World → Prop} {Q : Exit → Act → World → Prop} {E : Prop} (hg : o.guard = none) (s x : Operand) (ho : o.op = .call { callee := .builtin .append, args := #[s, x], argTypes := #[57, 57] })
    (g cap i m c : Nat) (cur xs : List Value) (ad : Addr) (hs : a.eval s = .slice (some ⟨g, 0, none⟩) i cap) (hx : a.eval x = .slice (some ad) m c) (hb : Blk w g cap cur) (hr : i + m ≤ cap) (hl : xs.length = m * 40) (hsr : ∀ j u, xs[j]? = some u → w.cell? (ad.add j) = some u) (h1 : ∀ u ∈ xs, u.oneCell' = true)
    (h : ∀ w', Blk w' g cap (over cur i xs) → Away [g] w w' → K (a.put o.dst (.slice (some ⟨g, 0, none⟩) (i + m) cap)) w') : if Region.wanted o (yielded ops a.tmps) = true then Oper.wp Tryd.prog o a w K Q else E := by
  have hw : Region.wanted o (yielded ops a.tmps) = true := by simp [Region.wanted, hg]
  rw [if_pos hw]
  obtain ⟨w', hrun, r1, r2⟩ := run_appB w o.type g cap i m c cur xs ad hb hr hl hsr h1
  unfold Oper.wp
  simp [execOp, ho, resolve, invoke, builtin, hs, hx, hrun, Result.andThen]
  exact h w' r1 r2
theorem wpList_clearB {ops : Array Oper} {rest : List Oper} {o : Oper} {a : Act} {w : World} {Q : Exit → Act → World → Prop} (hgd : o.guard = none) (s : Operand) (ho : o.op = .call { callee := .builtin .clear, args := #[s], argTypes := #[57] })
    (g cap o' n c : Nat) (cur : List Value) (D : Option Addr) (hs : a.eval s = .slice D n c) (hD : D = fromA g cap o') (hb : Blk w g cap cur) (hn : o' + n ≤ cap)
    (h : ∀ w', Blk w' g cap (over cur o' (noughts n)) → Away [g] w w' → wpList Tryd.prog ops Q rest (a.put o.dst (.tuple #[])) w') : wpList Tryd.prog ops Q (o :: rest) a w :=
  wpList_plain hgd fun K hK => by
    obtain ⟨w', hrun, r1, r2⟩ := run_clearB w o.type g cap o' n c cur D hD hb hn
    unfold Oper.wp
    simp [execOp, ho, resolve, invoke, builtin, hs, hrun, Result.andThen]
    exact hK _ _ (h w' r1 r2)
/-- What the block holds behind it. -/
theorem del_cells {ks : List Dd} {cur : List Value} {cap i m : Nat} (hA : ∀ x ∈ ks, Okd x) (hn : ks.length = i + 1 + m) (hc : cur.length = cap * 40) (hnc : i + 1 + m ≤ cap) (ht : cur.take ((i + 1 + m) * 40) = ks.flatMap listD) :
    (over (over cur i ((ks.drop (i + 1)).flatMap listD)) (i + m) (noughts 1)).take ((i + m) * 40) = (ks.eraseIdx i).flatMap listD := by
  have hl : ((ks.drop (i + 1)).flatMap listD).length = m * 40 := by rw [flatD_len _ (fun x hx => hA x (List.mem_of_mem_drop hx)), List.length_drop, hn, show i + 1 + m - (i + 1) = m from by omega]
  have h1 : cur.take (i * 40) = (ks.take i).flatMap listD := by
    rw [← flat_take hA (by omega), ← ht, List.take_take]; congr 1; omega
  have h2 : ((ks.take i).flatMap listD).length = i * 40 := by rw [← h1, List.length_take]; omega
  rw [erase_flat]
  unfold over
  rw [h1]
  have h3 : ((ks.take i).flatMap listD ++ (ks.drop (i + 1)).flatMap listD ++ cur.drop (i * 40 + ((ks.drop (i + 1)).flatMap listD).length)).take ((i + m) * 40) = (ks.take i).flatMap listD ++ (ks.drop (i + 1)).flatMap listD := by
    rw [List.take_append_of_le_length (by rw [List.length_append, h2, hl]; omega), List.take_of_length_le (by rw [List.length_append, h2, hl]; omega)]
  rw [h3, List.append_assoc, List.take_append_of_le_length (by rw [List.length_append, h2, hl]; omega), List.take_of_length_le (by rw [List.length_append, h2, hl]; omega)]
set_option maxHeartbeats 8000000 in
theorem delete_c (w : World) (g cap : Nat) (ks : List Dd) (i m : Nat) (h : LstD w (.slice (some ⟨g, 0, none⟩) ks.length cap) ks) (hA : ∀ x ∈ ks, Okd x) (hl : ks.length ≤ 1000) (hm : ks.length = i + 1 + m) :
    Calls Tryd.prog 26 #[.slice (some ⟨g, 0, none⟩) ks.length cap, .int .i64 (i : Int), .int .i64 ((i + 1 : Nat) : Int)] w fun E w' => E = .returned (.slice (some ⟨g, 0, none⟩) (i + m) cap) ∧ LstD w' (.slice (some ⟨g, 0, none⟩) (i + m) cap) (ks.eraseIdx i) ∧ Away [g] w w' := by
  obtain ⟨cur, hb, hcm, hnc, htk, -⟩ := h.blk
  rw [hm] at hnc htk hl ⊢
  have HA := Lib.hid hA
  have HB := Lib.hid hb
  have HTK := Lib.hid htk
  have HCM := Lib.hid hcm
  have HM := Lib.hid hm
  have HXL : Hid (((ks.drop (i + 1)).flatMap listD).length = m * 40) := by show _ = _; rw [flatD_len _ (fun x hx => HA.out x (List.mem_of_mem_drop hx)), List.length_drop, hm, show i + 1 + m - (i + 1) = m from by omega]
  clear h hA hb hcm htk hm
  obtain ⟨j, hj⟩ : ∃ j, j = i + 1 := ⟨_, rfl⟩
  obtain ⟨n, hn⟩ : ∃ n, n = i + 1 + m := ⟨_, rfl⟩
  rw [← hn] at hnc hl HTK HM ⊢
  rw [← hj] at HXL ⊢
  have HJ := Lib.hid hj
  have HN := Lib.hid hn
  have f0 : n - j = m := by omega
  have f1 : 0 ≤ (i : Int) := by omega
  have f2 : (i : Int) ≤ (cap : Int) := by omega
  have f3 : (i : Int) ≤ (j : Int) := by omega
  have f4 : (j : Int) ≤ (n : Int) := by omega
  have f5 : (n : Int) ≤ (cap : Int) := by omega
  have f6 : 0 ≤ (j : Int) := by omega
  have f7 : i + m ≤ cap := by omega
  have f8 : ((i + m : Nat) : Int) ≤ (n : Int) := by omega
  have f9 : n - (i + m) = 1 := by omega
  have f10 : ¬ (cap = i + m) := by omega
  have e1b : ((i : Int) == (j : Int)) = false := by simp; omega
  have HSR : Hid (∀ k u, ((ks.drop j).flatMap listD)[k]? = some u → w.drew.cell? ⟨g, j * 40 + k, none⟩ = some u) := fun k u hk => by
    have hk' : k < m * 40 := by have := (List.getElem?_eq_some_iff.1 hk).1; rw [HXL.out] at this; exact this
    show w.cell? _ = _
    rw [HB.out.cell]
    rw [← flat_drop HA.out (by rw [HM.out]; omega), ← HTK.out, List.getElem?_drop, List.getElem?_take] at hk
    rw [if_pos (by omega)] at hk
    exact hk
  have HB' : Hid (Blk w.drew g cap cur) := HB.out
  have HONE : Hid (∀ u ∈ (ks.drop j).flatMap listD, u.oneCell' = true) := flatD_one _ (fun x hx => HA.out x (List.mem_of_mem_drop hx))
  have HDC : Hid ((over (over cur i ((ks.drop j).flatMap listD)) (i + m) (noughts 1)).take ((i + m) * 40) = (ks.eraseIdx i).flatMap listD) := by
    rw [hj]
    exact del_cells HA.out (by rw [HM.out, hn]) HB.out.2 (by omega) (by rw [← hn]; exact HTK.out)
  clear hj hn
  go_enter Tryd.func26, Tryd.ntmps26
  go_wp2_with fail
  by_cases hce : cap = j
  · have HX0 : Hid ((ks.drop j).flatMap listD = []) := List.eq_nil_of_length_eq_zero (by rw [HXL.out]; have h1 := HJ.out; have h2 := HN.out; omega)
    subst hce
    refine wp_region_held_drew (S := fun _ => True) (by kernel_rfl) trivial (fun hHeld => ?_)
    refine wpAnyH_take (i := 0) (v := ?_) (by simp only [List.getElem?_toArray, List.getElem?_cons_zero]; rfl) (by kernel_rfl) (by kernel_rfl) (by kernel_rfl) (by exact fun _ _ _ h => h) (Or.inl ⟨by rfl, ?_⟩) (by assumption) ?_
    rotate_left
    · intro wq hSw
      (try dsimp only at hSw)
      go_simp
      all_goals (with_reducible rfl)
    try simp only [Act.put, List.setIfInBounds_toArray, List.set_cons_zero, List.set_cons_succ]
    refine wpAnyH_take (i := 1) (v := ?_) (by simp only [List.getElem?_toArray, List.getElem?_cons_succ, List.getElem?_cons_zero]; rfl) (by kernel_rfl) (by kernel_rfl) (by kernel_rfl) (by exact fun _ _ _ h => h) (Or.inl ⟨by rfl, ?_⟩) (by assumption) ?_
    rotate_left
    · intro wq hSw
      (try dsimp only at hSw)
      go_simp
      all_goals (with_reducible rfl)
    try simp only [Act.put, List.setIfInBounds_toArray, List.set_cons_zero, List.set_cons_succ]
    refine wpAnyH_take (i := 2) (v := ?_) (by simp only [List.getElem?_toArray, List.getElem?_cons_succ, List.getElem?_cons_zero]; rfl) (by kernel_rfl) (by kernel_rfl) (by kernel_rfl) (by exact fun _ _ _ h => h) (Or.inl ⟨by rfl, ?_⟩) (by assumption) ?_
    rotate_left
    · intro wq hSw
      (try dsimp only at hSw)
      go_simp
      all_goals (with_reducible rfl)
    try simp only [Act.put, List.setIfInBounds_toArray, List.set_cons_zero, List.set_cons_succ]
    refine wpAnyH_take (i := 3) (v := ?_) (by simp only [List.getElem?_toArray, List.getElem?_cons_succ, List.getElem?_cons_zero]; rfl) (by kernel_rfl) (by kernel_rfl) (by kernel_rfl) (by exact fun _ _ _ h => h) (Or.inl ⟨by rfl, ?_⟩) (by assumption) ?_
    rotate_left
    · intro wq hSw
      (try dsimp only at hSw)
      go_simp
      all_goals (with_reducible rfl)
    try simp only [Act.put, List.setIfInBounds_toArray, List.set_cons_zero, List.set_cons_succ]
    refine wpAnyH_take (i := 4) (v := ?_) (by simp only [List.getElem?_toArray, List.getElem?_cons_succ, List.getElem?_cons_zero]; rfl) (by kernel_rfl) (by kernel_rfl) (by kernel_rfl) (by exact fun _ _ _ h => h) (Or.inl ⟨by rfl, ?_⟩) (by assumption) ?_
    rotate_left
    · intro wq hSw
      (try dsimp only at hSw)
      go_simp
      all_goals (with_reducible rfl)
    try simp only [Act.put, List.setIfInBounds_toArray, List.set_cons_zero, List.set_cons_succ]
    refine wpAnyH_take (i := 5) (v := ?_) (by simp only [List.getElem?_toArray, List.getElem?_cons_succ, List.getElem?_cons_zero]; rfl) (by kernel_rfl) (by kernel_rfl) (by kernel_rfl) (by exact fun _ _ _ h => h) (Or.inl ⟨by rfl, ?_⟩) (by assumption) ?_
    rotate_left
    · intro wq hSw
      (try dsimp only at hSw)
      go_simp
      all_goals (with_reducible rfl)
    try simp only [Act.put, List.setIfInBounds_toArray, List.set_cons_zero, List.set_cons_succ]
    refine wpAnyH_ready (rs := [6]) (by kernel_rfl) (by simp) ?_
    refine AllReadyH.cons (by simp only [List.getElem?_toArray, List.getElem?_cons_succ, List.getElem?_cons_zero]; rfl) (fun K hK => ?_) AllReadyH.nil
    refine step_appB rfl _ _ rfl g cap i m _ cur ((ks.drop cap).flatMap listD) ⟨g, 0, none⟩ rfl rfl (by exact HB'.out) (by omega) (by exact HXL.out) (fun k u hk => by rw [HX0.out] at hk; simp at hk) (by exact HONE.out) ?_
    intro w2 hb2 haw2
    have HB2 := Lib.hid hb2
    have HA2 : Hid (Away [g] w w2) := ⟨haw2.os, haw2.tape, haw2.output, haw2.size, haw2.block⟩
    clear hb2 haw2
    refine hK.out _ _ trivial (fun hHeld => ?_)
    clear hK K
    try simp only [Act.put, List.setIfInBounds_toArray, List.set_cons_zero, List.set_cons_succ]
    refine wpAnyH_take (i := 7) (v := ?_) (by simp only [List.getElem?_toArray, List.getElem?_cons_succ, List.getElem?_cons_zero]; rfl) (by kernel_rfl) (by kernel_rfl) (by kernel_rfl) (by exact fun _ _ _ h => h) (Or.inl ⟨by rfl, ?_⟩) (by assumption) ?_
    rotate_left
    · intro wq hSw
      (try dsimp only at hSw)
      go_simp
      all_goals (with_reducible rfl)
    try simp only [Act.put, List.setIfInBounds_toArray, List.set_cons_zero, List.set_cons_succ]
    refine wpAnyH_done (by kernel_rfl) ?_ _
    go_wp2_with (refine wpList_clearB rfl _ rfl g cap (i + m) (n - (i + m)) (cap - (i + m)) (over cur i ((ks.drop cap).flatMap listD)) (some ⟨g, (i + m) * 40, none⟩) rfl (by unfold fromA; rw [if_neg (by omega)]) (by exact HB2.out) (by omega) ?_; refine Hid.out ?_)
    refine Lib.hid ?_
    intro w3 hb3 haw3
    have HB3 := Lib.hid hb3
    replace HA2 := Lib.hid (HA2.out.trans haw3)
    clear hb3 haw3
    go_wp2_with fail
    go_ret
    exact ⟨rfl, HB3.out.lst (fun x hx => HA.out x (List.mem_of_mem_eraseIdx hx)) HCM.out (by rw [List.length_eraseIdx, if_pos (by rw [HM.out]; have h1 := HN.out; omega), HM.out]; have h1 := HN.out; omega) (by omega) HDC.out, HA2.out⟩
  · have hce2 := hce
    refine wp_region_held_drew (S := fun _ => True) (by kernel_rfl) trivial (fun hHeld => ?_)
    refine wpAnyH_take (i := 0) (v := ?_) (by simp only [List.getElem?_toArray, List.getElem?_cons_zero]; rfl) (by kernel_rfl) (by kernel_rfl) (by kernel_rfl) (by exact fun _ _ _ h => h) (Or.inl ⟨by rfl, ?_⟩) (by assumption) ?_
    rotate_left
    · intro wq hSw
      (try dsimp only at hSw)
      go_simp
      all_goals (with_reducible rfl)
    try simp only [Act.put, List.setIfInBounds_toArray, List.set_cons_zero, List.set_cons_succ]
    refine wpAnyH_take (i := 1) (v := ?_) (by simp only [List.getElem?_toArray, List.getElem?_cons_succ, List.getElem?_cons_zero]; rfl) (by kernel_rfl) (by kernel_rfl) (by kernel_rfl) (by exact fun _ _ _ h => h) (Or.inl ⟨by rfl, ?_⟩) (by assumption) ?_
    rotate_left
    · intro wq hSw
      (try dsimp only at hSw)
      go_simp
      all_goals (with_reducible rfl)
    try simp only [Act.put, List.setIfInBounds_toArray, List.set_cons_zero, List.set_cons_succ]
    refine wpAnyH_take (i := 2) (v := ?_) (by simp only [List.getElem?_toArray, List.getElem?_cons_succ, List.getElem?_cons_zero]; rfl) (by kernel_rfl) (by kernel_rfl) (by kernel_rfl) (by exact fun _ _ _ h => h) (Or.inl ⟨by rfl, ?_⟩) (by assumption) ?_
    rotate_left
    · intro wq hSw
      (try dsimp only at hSw)
      go_simp
      all_goals (with_reducible rfl)
    try simp only [Act.put, List.setIfInBounds_toArray, List.set_cons_zero, List.set_cons_succ]
    refine wpAnyH_take (i := 3) (v := ?_) (by simp only [List.getElem?_toArray, List.getElem?_cons_succ, List.getElem?_cons_zero]; rfl) (by kernel_rfl) (by kernel_rfl) (by kernel_rfl) (by exact fun _ _ _ h => h) (Or.inl ⟨by rfl, ?_⟩) (by assumption) ?_
    rotate_left
    · intro wq hSw
      (try dsimp only at hSw)
      go_simp
      all_goals (with_reducible rfl)
    try simp only [Act.put, List.setIfInBounds_toArray, List.set_cons_zero, List.set_cons_succ]
    refine wpAnyH_take (i := 4) (v := ?_) (by simp only [List.getElem?_toArray, List.getElem?_cons_succ, List.getElem?_cons_zero]; rfl) (by kernel_rfl) (by kernel_rfl) (by kernel_rfl) (by exact fun _ _ _ h => h) (Or.inl ⟨by rfl, ?_⟩) (by assumption) ?_
    rotate_left
    · intro wq hSw
      (try dsimp only at hSw)
      go_simp
      all_goals (with_reducible rfl)
    try simp only [Act.put, List.setIfInBounds_toArray, List.set_cons_zero, List.set_cons_succ]
    refine wpAnyH_take (i := 5) (v := ?_) (by simp only [List.getElem?_toArray, List.getElem?_cons_succ, List.getElem?_cons_zero]; rfl) (by kernel_rfl) (by kernel_rfl) (by kernel_rfl) (by exact fun _ _ _ h => h) (Or.inl ⟨by rfl, ?_⟩) (by assumption) ?_
    rotate_left
    · intro wq hSw
      (try dsimp only at hSw)
      go_simp
      all_goals (with_reducible rfl)
    try simp only [Act.put, List.setIfInBounds_toArray, List.set_cons_zero, List.set_cons_succ]
    refine wpAnyH_ready (rs := [6]) (by kernel_rfl) (by simp) ?_
    refine AllReadyH.cons (by simp only [List.getElem?_toArray, List.getElem?_cons_succ, List.getElem?_cons_zero]; rfl) (fun K hK => ?_) AllReadyH.nil
    refine step_appB rfl _ _ rfl g cap i m _ cur ((ks.drop j).flatMap listD) ⟨g, j * 40, none⟩ rfl rfl (by exact HB'.out) (by omega) (by exact HXL.out) (fun k u hk => by rw [add_plain]; exact HSR.out k u hk) (by exact HONE.out) ?_
    intro w2 hb2 haw2
    have HB2 := Lib.hid hb2
    have HA2 : Hid (Away [g] w w2) := ⟨haw2.os, haw2.tape, haw2.output, haw2.size, haw2.block⟩
    clear hb2 haw2
    refine hK.out _ _ trivial (fun hHeld => ?_)
    clear hK K
    try simp only [Act.put, List.setIfInBounds_toArray, List.set_cons_zero, List.set_cons_succ]
    refine wpAnyH_take (i := 7) (v := ?_) (by simp only [List.getElem?_toArray, List.getElem?_cons_succ, List.getElem?_cons_zero]; rfl) (by kernel_rfl) (by kernel_rfl) (by kernel_rfl) (by exact fun _ _ _ h => h) (Or.inl ⟨by rfl, ?_⟩) (by assumption) ?_
    rotate_left
    · intro wq hSw
      (try dsimp only at hSw)
      go_simp
      all_goals (with_reducible rfl)
    try simp only [Act.put, List.setIfInBounds_toArray, List.set_cons_zero, List.set_cons_succ]
    refine wpAnyH_done (by kernel_rfl) ?_ _
    go_wp2_with (refine wpList_clearB rfl _ rfl g cap (i + m) (n - (i + m)) (cap - (i + m)) (over cur i ((ks.drop j).flatMap listD)) (some ⟨g, (i + m) * 40, none⟩) rfl (by unfold fromA; rw [if_neg (by omega)]) (by exact HB2.out) (by omega) ?_; refine Hid.out ?_)
    refine Lib.hid ?_
    intro w3 hb3 haw3
    have HB3 := Lib.hid hb3
    replace HA2 := Lib.hid (HA2.out.trans haw3)
    clear hb3 haw3
    go_wp2_with fail
    go_ret
    exact ⟨rfl, HB3.out.lst (fun x hx => HA.out x (List.mem_of_mem_eraseIdx hx)) HCM.out (by rw [List.length_eraseIdx, if_pos (by rw [HM.out]; have h1 := HN.out; omega), HM.out]; have h1 := HN.out; omega) (by omega) HDC.out, HA2.out⟩
end Go.Proofs.YtpmkmldcgiodgaaDoor.W
