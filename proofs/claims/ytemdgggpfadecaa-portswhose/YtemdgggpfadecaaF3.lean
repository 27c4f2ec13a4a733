/-
  At, Close, Bind.
-/
import Derived.Test.YtemdgggpfadecaaF2
namespace Go.Proofs.Ytemdgggpfadecaa
open Go.ChangeShapes Go.WideShapes Go.ChangeAt Go.RowKit
set_option linter.unusedVariables false
set_option linter.unusedSimpArgs false
set_option maxRecDepth 100000

theorem results_cell_tmp2 {fn : Func} {p u v : Tmp} {ty : TypeId} (h : fn.results = #[.cell p ty, .tmp u, .tmp v]) (tmps : Array Value) (P : Program) (w : World) :
    (results fn tmps).run P w =
      ((asAddr (tmps.getD p undef)).run P w).andThen fun a w1 => ((loadVar ty a).run P w1).andThen fun x w2 => .ok (.tuple #[x, tmps.getD u undef, tmps.getD v undef]) w2 := by
  simp only [results, h]
  simp [Sem.run_bind, Result.andThen]
theorem result32tt {fn : Func} {t u u' : Tmp} (h : fn.results = #[.cell t 32, .tmp u, .tmp u']) (tmps : Array Value) (w : World) (g : Nat) (cs : Array Value) (v v' : Value) (ht : tmps.getD t undef = .pointer (some ⟨g, 0, none⟩)) (hu : tmps.getD u undef = v) (hu' : tmps.getD u' undef = v') (hb : rowAt w g = some cs) :
    (results fn tmps).run Try.prog w = .ok (.tuple #[.agg cs, v, v']) w := by
  obtain ⟨ty, hh, hs⟩ := rowAt_some hb
  rw [results_cell_tmp2 h, ht, hu, hu']
  simp only [asAddr, Sem.run_pure, Result.andThen, run_loadVar_row w g ty 32 cs (0, 0) _ hh Try.underlying32 rfl (by rw [hs]; exact info24)]
theorem step_store32 {ops : Array Oper} {o : Oper} {a : Act} {w : World} {K : Act → World → Prop} {Q : Exit → Act → World → Prop} {E : Prop} (hg : o.guard = none) (x y : Operand) (ho : o.op = .store 32 x y) (g : Nat) (hx : a.eval x = .pointer (some ⟨g, 0, none⟩)) (v : Int) (l : List Int) (hl : l.length = 16) (hy : a.eval y = .agg (csA v l)) (c : Array Value) (hr : rowAt w g = some c)
    (hK : ∀ w', rowAt w' g = some (csA v l) → Away [g] w w' → K (a.put o.dst undef) w') : if Region.wanted o (yielded ops a.tmps) = true then Oper.wp Try.prog o a w K Q else E := by
  have hw : Region.wanted o (yielded ops a.tmps) = true := by simp [Region.wanted, hg]
  rw [if_pos hw]
  unfold Oper.wp execOp
  simp only [ho, hx, hy, Sem.run_bind, store24_old w g c (csA v l) hr (csA_size hl) (csA_one v l), Result.andThen_ok, Sem.run_pure]
  exact hK _ (rowAt_setRow hr _ (csA_size hl)) ((Away.refl [g] w).setRow (.inl (by simp)) _)
theorem wpList_store32 {ops : Array Oper} {rest : List Oper} {o : Oper} {a : Act} {w : World} {Q : Exit → Act → World → Prop} (hw : Region.wanted o (yielded ops a.tmps) = true) (x y : Operand) (ho : o.op = .store 32 x y) (g : Nat) (hx : a.eval x = .pointer (some ⟨g, 0, none⟩)) (v : Int) (l : List Int) (hl : l.length = 16) (hy : a.eval y = .agg (csA v l)) (c : Array Value) (hr : rowAt w g = some c)
    (h : ∀ w', rowAt w' g = some (csA v l) → Away [g] w w' → wpList Try.prog ops Q rest (a.put o.dst undef) w') : wpList Try.prog ops Q (o :: rest) a w := by
  refine BigFrame.wpList_want hw fun K hK => ?_
  unfold Oper.wp execOp
  simp only [ho, hx, hy, Sem.run_bind, store24_old w g c (csA v l) hr (csA_size hl) (csA_one v l), Result.andThen_ok, Sem.run_pure]
  exact hK _ _ (h _ (rowAt_setRow hr _ (csA_size hl)) ((Away.refl [g] w).setRow (.inl (by simp)) _))
theorem zero32 : (Try.prog.info? 32).bind (·.zero) = some (.agg (csA 0 z16)) := by kernel_rfl
theorem wpList_alloc32 {ops : Array Oper} {rest : List Oper} {o : Oper} {a : Act} {w : World} {Q : Exit → Act → World → Prop} (hg : o.guard = none) (ho : o.op = .alloc 32)
    (h : ∀ g w1, w.heap.size ≤ g → rowAt w1 g = some (csA 0 z16) → Away [] w w1 → wpList Try.prog ops Q rest (a.put o.dst (.pointer (some ⟨g, 0, none⟩))) w1) : wpList Try.prog ops Q (o :: rest) a w := by
  have hz : (zeroValue 32).run Try.prog w = .ok (.agg (csA 0 z16)) w := by
    have := zero32
    cases hi : Try.prog.info? 32 with
    | none => rw [hi] at this; simp at this
    | some i => rw [hi] at this; simp at this; simp [zeroValue, typeInfo, hi, this]
  refine wpList_plain hg fun K hK => ?_
  unfold Oper.wp execOp
  simp only [ho, Sem.run_bind, Instr.alloc, hz, newVar, newRow, run_newObj_alloc, Sem.run_pure, Result.andThen_ok]
  exact hK _ _ (h w.heap.size _ (Nat.le_refl _) (rowAt_new _ _ _ rfl) ((Away.refl [] w).alloc _))
theorem run_build0 (w : World) : (Instr.build 32 #[]).run Try.prog w = .ok (.agg (csA 0 z16)) w := by kernel_rfl
theorem wpList_build0 {ops : Array Oper} {rest : List Oper} {o : Oper} {a : Act} {w : World} {Q : Exit → Act → World → Prop} (hg : o.guard = none) (ho : o.op = .build 32 #[])
    (h : wpList Try.prog ops Q rest (a.put o.dst (.agg (csA 0 z16))) w) : wpList Try.prog ops Q (o :: rest) a w := by
  refine wpList_plain hg fun K hK => ?_
  unfold Oper.wp execOp
  simp [ho, run_build0, Sem.run_bind, Result.andThen_ok, Sem.run_pure]
  exact hK _ _ h
theorem KB.yields_ixE {ops : Array Oper} {S : World → Prop} {op : Oper} {a : Act} (hw : Region.wanted op (yielded ops a.tmps) = true) (x ix : Operand) (ho : op.op = .indexAddr 59 x ix) (gb n cap i : Nat) (hx : a.eval x = .slice (some ⟨gb, 0, none⟩) n cap) (hix : a.eval ix = .int .i64 (i : Int)) (hi : i < n) : YieldsIf Try.prog ops S op (.pointer (some ⟨gb, i * 19, none⟩)) a :=
  .inl ⟨hw, fun w hw' => by
    have he : Try.prog.elem 59 = 64 := by kernel_rfl
    have hsz : (sizeOf 64).run Try.prog w = .ok 19 w := by kernel_rfl
    unfold execOp
    simp only [ho, hx, hix, Sem.run_bind]
    rw [run_indexAt_slice w 59 ⟨gb, 0, none⟩ n cap .i64 (i : Int) KB.underK, he, if_pos ⟨by omega, by omega⟩, hsz]
    simp only [Result.andThen, add_plain, Int.toNat_natCast, Nat.zero_add]
    rfl⟩
theorem KS.yields_ixE {ops : Array Oper} {S : World → Prop} {op : Oper} {a : Act} (hw : Region.wanted op (yielded ops a.tmps) = true) (x ix : Operand) (ho : op.op = .indexAddr 72 x ix) (gb n cap i : Nat) (hx : a.eval x = .slice (some ⟨gb, 0, none⟩) n cap) (hix : a.eval ix = .int .i64 (i : Int)) (hi : i < n) : YieldsIf Try.prog ops S op (.pointer (some ⟨gb, i * 19, none⟩)) a :=
  .inl ⟨hw, fun w hw' => by
    have he : Try.prog.elem 72 = 83 := by kernel_rfl
    have hsz : (sizeOf 83).run Try.prog w = .ok 19 w := by kernel_rfl
    unfold execOp
    simp only [ho, hx, hix, Sem.run_bind]
    rw [run_indexAt_slice w 72 ⟨gb, 0, none⟩ n cap .i64 (i : Int) KS.underK, he, if_pos ⟨by omega, by omega⟩, hsz]
    simp only [Result.andThen, add_plain, Int.toNat_natCast, Nat.zero_add]
    rfl⟩
open KB in
set_option maxHeartbeats 8000000 in
theorem at_c {w : World} {g : Nat} {v : Value} {t : Tb} (h : Tm w g v t) (s : Int) :
    Calls Try.prog 17 #[.pointer (some ⟨g, 0, none⟩), .int .i64 s] w fun E w' => E = .returned (.tuple #[.agg (csA (atP t s).1 (atP t s).2.1), .int .i64 (atP t s).2.2.1, .int .i64 (atP t s).2.2.2]) ∧ Away [] w w' := by
  have H := Lib.hid h
  have hgw := h.lt
  have KP : Hid (∀ W, Away [] w W → Calls Try.prog 24 #[.pointer (some ⟨g, 0, none⟩), .int .i64 s] W fun E w' => E = .returned (.int .i64 (plc (idxP (isN s) t.bs))) ∧ Away [] W w') := fun W hW => place_c (h.on hW) s
  obtain ⟨o, ho⟩ : ∃ o, o = idxP (isN s) t.bs := ⟨_, rfl⟩
  rw [← ho] at KP
  have HO := Lib.hid ho
  clear h ho
  go_enter Try.func17, Try.ntmps17
  go_wp2_with (refine wpList_alloc32 rfl rfl ?_; refine Hid.out ?_)
  refine Lib.hid ?_
  intro g4 w1 hg4 hr haw
  have HA := Lib.hid haw
  have HR := Lib.hid hr
  clear haw hr
  go_wp2_with fail
  refine (KP.out _ HA.out).mono ?_
  rintro E w2 ⟨rfl, haw⟩
  have hlt4 := rowAt_lt HR.out
  replace HR := Lib.hid (rowAt_below HR.out (Away.to_below haw) hlt4)
  replace HA := Lib.hid (HA.out.trans haw)
  clear haw KP hlt4
  rcases o with _ | k
  · have HE : Hid (atP t s = (0, z16, 0, 1)) := by show _ = _; unfold atP; rw [← HO.out]
    simp only [plc]
    go_wp2_with (first
      | (refine wpList_build0 rfl rfl ?_)
      | (refine wpList_store32 rfl _ _ rfl g4 rfl 0 z16 rfl rfl _ HR.out ?_; refine Hid.out ?_))
    refine Lib.hid ?_
    intro w3 hr3 haw
    have HR3 := Lib.hid hr3
    replace HA := Lib.hid (HA.out.next haw (fun x hx => .inr (by simp at hx; subst hx; omega)))
    clear hr3 haw
    go_wp2_with fail
    refine bodyPost_ret (v := .tuple #[.agg (csA 0 z16), .int .i64 0, .int .i64 1]) ?_ rfl ⟨by rw [HE.out], HA.out⟩
    exact result32tt rfl _ _ g4 _ _ _ rfl rfl rfl HR3.out
  · obtain ⟨y, hy, -, -⟩ := idx_get HO.out.symm
    have hk := idx_lt HO.out.symm
    have HE : Hid (atP t s = (y.v, y.l, y.p, 0)) := by show _ = _; unfold atP; rw [← HO.out]; simp only [hy]
    simp only [plc]
    obtain ⟨la, lc, rfl, hat⟩ := H.out.shape
    have HYO := Lib.hid (H.out.wf.okd y (List.mem_of_getElem? hy))
    obtain ⟨b, hb, hrg⟩ := hat k y hy
    subst hb
    have hblt : b < w.heap.size := H.out.lst.lt b rfl
    have c2 := HA.out.cell (by simp) H.out.c2
    have HRG := Lib.hid (range_away HA.out (by simp) hrg)
    obtain ⟨n, hn⟩ : ∃ n, n = t.bs.length := ⟨_, rfl⟩
    rw [← hn] at c2 hk
    have hkd : decide ((k : Int) < 0) = false := by simp
    clear hat hrg hy hn H HO
    have C2 := Lib.hid c2
    clear c2
    go_wp2_with fail
    refine wp_region_held_drew (S := (fun w' => w'.cell? ⟨g, 2, none⟩ = some (.slice (some ⟨b, 0, none⟩) n lc) ∧ w'.rangeAt b (k * 19) (listD y) ∧ ∃ c, rowAt w' g4 = some c)) (by kernel_rfl) ⟨by exact C2.out, by exact HRG.out, _, by exact HR.out⟩ (fun hHeld => ?_)
    have haw := (Away.refl [] w2).drew
    replace HA := Lib.hid (HA.out.trans haw)
    clear haw HR HRG C2
    refine wpAnyH_take (i := 0) (v := ?_) (by simp only [List.getElem?_toArray, List.getElem?_cons_zero]; rfl) (by kernel_rfl) (by kernel_rfl) (by kernel_rfl) (by exact fun _ _ _ h => h) (Or.inl ⟨by rfl, ?_⟩) (by assumption) ?_
    rotate_left
    · intro wq hSw
      (try dsimp only at hSw)
      go_simp
      all_goals (with_reducible rfl)
    try simp only [Act.put, List.setIfInBounds_toArray, List.set_cons_zero, List.set_cons_succ]
    refine wpAnyH_take (i := 1) (v := ?_) (by simp only [List.getElem?_toArray, List.getElem?_cons_succ, List.getElem?_cons_zero]; rfl) (by kernel_rfl) (by kernel_rfl) (by kernel_rfl) (by exact fun _ _ _ h => h) (Or.inl ⟨by rfl, ?_⟩) (by assumption) ?_
    rotate_left
    · intro wq hSw
      (try dsimp only at hSw)
      go_simp
      all_goals (with_reducible rfl)
    try simp only [Act.put, List.setIfInBounds_toArray, List.set_cons_zero, List.set_cons_succ]
    refine wpAnyH_take (i := 2) (v := ?_) (by simp only [List.getElem?_toArray, List.getElem?_cons_succ, List.getElem?_cons_zero]; rfl) (by kernel_rfl) (by kernel_rfl) (by kernel_rfl) (by exact fun _ _ _ h => h) (Or.inl ⟨by rfl, ?_⟩) (by assumption) ?_
    rotate_left
    · intro wq hSw
      (try dsimp only at hSw)
      go_simp
      all_goals (with_reducible rfl)
    try simp only [Act.put, List.setIfInBounds_toArray, List.set_cons_zero, List.set_cons_succ]
    refine wpAnyH_take (i := 3) (by simp only [List.getElem?_toArray, List.getElem?_cons_succ, List.getElem?_cons_zero]; rfl) (by kernel_rfl) (by kernel_rfl) (by kernel_rfl) (by exact fun _ _ _ h => h) (yields_ld (ad := ⟨g, 2, none⟩) (by rfl) _ rfl rfl (fun w' h => KB.ldL h.1)) (by assumption) ?_
    try simp only [Act.put, List.setIfInBounds_toArray, List.set_cons_zero, List.set_cons_succ]
    refine wpAnyH_take (i := 4) (v := ?_) (by simp only [List.getElem?_toArray, List.getElem?_cons_succ, List.getElem?_cons_zero]; rfl) (by kernel_rfl) (by kernel_rfl) (by kernel_rfl) (by exact fun _ _ _ h => h) (Or.inl ⟨by rfl, ?_⟩) (by assumption) ?_
    rotate_left
    · intro wq hSw
      (try dsimp only at hSw)
      go_simp
      all_goals (with_reducible rfl)
    try simp only [Act.put, List.setIfInBounds_toArray, List.set_cons_zero, List.set_cons_succ]
    refine wpAnyH_take (i := 5) (by simp only [List.getElem?_toArray, List.getElem?_cons_succ, List.getElem?_cons_zero]; rfl) (by kernel_rfl) (by kernel_rfl) (by kernel_rfl) (by exact fun _ _ _ h => h) (KB.yields_ixE (by rfl) _ _ rfl b n lc k rfl rfl (by omega)) (by assumption) ?_
    try simp only [Act.put, List.setIfInBounds_toArray, List.set_cons_zero, List.set_cons_succ]
    refine wpAnyH_take (i := 6) (v := ?_) (by simp only [List.getElem?_toArray, List.getElem?_cons_succ, List.getElem?_cons_zero]; rfl) (by kernel_rfl) (by kernel_rfl) (by kernel_rfl) (by exact fun _ _ _ h => h) (Or.inl ⟨by rfl, ?_⟩) (by assumption) ?_
    rotate_left
    · intro wq hSw
      (try dsimp only at hSw)
      go_simp
      all_goals (with_reducible rfl)
    try simp only [Act.put, List.setIfInBounds_toArray, List.set_cons_zero, List.set_cons_succ]
    refine wpAnyH_take (i := 7) (by simp only [List.getElem?_toArray, List.getElem?_cons_succ, List.getElem?_cons_zero]; rfl) (by kernel_rfl) (by kernel_rfl) (by kernel_rfl) (by exact fun _ _ _ h => h) (yields_ld (ad := ⟨b, k * 19 + 1, none⟩) (by rfl) _ rfl rfl (fun w' h => load32m_run (range_a h.2.1 HYO.out) HYO.out)) (by assumption) ?_
    try simp only [Act.put, List.setIfInBounds_toArray, List.set_cons_zero, List.set_cons_succ]
    refine wpAnyH_take (i := 8) (v := ?_) (by simp only [List.getElem?_toArray, List.getElem?_cons_succ, List.getElem?_cons_zero]; rfl) (by kernel_rfl) (by kernel_rfl) (by kernel_rfl) (by exact fun _ _ _ h => h) (Or.inl ⟨by rfl, ?_⟩) (by assumption) ?_
    rotate_left
    · intro wq hSw
      (try dsimp only at hSw)
      go_simp
      all_goals (with_reducible rfl)
    try simp only [Act.put, List.setIfInBounds_toArray, List.set_cons_zero, List.set_cons_succ]
    refine wpAnyH_take (i := 9) (v := ?_) (by simp only [List.getElem?_toArray, List.getElem?_cons_succ, List.getElem?_cons_zero]; rfl) (by kernel_rfl) (by kernel_rfl) (by kernel_rfl) (by exact fun _ _ _ h => h) (Or.inl ⟨by rfl, ?_⟩) (by assumption) ?_
    rotate_left
    · intro wq hSw
      (try dsimp only at hSw)
      go_simp
      all_goals (with_reducible rfl)
    try simp only [Act.put, List.setIfInBounds_toArray, List.set_cons_zero, List.set_cons_succ]
    refine wpAnyH_take (i := 10) (v := ?_) (by simp only [List.getElem?_toArray, List.getElem?_cons_succ, List.getElem?_cons_zero]; rfl) (by kernel_rfl) (by kernel_rfl) (by kernel_rfl) (by exact fun _ _ _ h => h) (Or.inl ⟨by rfl, ?_⟩) (by assumption) ?_
    rotate_left
    · intro wq hSw
      (try dsimp only at hSw)
      go_simp
      all_goals (with_reducible rfl)
    try simp only [Act.put, List.setIfInBounds_toArray, List.set_cons_zero, List.set_cons_succ]
    refine wpAnyH_take (i := 11) (by simp only [List.getElem?_toArray, List.getElem?_cons_succ, List.getElem?_cons_zero]; rfl) (by kernel_rfl) (by kernel_rfl) (by kernel_rfl) (by exact fun _ _ _ h => h) (yields_ld (ad := ⟨g, 2, none⟩) (by rfl) _ rfl rfl (fun w' h => KB.ldL h.1)) (by assumption) ?_
    try simp only [Act.put, List.setIfInBounds_toArray, List.set_cons_zero, List.set_cons_succ]
    refine wpAnyH_take (i := 12) (v := ?_) (by simp only [List.getElem?_toArray, List.getElem?_cons_succ, List.getElem?_cons_zero]; rfl) (by kernel_rfl) (by kernel_rfl) (by kernel_rfl) (by exact fun _ _ _ h => h) (Or.inl ⟨by rfl, ?_⟩) (by assumption) ?_
    rotate_left
    · intro wq hSw
      (try dsimp only at hSw)
      go_simp
      all_goals (with_reducible rfl)
    try simp only [Act.put, List.setIfInBounds_toArray, List.set_cons_zero, List.set_cons_succ]
    refine wpAnyH_take (i := 13) (by simp only [List.getElem?_toArray, List.getElem?_cons_succ, List.getElem?_cons_zero]; rfl) (by kernel_rfl) (by kernel_rfl) (by kernel_rfl) (by exact fun _ _ _ h => h) (KB.yields_ixE (by rfl) _ _ rfl b n lc k rfl rfl (by omega)) (by assumption) ?_
    try simp only [Act.put, List.setIfInBounds_toArray, List.set_cons_zero, List.set_cons_succ]
    refine wpAnyH_take (i := 14) (v := ?_) (by simp only [List.getElem?_toArray, List.getElem?_cons_succ, List.getElem?_cons_zero]; rfl) (by kernel_rfl) (by kernel_rfl) (by kernel_rfl) (by exact fun _ _ _ h => h) (Or.inl ⟨by rfl, ?_⟩) (by assumption) ?_
    rotate_left
    · intro wq hSw
      (try dsimp only at hSw)
      go_simp
      all_goals (with_reducible rfl)
    try simp only [Act.put, List.setIfInBounds_toArray, List.set_cons_zero, List.set_cons_succ]
    refine wpAnyH_take (i := 15) (by simp only [List.getElem?_toArray, List.getElem?_cons_succ, List.getElem?_cons_zero]; rfl) (by kernel_rfl) (by kernel_rfl) (by kernel_rfl) (by exact fun _ _ _ h => h) (yields_ld (ad := ⟨b, k * 19 + 18, none⟩) (by rfl) _ rfl rfl (fun w' h => ld3 (range_p h.2.1 HYO.out))) (by assumption) ?_
    try simp only [Act.put, List.setIfInBounds_toArray, List.set_cons_zero, List.set_cons_succ]
    refine wpAnyH_ready (rs := [16]) (by kernel_rfl) (by simp) ?_
    refine AllReadyH.cons (by simp only [List.getElem?_toArray, List.getElem?_cons_succ, List.getElem?_cons_zero]; rfl) (fun K hK => ?_) AllReadyH.nil
    refine step_store32 rfl _ _ rfl g4 rfl y.v y.l HYO.out rfl _ hHeld.2.2.choose_spec (fun w4 hr4 haw => ?_)
    have hS : w4.cell? ⟨g, 2, none⟩ = some (.slice (some ⟨b, 0, none⟩) n lc) ∧ w4.rangeAt b (k * 19) (listD y) ∧ ∃ c, rowAt w4 g4 = some c := ⟨haw.cell (by simp; omega) hHeld.1, range_away haw (by simp; omega) hHeld.2.1, _, hr4⟩
    have HR4 := Lib.hid hr4
    replace HA := Lib.hid (HA.out.next haw (fun x hx => .inr (by simp at hx; subst hx; omega)))
    clear hr4 haw hHeld
    refine hK.out _ _ hS (fun hHeld => ?_)
    clear hK K
    try simp only [Act.put, List.setIfInBounds_toArray, List.set_cons_zero, List.set_cons_succ]
    clear hS
    refine wpAnyH_take (i := 17) (v := ?_) (by simp only [List.getElem?_toArray, List.getElem?_cons_succ, List.getElem?_cons_zero]; rfl) (by kernel_rfl) (by kernel_rfl) (by kernel_rfl) (by exact fun _ _ _ h => h) (Or.inl ⟨by rfl, ?_⟩) (by assumption) ?_
    rotate_left
    · intro wq hSw
      (try dsimp only at hSw)
      go_simp
      all_goals (with_reducible rfl)
    try simp only [Act.put, List.setIfInBounds_toArray, List.set_cons_zero, List.set_cons_succ]
    refine wpAnyH_take (i := 18) (v := ?_) (by simp only [List.getElem?_toArray, List.getElem?_cons_succ, List.getElem?_cons_zero]; rfl) (by kernel_rfl) (by kernel_rfl) (by kernel_rfl) (by exact fun _ _ _ h => h) (Or.inl ⟨by rfl, ?_⟩) (by assumption) ?_
    rotate_left
    · intro wq hSw
      (try dsimp only at hSw)
      go_simp
      all_goals (with_reducible rfl)
    try simp only [Act.put, List.setIfInBounds_toArray, List.set_cons_zero, List.set_cons_succ]
    clear hHeld
    refine wpAnyH_done (by kernel_rfl) ?_ _
    go_wp2_with fail
    refine bodyPost_ret (v := .tuple #[.agg (csA y.v y.l), .int .i64 y.p, .int .i64 0]) ?_ rfl ⟨by rw [HE.out], HA.out⟩
    exact result32tt rfl _ _ g4 _ _ _ rfl rfl rfl HR4.out
def COut (w : World) (g : Nat) (v : Value) (r : Int × Tb) (E : Ending) (w' : World) : Prop := E = .returned (.int .i64 r.1) ∧ ∃ v', KB.Tm w' g v' r.2 ∧ Away (KB.fp g v) w w' ∧ Moved w v v'
theorem KB.Tm.line {w : World} {g : Nat} {v v' : Value} {t : Tb} (h : KB.Tm w g v t) (bs : List Bd) (hl : KB.LstD w v' bs) (hv : ∀ k, v'.ownBlock = some k → k ≠ g) (hw : WfT ⟨t.most, t.last, bs⟩) : KB.Tm (w.setCell ⟨g, 2, none⟩ v') g v' ⟨t.most, t.last, bs⟩ := by
  refine ⟨by rw [block_set h.box]; rfl, hl.away ((Away.refl [g] w).setCell (p := ⟨g, 2, none⟩) (.inl (by simp)) v') (fun k hk => by simp; exact hv k hk), hv, hw⟩
open KB in
set_option maxHeartbeats 8000000 in
theorem close_c {w : World} {g : Nat} {v : Value} {t : Tb} (h : Tm w g v t) (s : Int) :
    Calls Try.prog 11 #[.pointer (some ⟨g, 0, none⟩), .int .i64 s] w (COut w g v (closeP t s)) := by
  have H := Lib.hid h
  have KP : Hid (∀ W, Away [] w W → Calls Try.prog 24 #[.pointer (some ⟨g, 0, none⟩), .int .i64 s] W fun E w' => E = .returned (.int .i64 (plc (idxP (isN s) t.bs))) ∧ Away [] W w') := fun W hW => place_c (h.on hW) s
  have HWF := Lib.hid (h.wf.close s)
  obtain ⟨o, ho⟩ : ∃ o, o = idxP (isN s) t.bs := ⟨_, rfl⟩
  rw [← ho] at KP
  have HO := Lib.hid ho
  clear h ho
  go_enter Try.func11, Try.ntmps11
  go_wp2_with fail
  refine (KP.out _ (Away.refl _ _)).mono ?_
  rintro E w2 ⟨rfl, haw⟩
  have HA := Lib.hid haw
  have H2 := Lib.hid (H.out.on haw)
  clear haw KP
  rcases o with _ | k
  · have HE : Hid (closeP t s = (1, t)) := by show _ = _; unfold closeP; rw [← HO.out]
    simp only [plc]
    go_wp2_with fail
    go_ret
    rw [HE.out]
    exact ⟨rfl, v, H2.out, HA.out.mono (by simp), Moved.refl _ _⟩
  · have hk := idx_lt HO.out.symm
    have HE : Hid (closeP t s = (0, ⟨t.most, t.last, t.bs.eraseIdx k⟩)) := by show _ = _; unfold closeP; rw [← HO.out]
    rw [HE.out] at HWF
    simp only [plc]
    obtain ⟨la, lc, hv, hat⟩ := H.out.shape
    obtain ⟨y, hy, -, -⟩ := idx_get HO.out.symm
    obtain ⟨b, hb, -⟩ := hat k y hy
    subst hb
    subst hv
    have hne : b ≠ g := H.out.ne b rfl
    have hle := H.out.wf.le
    obtain ⟨m, hm⟩ : ∃ m, t.bs.length = k + 1 + m := ⟨t.bs.length - (k + 1), by omega⟩
    have KD : Hid (Calls Try.prog 25 #[.slice (some ⟨b, 0, none⟩) t.bs.length lc, .int .i64 (k : Int), .int .i64 ((k : Int) + 1)] w2 fun E w' => E = .returned (.slice (some ⟨b, 0, none⟩) (k + m) lc) ∧ LstD w' (.slice (some ⟨b, 0, none⟩) (k + m) lc) (t.bs.eraseIdx k) ∧ Away [b] w2 w') := by
      have := delete_c w2 b lc t.bs k m H2.out.lst H2.out.wf.okd (by omega) hm
      rw [show ((k + 1 : Nat) : Int) = (k : Int) + 1 from by omega] at this
      exact this
    have c2 := H2.out.c2
    obtain ⟨n, hn⟩ : ∃ n, n = t.bs.length := ⟨_, rfl⟩
    rw [← hn] at c2 KD hk hle
    have hkd : decide ((k : Int) < 0) = false := by simp
    have HN := Lib.hid hn
    clear hat hy hn HO hm
    go_wp2_with fail
    refine KD.out.mono ?_
    rintro E w3 ⟨rfl, hl, haw⟩
    have H3 := Lib.hid (H2.out.box)
    have HB3 := Lib.hid (haw.keep (by simp; omega) H2.out.box)
    have HL3 := Lib.hid hl
    have HA3 : Hid (Away [b] w w3) := (HA.out.mono (by simp)).trans haw
    clear hl haw KD c2 H3
    have c2 := cell_of_block HB3.out 2
    have f2 := free_of_block HB3.out 2
    simp at c2
    go_wp2_with fail
    have haw := (Away.refl [g] w3).setCell (p := ⟨g, 2, none⟩) (.inl (by simp)) (.slice (some ⟨b, 0, none⟩) (k + m) lc)
    go_ret
    rw [HE.out]
    refine ⟨rfl, _, ⟨by rw [block_set HB3.out]; rfl, HL3.out.away haw (fun x hx => by simp [Value.ownBlock] at hx; subst hx; simpa using hne), fun x hx => by simp [Value.ownBlock] at hx; subst hx; exact hne, HWF.out⟩, ?_, fun x hx => .inl hx⟩
    exact (HA3.out.mono (by simp [fp, Value.ownBlock])).trans (haw.mono (by simp [fp]))
def BOut (w : World) (g : Nat) (v : Value) (r : (Int × Int × Int) × Tb) (E : Ending) (w' : World) : Prop := E = .returned (.tuple #[.int .i64 r.1.1, .int .i64 r.1.2.1, .int .i64 r.1.2.2]) ∧ ∃ v', KB.Tm w' g v' r.2 ∧ Away (KB.fp g v) w w' ∧ Moved w v v'
open KB in
set_option maxHeartbeats 16000000 in
theorem bind_c {w : World} {g : Nat} {v : Value} {t : Tb} (h : Tm w g v t) (av : Int) (al : List Int) (hl : Byt al) (p : Int) (hb : t.last < 9223372036854775807) :
    Calls Try.prog 9 #[.pointer (some ⟨g, 0, none⟩), .agg (csA av al), .int .i64 p] w (BOut w g v (bindP t av al p)) := by
  have H := Lib.hid h
  have HL := Lib.hid hl
  have hgw := h.lt
  have hl0 := h.wf.l0
  have K22 : Hid (∀ W, Away [] w W → Calls Try.prog 22 #[.pointer (some ⟨g, 0, none⟩), .agg (csA av al), .int .i64 p] W fun E w' => E = .returned (.int .i64 (justP t.bs av al p)) ∧ Away [] W w') := fun W hW => just_c (h.on hW) av al hl.1 p
  have K23 : Hid (∀ W, Away [] w W → Calls Try.prog 23 #[.pointer (some ⟨g, 0, none⟩), .agg (csA av al)] W fun E w' => E = .returned (.int .i64 (freeP t.bs av al)) ∧ Away [] W w') := fun W hW => free_c (h.on hW) av al hl.1
  have K21 : Hid (∀ W, Calls Try.prog 21 #[.agg (csA av al)] W fun E w' => E = .returned (.bool (mayP av al)) ∧ Away [] W w') := fun W => mayBind_c av al hl.1 W
  have HWF := Lib.hid (h.wf.bind av al p hl)
  have HFN := Lib.hid (freeP_ne h.wf av al)
  obtain ⟨m, hm⟩ : ∃ m, m = mayP av al := ⟨_, rfl⟩
  rw [← hm] at K21
  have HM := Lib.hid hm
  obtain ⟨jv, hj⟩ : ∃ m, m = justP t.bs av al p := ⟨_, rfl⟩
  rw [← hj] at K22
  have HJV := Lib.hid hj
  clear h hl hm hj
  go_enter Try.func9, Try.ntmps9
  go_wp2_with (refine wpList_box32 rfl _ rfl av al rfl ?_; refine Hid.out ?_)
  refine Lib.hid ?_
  intro g4 w1 hg4 hb4 haw
  have HA := Lib.hid haw
  have HB := Lib.hid hb4
  clear hb4 haw
  go_wp2_with (refine wpList_load32 rfl _ rfl g4 rfl av al HL.out.1 HB.out ?_)
  refine (K21.out _).mono ?_
  rintro E w2 ⟨rfl, haw⟩
  replace HA := Lib.hid (HA.out.trans haw)
  replace HB := Lib.hid (HB.out.on haw (by simp))
  clear haw K21
  by_cases hna : m = false ∨ p < 0 ∨ 65535 < p
  · have HE : Hid (bindP t av al p = ((0, 0, 1), t)) := by show _ = _; unfold bindP; rw [if_pos (by rw [← HM.out]; exact hna)]
    have fin : ∀ W, Away [] w W → BOut w g v (bindP t av al p) (.returned (.tuple #[.int .i64 0, .int .i64 0, .int .i64 1])) W := fun W hW => by
      rw [HE.out]; exact ⟨rfl, v, H.out.on hW, hW.mono (by simp), Moved.refl _ _⟩
    have FIN := Lib.hid fin
    clear fin
    cases m
    · clear hna
      go_wp2_with fail
      go_ret3
      exact FIN.out _ HA.out
    · by_cases h1 : p < 0
      · have e1 : decide (p < 0) = true := by simpa using h1
        clear hna h1
        go_wp2_with fail
        go_ret3
        exact FIN.out _ HA.out
      · have e1 : decide (p < 0) = false := by simpa using h1
        have e2 : decide (65535 < p) = true := by simp at hna; simp; omega
        clear hna h1
        go_wp2_with fail
        go_ret3
        exact FIN.out _ HA.out
  have HNA : Hid (¬ (mayP av al = false ∨ p < 0 ∨ 65535 < p)) := by rw [← HM.out]; exact hna
  simp only [not_or, Bool.not_eq_false, Int.not_lt] at hna
  obtain ⟨rfl, hp0, hp1⟩ := hna
  have e1 : decide (p < 0) = false := by simp; omega
  have e2 : decide (65535 < p) = false := by simp; omega
  go_wp2_with (refine wpList_load32 rfl _ rfl g4 rfl av al HL.out.1 HB.out ?_)
  refine (K22.out _ HA.out).mono ?_
  rintro E w3 ⟨rfl, haw⟩
  replace HA := Lib.hid (HA.out.trans haw)
  replace HB := Lib.hid (HB.out.on haw (by simp))
  clear haw K22 e1 e2
  by_cases hj0 : jv = 0
  rotate_left
  · have HE : Hid (bindP t av al p = ((0, 0, 200), t)) := by show _ = _; unfold bindP; rw [if_neg HNA.out, if_pos (by rw [← HJV.out]; exact hj0)]
    have e0 : (jv != 0) = true := by simpa using hj0
    go_wp2_with fail
    go_ret3
    rw [HE.out]
    exact ⟨rfl, v, H.out.on HA.out, HA.out.mono (by simp), Moved.refl _ _⟩
  have HJ : Hid (justP t.bs av al p = 0) := by rw [← HJV.out]; exact hj0
  subst hj0
  clear HJV
  obtain ⟨la, lc, hv, -⟩ := H.out.shape
  subst hv
  obtain ⟨n, hn⟩ : ∃ n, n = t.bs.length := ⟨_, rfl⟩
  have hn32 : n ≤ 32 := by have := H.out.wf.le; omega
  rw [← hn] at H ⊢
  have HN := Lib.hid hn
  have hm32 := H.out.wf.m1
  clear hn
  by_cases hp : p = 0
  · obtain ⟨P, hP⟩ : ∃ P, P = freeP t.bs av al := ⟨_, rfl⟩
    have HPP : Hid ((if p = 0 then freeP t.bs av al else p) = P) := by show _ = _; rw [if_pos hp, hP]
    have e0 : (p == 0) = true := by simpa using hp
    go_wp2_with (refine wpList_load32 rfl _ rfl g4 rfl av al HL.out.1 HB.out ?_)
    refine (K23.out _ HA.out).mono ?_
    rintro E w3 ⟨rfl, haw⟩
    replace HA := Lib.hid (HA.out.trans haw)
    replace HB := Lib.hid (HB.out.on haw (by simp))
    clear haw K23 e0 hp
    rw [← hP] at HFN ⊢
    have d1 : (P == 0) = false := by simpa using HFN.out
    clear hP HFN hp0 hp1
    have c0 := HA.out.cell (by simp) H.out.c0
    have c1 := HA.out.cell (by simp) H.out.c1
    have c2 := HA.out.cell (by simp) H.out.c2
    have f1 := (H.out.on HA.out).free 1
    have f2 := (H.out.on HA.out).free 2
    go_wp2_with fail
    by_cases hfull : (n : Int) = t.most
    · have HE2 : Hid (bindP t av al p = ((0, 0, 201), t)) := by
        show _ = _
        unfold bindP
        rw [if_neg HNA.out, if_neg (by rw [HJ.out]; simp), if_pos (by rw [← HN.out]; exact hfull)]
      have d2 : ((n : Int) == t.most) = true := by simpa using hfull
      have HFU := Lib.hid hfull
      clear hfull
      go_quiet (fail)
      go_wp2_with fail
      go_ret3
      rw [HE2.out]
      exact ⟨rfl, _, (by rw [← HN.out]; exact H.out.on (HA.out.drewN _)), (HA.out.drewN _).mono (by simp), Moved.refl _ _⟩
    have hnm : n < t.most := by have := H.out.wf.len; rw [← HN.out] at this; omega
    have HE2 : Hid (bindP t av al p = ((t.last + 1, P, 0), ⟨t.most, t.last + 1, t.bs ++ [⟨t.last + 1, av, al, P⟩]⟩)) := by
      show _ = _
      unfold bindP
      rw [if_neg HNA.out, if_neg (by rw [HJ.out]; simp), if_neg (by rw [← HN.out]; exact hfull), HPP.out]
    have d2 : ((n : Int) == t.most) = false := by simpa using hfull
    rw [HE2.out] at HWF
    clear hfull HNA HJ
    go_quiet (fail)
    have haw := (Away.refl [] w3).drewN nq
    replace HA := Lib.hid (HA.out.drewN nq)
    replace HB := Lib.hid (HB.out.on haw (by simp))
    clear haw c0 c1 c2 f1 f2
    generalize w3.drewN nq = w4 at *
    have HT := Lib.hid (H.out.on HA.out)
    have c1 := HT.out.c1
    have f1 := HT.out.free 1
    have hlw : IntKind.i64.wrap (t.last + 1) = t.last + 1 := by rw [IntKind.wrap_i64]; omega
    go_upto_region 10 with fail
    have haw := (Away.refl [g] w4).setCell (p := ⟨g, 1, none⟩) (.inl (by simp)) (.int .i64 (t.last + 1))
    have HBX : Hid ((w4.setCell ⟨g, 1, none⟩ (.int .i64 (t.last + 1))).heap[g]? = some (.cells #[.int .i64 t.most, .int .i64 (t.last + 1), .slice la n lc] 61 (0, 0))) := by show _ = _; rw [block_set HT.out.box]; rfl
    have HLS : Hid (LstD (w4.setCell ⟨g, 1, none⟩ (.int .i64 (t.last + 1))) (.slice la n lc) t.bs) := HT.out.lst.away haw (fun k hk => by simp; exact H.out.ne k hk)
    replace HB := Lib.hid (HB.out.on haw (by simp; omega))
    have HA4 : Hid (Away [g] w (w4.setCell ⟨g, 1, none⟩ (.int .i64 (t.last + 1)))) := (HA.out.mono (by simp)).trans haw
    clear haw c1 f1 HT HA
    generalize w4.setCell ⟨g, 1, none⟩ (.int .i64 (t.last + 1)) = w5 at *
    have haw := (Away.refl [] w5).drew
    replace HBX : Hid (w5.drew.heap[g]? = some (.cells #[.int .i64 t.most, .int .i64 (t.last + 1), .slice la n lc] 61 (0, 0))) := HBX.out
    replace HLS := Lib.hid (HLS.out.on haw)
    replace HB := Lib.hid (HB.out.on haw (by simp))
    replace HA4 := Lib.hid (HA4.out.drew)
    have hs : w5.drew.cell? ⟨g, 2, none⟩ = some (.slice la n lc) ∧ w5.drew.cell? ⟨g, 1, none⟩ = some (.int .i64 (t.last + 1)) ∧ BoxA w5.drew g4 av al := ⟨by rw [cell_of_block HBX.out]; rfl, by rw [cell_of_block HBX.out]; rfl, HB.out⟩
    refine wp_region_U 16 (fun w' => w'.cell? ⟨g, 2, none⟩ = some (.slice la n lc) ∧ w'.cell? ⟨g, 1, none⟩ = some (.int .i64 (t.last + 1)) ∧ BoxA w' g4 av al) (by kernel_rfl) ?_
    clear haw
    generalize w5.drew = w5 at *
    refine wpAnyU_take (i := 0) (v := ?_) (by simp only [List.getElem?_toArray, List.getElem?_cons_zero]; rfl) (by kernel_rfl) (by kernel_rfl) (by kernel_rfl) (by decide) (by kernel_rfl) (by kernel_rfl) (by exact fun _ _ _ h => h) (Or.inl ⟨by rfl, ?_⟩) (by exact hs) ?_
    rotate_left
    · intro wq hSw
      clear hSw
      go_simp
      all_goals (with_reducible rfl)
    try simp only [Act.put, List.setIfInBounds_toArray, List.set_cons_zero, List.set_cons_succ]
    refine wpAnyU_take (i := 1) (v := ?_) (by simp only [List.getElem?_toArray, List.getElem?_cons_succ, List.getElem?_cons_zero]; rfl) (by kernel_rfl) (by kernel_rfl) (by kernel_rfl) (by decide) (by kernel_rfl) (by kernel_rfl) (by exact fun _ _ _ h => h) (Or.inl ⟨by rfl, ?_⟩) (by exact hs) ?_
    rotate_left
    · intro wq hSw
      clear hSw
      go_simp
      all_goals (with_reducible rfl)
    try simp only [Act.put, List.setIfInBounds_toArray, List.set_cons_zero, List.set_cons_succ]
    refine wpAnyU_take (i := 2) (v := ?_) (by simp only [List.getElem?_toArray, List.getElem?_cons_succ, List.getElem?_cons_zero]; rfl) (by kernel_rfl) (by kernel_rfl) (by kernel_rfl) (by decide) (by kernel_rfl) (by kernel_rfl) (by exact fun _ _ _ h => h) (Or.inl ⟨by rfl, ?_⟩) (by exact hs) ?_
    rotate_left
    · intro wq hSw
      clear hSw
      go_simp
      all_goals (with_reducible rfl)
    try simp only [Act.put, List.setIfInBounds_toArray, List.set_cons_zero, List.set_cons_succ]
    refine wpAnyU_take (i := 3) (v := ?_) (by simp only [List.getElem?_toArray, List.getElem?_cons_succ, List.getElem?_cons_zero]; rfl) (by kernel_rfl) (by kernel_rfl) (by kernel_rfl) (by decide) (by kernel_rfl) (by kernel_rfl) (by exact fun _ _ _ h => h) (Or.inl ⟨by rfl, ?_⟩) (by exact hs) ?_
    rotate_left
    · intro wq hSw
      clear hSw
      go_simp
      all_goals (with_reducible rfl)
    try simp only [Act.put, List.setIfInBounds_toArray, List.set_cons_zero, List.set_cons_succ]
    refine wpAnyU_take (i := 4) (by simp only [List.getElem?_toArray, List.getElem?_cons_succ, List.getElem?_cons_zero]; rfl) (by kernel_rfl) (by kernel_rfl) (by kernel_rfl) (by decide) (by kernel_rfl) (by kernel_rfl) (by exact fun _ _ _ h => h) (yields_ld (ad := ⟨g, 2, none⟩) (by rfl) _ rfl rfl (fun w' h => ldL h.1)) (by exact hs) ?_
    try simp only [Act.put, List.setIfInBounds_toArray, List.set_cons_zero, List.set_cons_succ]
    refine wpAnyU_take (i := 5) (v := ?_) (by simp only [List.getElem?_toArray, List.getElem?_cons_succ, List.getElem?_cons_zero]; rfl) (by kernel_rfl) (by kernel_rfl) (by kernel_rfl) (by decide) (by kernel_rfl) (by kernel_rfl) (by exact fun _ _ _ h => h) (Or.inl ⟨by rfl, ?_⟩) (by exact hs) ?_
    rotate_left
    · intro wq hSw
      clear hSw
      go_simp
      all_goals (with_reducible rfl)
    try simp only [Act.put, List.setIfInBounds_toArray, List.set_cons_zero, List.set_cons_succ]
    refine wpAnyU_take (i := 6) (v := ?_) (by simp only [List.getElem?_toArray, List.getElem?_cons_succ, List.getElem?_cons_zero]; rfl) (by kernel_rfl) (by kernel_rfl) (by kernel_rfl) (by decide) (by kernel_rfl) (by kernel_rfl) (by exact fun _ _ _ h => h) (Or.inl ⟨by rfl, ?_⟩) (by exact hs) ?_
    rotate_left
    · intro wq hSw
      clear hSw
      go_simp
      all_goals (with_reducible rfl)
    try simp only [Act.put, List.setIfInBounds_toArray, List.set_cons_zero, List.set_cons_succ]
    refine wpAnyU_take (i := 7) (v := ?_) (by simp only [List.getElem?_toArray, List.getElem?_cons_succ, List.getElem?_cons_zero]; rfl) (by kernel_rfl) (by kernel_rfl) (by kernel_rfl) (by decide) (by kernel_rfl) (by kernel_rfl) (by exact fun _ _ _ h => h) (Or.inl ⟨by rfl, ?_⟩) (by exact hs) ?_
    rotate_left
    · intro wq hSw
      clear hSw
      go_simp
      all_goals (with_reducible rfl)
    try simp only [Act.put, List.setIfInBounds_toArray, List.set_cons_zero, List.set_cons_succ]
    refine wpAnyU_take (i := 8) (by simp only [List.getElem?_toArray, List.getElem?_cons_succ, List.getElem?_cons_zero]; rfl) (by kernel_rfl) (by kernel_rfl) (by kernel_rfl) (by decide) (by kernel_rfl) (by kernel_rfl) (by exact fun _ _ _ h => h) (yields_ld (ad := ⟨g, 1, none⟩) (by rfl) _ rfl rfl (fun w' h => ld3 h.2.1)) (by exact hs) ?_
    try simp only [Act.put, List.setIfInBounds_toArray, List.set_cons_zero, List.set_cons_succ]
    refine wpAnyU_take (i := 9) (by simp only [List.getElem?_toArray, List.getElem?_cons_succ, List.getElem?_cons_zero]; rfl) (by kernel_rfl) (by kernel_rfl) (by kernel_rfl) (by decide) (by kernel_rfl) (by kernel_rfl) (by exact fun _ _ _ h => h) (yields_ld (ad := ⟨g4, 0, none⟩) (by rfl) _ rfl rfl (fun w' h => load32m_run h.2.2.range HL.out.1)) (by exact hs) ?_
    try simp only [Act.put, List.setIfInBounds_toArray, List.set_cons_zero, List.set_cons_succ]
    refine wpAnyU_take (i := 10) (v := ?_) (by simp only [List.getElem?_toArray, List.getElem?_cons_succ, List.getElem?_cons_zero]; rfl) (by kernel_rfl) (by kernel_rfl) (by kernel_rfl) (by decide) (by kernel_rfl) (by kernel_rfl) (by exact fun _ _ _ h => h) (Or.inl ⟨by rfl, ?_⟩) (by exact hs) ?_
    rotate_left
    · intro wq hSw
      clear hSw
      go_simp
      all_goals (with_reducible rfl)
    try simp only [Act.put, List.setIfInBounds_toArray, List.set_cons_zero, List.set_cons_succ]
    refine wpAnyU_take (i := 11) (by simp only [List.getElem?_toArray, List.getElem?_cons_succ, List.getElem?_cons_zero]; rfl) (by kernel_rfl) (by kernel_rfl) (by kernel_rfl) (by decide) (by kernel_rfl) (by kernel_rfl) (by exact fun _ _ _ h => h) (yields_buildE (by rfl) _ _ _ rfl ⟨t.last + 1, av, al, P⟩ HL.out.1 rfl rfl rfl) (by exact hs) ?_
    try simp only [Act.put, List.setIfInBounds_toArray, List.set_cons_zero, List.set_cons_succ]
    refine wpAnyU_ready (rs := [12]) (by kernel_rfl) (by simp) ?_
    refine ReadyU.cons (by simp only [List.getElem?_toArray, List.getElem?_cons_succ, List.getElem?_cons_zero]; rfl) (fun K hK => ?_) ReadyU.nil
    refine step_buildS rfl _ rfl ⟨t.last + 1, av, al, P⟩ rfl HL.out.1 (fun gb w6 hgb hbx haw => ?_)
    have hs1 : w6.cell? ⟨g, 2, none⟩ = some (.slice la n lc) ∧ w6.cell? ⟨g, 1, none⟩ = some (.int .i64 (t.last + 1)) ∧ BoxA w6 g4 av al := ⟨haw.cell (by simp) hs.1, haw.cell (by simp) hs.2.1, hs.2.2.on haw (by simp)⟩
    have HBN := Lib.hid hbx
    replace HBX := Lib.hid (haw.keep (by simp) HBX.out)
    replace HLS := Lib.hid (HLS.out.on haw)
    replace HA4 := Lib.hid (HA4.out.next haw (by simp))
    clear hs hbx haw
    refine hK.out _ _ (fun _ => by exact hs1) ?_
    clear hK K
    try simp only [Act.put, List.setIfInBounds_toArray, List.set_cons_zero, List.set_cons_succ]
    refine wpAnyU_ready (rs := [13]) (by kernel_rfl) (by simp) ?_
    refine ReadyU.cons (by simp only [List.getElem?_toArray, List.getElem?_cons_succ, List.getElem?_cons_zero]; rfl) (fun K hK => ?_) ReadyU.nil
    refine step_appS rfl _ _ rfl (.slice la n lc) t.bs gb 1 ⟨t.last + 1, av, al, P⟩ rfl rfl HLS.out HBN.out HL.out.1 (by rw [← HN.out]; omega) (fun v' w7 hl hgr hmv => ?_)
    have hgo : g ∉ (Value.slice la n lc).ownBlock.toList := fun hc => H.out.ne g (by simpa using hc) rfl
    have hg4o : g4 ∉ (Value.slice la n lc).ownBlock.toList := fun hc => by
      have h1 := H.out.lst.lt g4 (by simpa using hc)
      omega
    have haw : Away (Value.slice la n lc).ownBlock.toList w6 w7 := Away.grow hgr
    have hs : w7.cell? ⟨g, 2, none⟩ = some (.slice la n lc) ∧ w7.cell? ⟨g, 1, none⟩ = some (.int .i64 (t.last + 1)) ∧ BoxA w7 g4 av al := ⟨haw.cell hgo hs1.1, haw.cell hgo hs1.2.1, hs1.2.2.on haw hg4o⟩
    have HB7 := Lib.hid (haw.keep hgo HBX.out)
    have HL7 := Lib.hid hl
    have hsz := HA4.out.size
    have HMV : Hid (Moved w (.slice la n lc) v') := fun k hk => by
      rcases hmv k hk with h1 | h1
      · exact .inl h1
      · exact .inr (by omega)
    have HVG : Hid (∀ k, v'.ownBlock = some k → k ≠ g) := fun k hk => by
      rcases HMV.out k hk with h1 | h1
      · exact H.out.ne k h1
      · omega
    have HA7 : Hid (Away (fp g (.slice la n lc)) w w7) := (HA4.out.mono (by simp [fp])).next haw (fun x hx => .inl (by simp [fp]; exact .inr (by simpa using hx)))
    obtain ⟨va, vn, vc, hv2⟩ : ∃ a n c, v' = .slice a n c := by obtain ⟨a, c, h1, -⟩ := hl.sl; exact ⟨a, _, c, h1⟩
    subst hv2
    clear hs1 hl hgr hmv haw hgo hg4o HLS HBX HBN hsz
    refine hK.out _ _ (fun _ => by exact hs) ?_
    clear hK K
    try simp only [Act.put, List.setIfInBounds_toArray, List.set_cons_zero, List.set_cons_succ]
    refine wpAnyU_ready (rs := [14]) (by kernel_rfl) (by simp) ?_
    refine ReadyU.cons (by simp only [List.getElem?_toArray, List.getElem?_cons_succ, List.getElem?_cons_zero]; rfl) (fun K hK => ?_) ReadyU.nil
    go_simp
    refine hK.out _ _ (fun _ => by exact hs) ?_
    clear hK K
    try simp only [Act.put, List.setIfInBounds_toArray, List.set_cons_zero, List.set_cons_succ]
    refine wpAnyU_ready (rs := [15]) (by kernel_rfl) (by simp) ?_
    refine ReadyU.cons (by simp only [List.getElem?_toArray, List.getElem?_cons_succ, List.getElem?_cons_zero]; rfl) (fun K hK => ?_) ReadyU.nil
    go_simp
    refine hK.out _ _ (fun _ => by exact hs) ?_
    clear hK K
    try simp only [Act.put, List.setIfInBounds_toArray, List.set_cons_zero, List.set_cons_succ]
    have c2 := cell_of_block HB7.out 2
    have f2 := free_of_block HB7.out 2
    simp at c2
    refine wpAnyU_ready (rs := [16]) (by kernel_rfl) (by simp) ?_
    refine ReadyU.cons (by simp only [List.getElem?_toArray, List.getElem?_cons_succ, List.getElem?_cons_zero]; rfl) (fun K hK => ?_) ReadyU.nil
    go_simp
    refine hK.out _ _ (fun h => absurd h (by decide)) ?_
    clear hK K hs
    refine wpAnyU_done (by kernel_rfl) ?_ _
    have haw := (Away.refl [g] w7).setCell (p := ⟨g, 2, none⟩) (.inl (by simp)) (.slice va vn vc)
    have HB8 : Hid ((w7.setCell ⟨g, 2, none⟩ (.slice va vn vc)).heap[g]? = some (.cells #[.int .i64 t.most, .int .i64 (t.last + 1), .slice va vn vc] 61 (0, 0))) := by show _ = _; rw [block_set HB7.out]; rfl
    have HL8 := Lib.hid (HL7.out.away haw (fun k hk => by simp; exact HVG.out k hk))
    have HA8 : Hid (Away (fp g (.slice la n lc)) w (w7.setCell ⟨g, 2, none⟩ (.slice va vn vc))) := HA7.out.trans (haw.mono (by simp [fp]))
    clear haw c2 f2 HB7 HL7 HA7
    generalize w7.setCell ⟨g, 2, none⟩ (.slice va vn vc) = w8 at *
    have c1 := cell_of_block HB8.out 1
    simp at c1
    go_wp2_with fail
    go_ret3
    rw [HE2.out]
    exact ⟨rfl, _, ⟨HB8.out, HL8.out, HVG.out, HWF.out⟩, by rw [← HN.out]; exact HA8.out, by rw [← HN.out]; exact HMV.out⟩
  · have HPP : Hid ((if p = 0 then freeP t.bs av al else p) = p) := by show _ = _; rw [if_neg hp]
    have d1 : (p == 0) = false := by simpa using hp
    clear hp HFN K23 hp0 hp1
    have c0 := HA.out.cell (by simp) H.out.c0
    have c1 := HA.out.cell (by simp) H.out.c1
    have c2 := HA.out.cell (by simp) H.out.c2
    have f1 := (H.out.on HA.out).free 1
    have f2 := (H.out.on HA.out).free 2
    go_wp2_with fail
    by_cases hfull : (n : Int) = t.most
    · have HE2 : Hid (bindP t av al p = ((0, 0, 201), t)) := by
        show _ = _
        unfold bindP
        rw [if_neg HNA.out, if_neg (by rw [HJ.out]; simp), if_pos (by rw [← HN.out]; exact hfull)]
      have d2 : ((n : Int) == t.most) = true := by simpa using hfull
      have HFU := Lib.hid hfull
      clear hfull
      go_quiet (fail)
      go_wp2_with fail
      go_ret3
      rw [HE2.out]
      exact ⟨rfl, _, (by rw [← HN.out]; exact H.out.on (HA.out.drewN _)), (HA.out.drewN _).mono (by simp), Moved.refl _ _⟩
    have hnm : n < t.most := by have := H.out.wf.len; rw [← HN.out] at this; omega
    have HE2 : Hid (bindP t av al p = ((t.last + 1, p, 0), ⟨t.most, t.last + 1, t.bs ++ [⟨t.last + 1, av, al, p⟩]⟩)) := by
      show _ = _
      unfold bindP
      rw [if_neg HNA.out, if_neg (by rw [HJ.out]; simp), if_neg (by rw [← HN.out]; exact hfull), HPP.out]
    have d2 : ((n : Int) == t.most) = false := by simpa using hfull
    rw [HE2.out] at HWF
    clear hfull HNA HJ
    go_quiet (fail)
    have haw := (Away.refl [] w3).drewN nq
    replace HA := Lib.hid (HA.out.drewN nq)
    replace HB := Lib.hid (HB.out.on haw (by simp))
    clear haw c0 c1 c2 f1 f2
    generalize w3.drewN nq = w4 at *
    have HT := Lib.hid (H.out.on HA.out)
    have c1 := HT.out.c1
    have f1 := HT.out.free 1
    have hlw : IntKind.i64.wrap (t.last + 1) = t.last + 1 := by rw [IntKind.wrap_i64]; omega
    go_upto_region 10 with fail
    have haw := (Away.refl [g] w4).setCell (p := ⟨g, 1, none⟩) (.inl (by simp)) (.int .i64 (t.last + 1))
    have HBX : Hid ((w4.setCell ⟨g, 1, none⟩ (.int .i64 (t.last + 1))).heap[g]? = some (.cells #[.int .i64 t.most, .int .i64 (t.last + 1), .slice la n lc] 61 (0, 0))) := by show _ = _; rw [block_set HT.out.box]; rfl
    have HLS : Hid (LstD (w4.setCell ⟨g, 1, none⟩ (.int .i64 (t.last + 1))) (.slice la n lc) t.bs) := HT.out.lst.away haw (fun k hk => by simp; exact H.out.ne k hk)
    replace HB := Lib.hid (HB.out.on haw (by simp; omega))
    have HA4 : Hid (Away [g] w (w4.setCell ⟨g, 1, none⟩ (.int .i64 (t.last + 1)))) := (HA.out.mono (by simp)).trans haw
    clear haw c1 f1 HT HA
    generalize w4.setCell ⟨g, 1, none⟩ (.int .i64 (t.last + 1)) = w5 at *
    have haw := (Away.refl [] w5).drew
    replace HBX : Hid (w5.drew.heap[g]? = some (.cells #[.int .i64 t.most, .int .i64 (t.last + 1), .slice la n lc] 61 (0, 0))) := HBX.out
    replace HLS := Lib.hid (HLS.out.on haw)
    replace HB := Lib.hid (HB.out.on haw (by simp))
    replace HA4 := Lib.hid (HA4.out.drew)
    have hs : w5.drew.cell? ⟨g, 2, none⟩ = some (.slice la n lc) ∧ w5.drew.cell? ⟨g, 1, none⟩ = some (.int .i64 (t.last + 1)) ∧ BoxA w5.drew g4 av al := ⟨by rw [cell_of_block HBX.out]; rfl, by rw [cell_of_block HBX.out]; rfl, HB.out⟩
    refine wp_region_U 16 (fun w' => w'.cell? ⟨g, 2, none⟩ = some (.slice la n lc) ∧ w'.cell? ⟨g, 1, none⟩ = some (.int .i64 (t.last + 1)) ∧ BoxA w' g4 av al) (by kernel_rfl) ?_
    clear haw
    generalize w5.drew = w5 at *
    refine wpAnyU_take (i := 0) (v := ?_) (by simp only [List.getElem?_toArray, List.getElem?_cons_zero]; rfl) (by kernel_rfl) (by kernel_rfl) (by kernel_rfl) (by decide) (by kernel_rfl) (by kernel_rfl) (by exact fun _ _ _ h => h) (Or.inl ⟨by rfl, ?_⟩) (by exact hs) ?_
    rotate_left
    · intro wq hSw
      clear hSw
      go_simp
      all_goals (with_reducible rfl)
    try simp only [Act.put, List.setIfInBounds_toArray, List.set_cons_zero, List.set_cons_succ]
    refine wpAnyU_take (i := 1) (v := ?_) (by simp only [List.getElem?_toArray, List.getElem?_cons_succ, List.getElem?_cons_zero]; rfl) (by kernel_rfl) (by kernel_rfl) (by kernel_rfl) (by decide) (by kernel_rfl) (by kernel_rfl) (by exact fun _ _ _ h => h) (Or.inl ⟨by rfl, ?_⟩) (by exact hs) ?_
    rotate_left
    · intro wq hSw
      clear hSw
      go_simp
      all_goals (with_reducible rfl)
    try simp only [Act.put, List.setIfInBounds_toArray, List.set_cons_zero, List.set_cons_succ]
    refine wpAnyU_take (i := 2) (v := ?_) (by simp only [List.getElem?_toArray, List.getElem?_cons_succ, List.getElem?_cons_zero]; rfl) (by kernel_rfl) (by kernel_rfl) (by kernel_rfl) (by decide) (by kernel_rfl) (by kernel_rfl) (by exact fun _ _ _ h => h) (Or.inl ⟨by rfl, ?_⟩) (by exact hs) ?_
    rotate_left
    · intro wq hSw
      clear hSw
      go_simp
      all_goals (with_reducible rfl)
    try simp only [Act.put, List.setIfInBounds_toArray, List.set_cons_zero, List.set_cons_succ]
    refine wpAnyU_take (i := 3) (v := ?_) (by simp only [List.getElem?_toArray, List.getElem?_cons_succ, List.getElem?_cons_zero]; rfl) (by kernel_rfl) (by kernel_rfl) (by kernel_rfl) (by decide) (by kernel_rfl) (by kernel_rfl) (by exact fun _ _ _ h => h) (Or.inl ⟨by rfl, ?_⟩) (by exact hs) ?_
    rotate_left
    · intro wq hSw
      clear hSw
      go_simp
      all_goals (with_reducible rfl)
    try simp only [Act.put, List.setIfInBounds_toArray, List.set_cons_zero, List.set_cons_succ]
    refine wpAnyU_take (i := 4) (by simp only [List.getElem?_toArray, List.getElem?_cons_succ, List.getElem?_cons_zero]; rfl) (by kernel_rfl) (by kernel_rfl) (by kernel_rfl) (by decide) (by kernel_rfl) (by kernel_rfl) (by exact fun _ _ _ h => h) (yields_ld (ad := ⟨g, 2, none⟩) (by rfl) _ rfl rfl (fun w' h => ldL h.1)) (by exact hs) ?_
    try simp only [Act.put, List.setIfInBounds_toArray, List.set_cons_zero, List.set_cons_succ]
    refine wpAnyU_take (i := 5) (v := ?_) (by simp only [List.getElem?_toArray, List.getElem?_cons_succ, List.getElem?_cons_zero]; rfl) (by kernel_rfl) (by kernel_rfl) (by kernel_rfl) (by decide) (by kernel_rfl) (by kernel_rfl) (by exact fun _ _ _ h => h) (Or.inl ⟨by rfl, ?_⟩) (by exact hs) ?_
    rotate_left
    · intro wq hSw
      clear hSw
      go_simp
      all_goals (with_reducible rfl)
    try simp only [Act.put, List.setIfInBounds_toArray, List.set_cons_zero, List.set_cons_succ]
    refine wpAnyU_take (i := 6) (v := ?_) (by simp only [List.getElem?_toArray, List.getElem?_cons_succ, List.getElem?_cons_zero]; rfl) (by kernel_rfl) (by kernel_rfl) (by kernel_rfl) (by decide) (by kernel_rfl) (by kernel_rfl) (by exact fun _ _ _ h => h) (Or.inl ⟨by rfl, ?_⟩) (by exact hs) ?_
    rotate_left
    · intro wq hSw
      clear hSw
      go_simp
      all_goals (with_reducible rfl)
    try simp only [Act.put, List.setIfInBounds_toArray, List.set_cons_zero, List.set_cons_succ]
    refine wpAnyU_take (i := 7) (v := ?_) (by simp only [List.getElem?_toArray, List.getElem?_cons_succ, List.getElem?_cons_zero]; rfl) (by kernel_rfl) (by kernel_rfl) (by kernel_rfl) (by decide) (by kernel_rfl) (by kernel_rfl) (by exact fun _ _ _ h => h) (Or.inl ⟨by rfl, ?_⟩) (by exact hs) ?_
    rotate_left
    · intro wq hSw
      clear hSw
      go_simp
      all_goals (with_reducible rfl)
    try simp only [Act.put, List.setIfInBounds_toArray, List.set_cons_zero, List.set_cons_succ]
    refine wpAnyU_take (i := 8) (by simp only [List.getElem?_toArray, List.getElem?_cons_succ, List.getElem?_cons_zero]; rfl) (by kernel_rfl) (by kernel_rfl) (by kernel_rfl) (by decide) (by kernel_rfl) (by kernel_rfl) (by exact fun _ _ _ h => h) (yields_ld (ad := ⟨g, 1, none⟩) (by rfl) _ rfl rfl (fun w' h => ld3 h.2.1)) (by exact hs) ?_
    try simp only [Act.put, List.setIfInBounds_toArray, List.set_cons_zero, List.set_cons_succ]
    refine wpAnyU_take (i := 9) (by simp only [List.getElem?_toArray, List.getElem?_cons_succ, List.getElem?_cons_zero]; rfl) (by kernel_rfl) (by kernel_rfl) (by kernel_rfl) (by decide) (by kernel_rfl) (by kernel_rfl) (by exact fun _ _ _ h => h) (yields_ld (ad := ⟨g4, 0, none⟩) (by rfl) _ rfl rfl (fun w' h => load32m_run h.2.2.range HL.out.1)) (by exact hs) ?_
    try simp only [Act.put, List.setIfInBounds_toArray, List.set_cons_zero, List.set_cons_succ]
    refine wpAnyU_take (i := 10) (v := ?_) (by simp only [List.getElem?_toArray, List.getElem?_cons_succ, List.getElem?_cons_zero]; rfl) (by kernel_rfl) (by kernel_rfl) (by kernel_rfl) (by decide) (by kernel_rfl) (by kernel_rfl) (by exact fun _ _ _ h => h) (Or.inl ⟨by rfl, ?_⟩) (by exact hs) ?_
    rotate_left
    · intro wq hSw
      clear hSw
      go_simp
      all_goals (with_reducible rfl)
    try simp only [Act.put, List.setIfInBounds_toArray, List.set_cons_zero, List.set_cons_succ]
    refine wpAnyU_take (i := 11) (by simp only [List.getElem?_toArray, List.getElem?_cons_succ, List.getElem?_cons_zero]; rfl) (by kernel_rfl) (by kernel_rfl) (by kernel_rfl) (by decide) (by kernel_rfl) (by kernel_rfl) (by exact fun _ _ _ h => h) (yields_buildE (by rfl) _ _ _ rfl ⟨t.last + 1, av, al, p⟩ HL.out.1 rfl rfl rfl) (by exact hs) ?_
    try simp only [Act.put, List.setIfInBounds_toArray, List.set_cons_zero, List.set_cons_succ]
    refine wpAnyU_ready (rs := [12]) (by kernel_rfl) (by simp) ?_
    refine ReadyU.cons (by simp only [List.getElem?_toArray, List.getElem?_cons_succ, List.getElem?_cons_zero]; rfl) (fun K hK => ?_) ReadyU.nil
    refine step_buildS rfl _ rfl ⟨t.last + 1, av, al, p⟩ rfl HL.out.1 (fun gb w6 hgb hbx haw => ?_)
    have hs1 : w6.cell? ⟨g, 2, none⟩ = some (.slice la n lc) ∧ w6.cell? ⟨g, 1, none⟩ = some (.int .i64 (t.last + 1)) ∧ BoxA w6 g4 av al := ⟨haw.cell (by simp) hs.1, haw.cell (by simp) hs.2.1, hs.2.2.on haw (by simp)⟩
    have HBN := Lib.hid hbx
    replace HBX := Lib.hid (haw.keep (by simp) HBX.out)
    replace HLS := Lib.hid (HLS.out.on haw)
    replace HA4 := Lib.hid (HA4.out.next haw (by simp))
    clear hs hbx haw
    refine hK.out _ _ (fun _ => by exact hs1) ?_
    clear hK K
    try simp only [Act.put, List.setIfInBounds_toArray, List.set_cons_zero, List.set_cons_succ]
    refine wpAnyU_ready (rs := [13]) (by kernel_rfl) (by simp) ?_
    refine ReadyU.cons (by simp only [List.getElem?_toArray, List.getElem?_cons_succ, List.getElem?_cons_zero]; rfl) (fun K hK => ?_) ReadyU.nil
    refine step_appS rfl _ _ rfl (.slice la n lc) t.bs gb 1 ⟨t.last + 1, av, al, p⟩ rfl rfl HLS.out HBN.out HL.out.1 (by rw [← HN.out]; omega) (fun v' w7 hl hgr hmv => ?_)
    have hgo : g ∉ (Value.slice la n lc).ownBlock.toList := fun hc => H.out.ne g (by simpa using hc) rfl
    have hg4o : g4 ∉ (Value.slice la n lc).ownBlock.toList := fun hc => by
      have h1 := H.out.lst.lt g4 (by simpa using hc)
      omega
    have haw : Away (Value.slice la n lc).ownBlock.toList w6 w7 := Away.grow hgr
    have hs : w7.cell? ⟨g, 2, none⟩ = some (.slice la n lc) ∧ w7.cell? ⟨g, 1, none⟩ = some (.int .i64 (t.last + 1)) ∧ BoxA w7 g4 av al := ⟨haw.cell hgo hs1.1, haw.cell hgo hs1.2.1, hs1.2.2.on haw hg4o⟩
    have HB7 := Lib.hid (haw.keep hgo HBX.out)
    have HL7 := Lib.hid hl
    have hsz := HA4.out.size
    have HMV : Hid (Moved w (.slice la n lc) v') := fun k hk => by
      rcases hmv k hk with h1 | h1
      · exact .inl h1
      · exact .inr (by omega)
    have HVG : Hid (∀ k, v'.ownBlock = some k → k ≠ g) := fun k hk => by
      rcases HMV.out k hk with h1 | h1
      · exact H.out.ne k h1
      · omega
    have HA7 : Hid (Away (fp g (.slice la n lc)) w w7) := (HA4.out.mono (by simp [fp])).next haw (fun x hx => .inl (by simp [fp]; exact .inr (by simpa using hx)))
    obtain ⟨va, vn, vc, hv2⟩ : ∃ a n c, v' = .slice a n c := by obtain ⟨a, c, h1, -⟩ := hl.sl; exact ⟨a, _, c, h1⟩
    subst hv2
    clear hs1 hl hgr hmv haw hgo hg4o HLS HBX HBN hsz
    refine hK.out _ _ (fun _ => by exact hs) ?_
    clear hK K
    try simp only [Act.put, List.setIfInBounds_toArray, List.set_cons_zero, List.set_cons_succ]
    refine wpAnyU_ready (rs := [14]) (by kernel_rfl) (by simp) ?_
    refine ReadyU.cons (by simp only [List.getElem?_toArray, List.getElem?_cons_succ, List.getElem?_cons_zero]; rfl) (fun K hK => ?_) ReadyU.nil
    go_simp
    refine hK.out _ _ (fun _ => by exact hs) ?_
    clear hK K
    try simp only [Act.put, List.setIfInBounds_toArray, List.set_cons_zero, List.set_cons_succ]
    refine wpAnyU_ready (rs := [15]) (by kernel_rfl) (by simp) ?_
    refine ReadyU.cons (by simp only [List.getElem?_toArray, List.getElem?_cons_succ, List.getElem?_cons_zero]; rfl) (fun K hK => ?_) ReadyU.nil
    go_simp
    refine hK.out _ _ (fun _ => by exact hs) ?_
    clear hK K
    try simp only [Act.put, List.setIfInBounds_toArray, List.set_cons_zero, List.set_cons_succ]
    have c2 := cell_of_block HB7.out 2
    have f2 := free_of_block HB7.out 2
    simp at c2
    refine wpAnyU_ready (rs := [16]) (by kernel_rfl) (by simp) ?_
    refine ReadyU.cons (by simp only [List.getElem?_toArray, List.getElem?_cons_succ, List.getElem?_cons_zero]; rfl) (fun K hK => ?_) ReadyU.nil
    go_simp
    refine hK.out _ _ (fun h => absurd h (by decide)) ?_
    clear hK K hs
    refine wpAnyU_done (by kernel_rfl) ?_ _
    have haw := (Away.refl [g] w7).setCell (p := ⟨g, 2, none⟩) (.inl (by simp)) (.slice va vn vc)
    have HB8 : Hid ((w7.setCell ⟨g, 2, none⟩ (.slice va vn vc)).heap[g]? = some (.cells #[.int .i64 t.most, .int .i64 (t.last + 1), .slice va vn vc] 61 (0, 0))) := by show _ = _; rw [block_set HB7.out]; rfl
    have HL8 := Lib.hid (HL7.out.away haw (fun k hk => by simp; exact HVG.out k hk))
    have HA8 : Hid (Away (fp g (.slice la n lc)) w (w7.setCell ⟨g, 2, none⟩ (.slice va vn vc))) := HA7.out.trans (haw.mono (by simp [fp]))
    clear haw c2 f2 HB7 HL7 HA7
    generalize w7.setCell ⟨g, 2, none⟩ (.slice va vn vc) = w8 at *
    have c1 := cell_of_block HB8.out 1
    simp at c1
    go_wp2_with fail
    go_ret3
    rw [HE2.out]
    exact ⟨rfl, _, ⟨HB8.out, HL8.out, HVG.out, HWF.out⟩, by rw [← HN.out]; exact HA8.out, by rw [← HN.out]; exact HMV.out⟩
end Go.Proofs.Ytemdgggpfadecaa
