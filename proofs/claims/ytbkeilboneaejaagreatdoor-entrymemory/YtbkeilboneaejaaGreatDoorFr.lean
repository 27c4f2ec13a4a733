/-
  frames of package cut.
-/
import Derived.Test.YtbkeilboneaejaaGreatDoorCutA
import Derived.Test.YtbkeilboneaejaaGreatDoorCarA
namespace Go.Proofs.YtbkeilboneaejaaGreatDoor
open Go.ChangeShapes Go.WideShapes Go.ChangeAt Go.RowKit Num
set_option linter.unusedVariables false
set_option maxHeartbeats 4000000
set_option maxRecDepth 100000

theorem wp_store28 {o : Oper} {a : Act} {w : World} {K : Act → World → Prop} {Q : Exit → Act → World → Prop} (x y : Operand) (ho : o.op = .store 28 x y)
    (g : Nat) (hx : a.eval x = .pointer (some ⟨g, 0, none⟩)) (p : Pk) (ov dv : Value) (hy : a.eval y = .agg (csP p ov dv)) (q : Pk) (ou du : Value) (hb : BoxP w g q ou du) (ha : Ad p) (hq : Ad q) (h1 : ov.oneCell' = true) (h2 : dv.oneCell' = true)
    (h : ∀ w1, BoxP w1 g p ov dv → Away [g] w w1 → K (a.put o.dst undef) w1) : Oper.wp Tryz.prog o a w K Q :=
  wp_store_row 28 x y ho g (csP p ov dv) hx hy 28 (csP q ou du) hb (by rw [csP_size ha]; exact info28) (by rw [csP_size ha, csP_size hq]) (csP_one p ov dv h1 h2) (h _ (by
    unfold BoxP at hb ⊢; simp [World.setRow, Array.getElem?_modify, hb]) ((Away.refl [g] w).setRow (.inl (by simp)) _))
theorem wp_alloc28 {o : Oper} {a : Act} {w : World} {K : Act → World → Prop} {Q : Exit → Act → World → Prop} (ho : o.op = .alloc 28)
    (h : ∀ g w1, w.heap.size ≤ g → BoxP w1 g zeroPk (.slice none 0 0) (.slice none 0 0) → Away [] w w1 → K (a.put o.dst (.pointer (some ⟨g, 0, none⟩))) w1) : Oper.wp Tryz.prog o a w K Q := by
  unfold Oper.wp execOp
  simp only [ho, Sem.run_bind, Instr.alloc, zeros28, newVar, newRow, run_newObj_alloc, Sem.run_pure, Result.andThen_ok]
  exact h w.heap.size _ (Nat.le_refl _) (block_new _ _) ((Away.refl [] w).alloc _)
theorem result2828 {fn : Func} {t u : Tmp} (h : fn.results = #[.cell t 28, .cell u 28]) (tmps : Array Value) (w : World) (g g' : Nat) (p q : Pk) (ov dv ou du : Value) (ht : tmps.getD t undef = .pointer (some ⟨g, 0, none⟩)) (hu : tmps.getD u undef = .pointer (some ⟨g', 0, none⟩)) (hb : BoxP w g p ov dv) (hb' : BoxP w g' q ou du) (ha : Ad p) (hq : Ad q) :
    (results fn tmps).run Tryz.prog w = .ok (.tuple #[.agg (csP p ov dv), .agg (csP q ou du)]) w := by
  have e1 := run_loadVar_row (P := Tryz.prog) w g 28 28 (csP p ov dv) (0, 0) _ hb Tryz.underlying28 rfl (by rw [csP_size ha]; exact info28)
  have e2 := run_loadVar_row (P := Tryz.prog) w g' 28 28 (csP q ou du) (0, 0) _ hb' Tryz.underlying28 rfl (by rw [csP_size hq]; exact info28)
  have ht' : tmps[t]?.getD undef = .pointer (some ⟨g, 0, none⟩) := by simpa using ht
  have hu' : tmps[u]?.getD undef = .pointer (some ⟨g', 0, none⟩) := by simpa using hu
  simp [results, h, ht', hu', asAddr, e1, e2]
theorem fst_ad {p : Pk} (h : Ad p) (id : Int) : Ad (fstP p id) := by unfold fstP; split <;> exact h
theorem lat_ad {p : Pk} (h : Ad p) (id : Int) : Ad (latP p id) := fst_ad h id
/-- What frames tells. -/
def FrOut (w : World) (p : Pk) (ov : Value) (id : Int) (E : Ending) (w' : World) : Prop :=
  ∃ cv, E = .returned (.tuple #[.agg (csP (fstP p id) ov (.slice none 0 0)), .agg (csP (latP p id) cv (.slice none 0 0))]) ∧ Owns w' cv (carryP p.o) ∧ New w.heap.size cv ∧ Away [] w w'
theorem frames_c (p : Pk) (ov dv : Value) (id : Int) (w : World) (hp : Pkt w p ov dv) (hg : Glob w) :
    Calls Tryz.prog 82 #[.agg (csP p ov dv), .int .u32 id] w fun E w' => FrOut w p ov id E w' := by
  have HAD := Lib.hid hp.wf.ad
  have HFA : Hid (Ad (fstP p id)) := fst_ad hp.wf.ad id
  have KC : Hid (∀ w', Away [] w w' → Calls Tryz.prog 107 #[ov] w' fun E w'' => S4.BytesOut w' (carryP p.o) E w'') := by
    obtain ⟨a, c, rfl, x1, x2, x3⟩ := hp.o
    exact fun w' h => S4.carry_c a p.o _ c w' rfl x1 (x3.away h (by simp)) (hg.on h)
  have hdv := hp.dv
  obtain ⟨-, ⟨o1, o2, rfl, -⟩, -⟩ := hp
  clear hg
  have HDV := Lib.hid hdv
  clear hdv
  generalize p.o.length = no at *
  obtain ⟨ov, hov⟩ : ∃ ov, ov = Value.slice o1 no o2 := ⟨_, rfl⟩
  go_enter Tryz.func82, Tryz.ntmps82
  go_wp2_with (refine wpList_box28 rfl _ rfl p _ _ rfl ?_; refine Hid.out ?_)
  refine Lib.hid ?_
  intro g1 w1 hg1 hb1 haw1
  have HB1 := Lib.hid hb1; have HA := Lib.hid haw1
  have hl1 := hb1.lt
  have hs1 := haw1.size
  clear hb1 haw1
  go_wp2_with (refine wpList_alloc28 rfl rfl ?_; refine Hid.out ?_)
  refine Lib.hid ?_
  intro g2 w2 hg2 hb2 haw2
  have HB2 := Lib.hid hb2
  replace HB1 := Lib.hid (HB1.out.on haw2)
  replace HA := Lib.hid (HA.out.next haw2 (by simp))
  have hl2 := hb2.lt
  have hs2 := haw2.size
  clear hb2 haw2
  go_wp2_with (refine wpList_alloc28 rfl rfl ?_; refine Hid.out ?_)
  refine Lib.hid ?_
  intro g3 w3 hg3 hb3 haw3
  have HB3 := Lib.hid hb3
  replace HB1 := Lib.hid (HB1.out.on haw3)
  replace HB2 := Lib.hid (HB2.out.on haw3)
  replace HA := Lib.hid (HA.out.next haw3 (by simp))
  have hl3 := hb3.lt
  have hs3 := haw3.size
  clear hb3 haw3
  go_wp2_with (first
    | (refine wpList_load28 rfl _ rfl g1 rfl p _ _ (by exact HB1.out) HAD.out ?_)
    | (refine wpList_store28 rfl _ _ rfl g2 rfl p (.slice o1 no o2) dv rfl zeroPk (.slice none 0 0) (.slice none 0 0) (by exact HB2.out) HAD.out ⟨rfl, rfl⟩ rfl HDV.out ?_; refine Hid.out ?_))
  refine Lib.hid ?_
  intro w4 hb4 haw4
  replace HB2 := Lib.hid hb4
  replace HB1 := Lib.hid (HB1.out.away haw4 (by simp; omega))
  replace HB3 := Lib.hid (HB3.out.away haw4 (by simp; omega))
  replace HA := Lib.hid (HA.out.next haw4 (fun x hx => .inr (by simp at hx; omega)))
  have hs4 := haw4.size
  clear hb4 haw4
  have s45 := (HB2.out.cells HAD.out).d
  have t45 := HB2.out.free 45
  have hA5 := away_put (w := w4) (g := g2) 45 (.slice none 0 0)
  replace HB2 := Lib.hid (HB2.out.put 45 (.slice none 0 0) ((csP_set HAD.out _ _).2.2.2.2.2.2.2.2.2.2.2.2.2 [] (.slice none 0 0)))
  replace HB1 := Lib.hid (HB1.out.away hA5 (by simp; omega))
  replace HB3 := Lib.hid (HB3.out.away hA5 (by simp; omega))
  replace HA := Lib.hid (HA.out.next hA5 (fun x hx => .inr (by simp at hx; omega)))
  have hs5 := hA5.size
  clear hA5
  go_upto_region 3 with fail
  clear s45 t45
  generalize w4.setCell ⟨g2, 45, none⟩ (.slice none 0 0) = w5 at *
  rw [← hov] at HB1 HB2 KC ⊢
  have c0 := (HB1.out.cells HAD.out).v
  by_cases hv : p.v = 6
  · rw [hv] at c0
    have e : fstP p id = { p with d := [], frag := true, id := id } := by unfold fstP; rw [if_pos hv]
    have s42 := (HB2.out.cells HAD.out).frag
    have t42 := HB2.out.free 42
    have s39 := (HB2.out.cells HAD.out).id
    have t39 := HB2.out.free 39
    have HB4 := Lib.hid (HB2.out.put 42 (.bool true) ((csP_set (p := { p with d := [] }) HAD.out _ _).2.2.2.2.2.2.2.2.2.2.1 true))
    have HB5 := Lib.hid (HB4.out.put 39 (.int .u32 id) ((csP_set (p := { p with d := [], frag := true }) HAD.out _ _).2.2.2.2.2.2.2.1 id))
    have hA4 := away_put (w := w5) (g := g2) 42 (.bool true)
    have hA5 := away_put (w := w5.setCell ⟨g2, 42, none⟩ (.bool true)) (g := g2) 39 (.int .u32 id)
    have hA6 := hA4.trans hA5
    clear HB2
    have HB2 := Lib.hid (show BoxP _ g2 (fstP p id) ov (.slice none 0 0) from by rw [e]; exact HB5.out)
    clear e
    replace HB1 := Lib.hid (HB1.out.away hA6 (by simp; omega))
    replace HB3 := Lib.hid (HB3.out.away hA6 (by simp; omega))
    replace HA := Lib.hid (HA.out.next hA6 (fun x hx => .inr (by simp at hx; omega)))
    have hs6' := hA6.size
    clear hA4 hA5 hA6 HB4 HB5
    go_upto_region 5 with fail
    clear s42 t42 s39 t39 c0
    generalize (w5.setCell ⟨g2, 42, none⟩ (.bool true)).setCell ⟨g2, 39, none⟩ (.int .u32 id) = w55 at *
    subst hov
    go_wp2_with (first
      | (refine wpList_load28 rfl _ rfl g2 rfl (fstP p id) _ _ (by exact HB2.out) HFA.out ?_)
      | (refine wpList_store28 rfl _ _ rfl g3 rfl (fstP p id) (.slice o1 no o2) (.slice none 0 0) rfl zeroPk (.slice none 0 0) (.slice none 0 0) (by exact HB3.out) HFA.out ⟨rfl, rfl⟩ rfl rfl ?_; refine Hid.out ?_))
    refine Lib.hid ?_
    intro w6 hb6 haw6
    replace HB3 := Lib.hid hb6
    replace HB1 := Lib.hid (HB1.out.away haw6 (by simp; omega))
    replace HB2 := Lib.hid (HB2.out.away haw6 (by simp; omega))
    replace HA := Lib.hid (HA.out.next haw6 (fun x hx => .inr (by simp at hx; omega)))
    have hs6 := haw6.size
    clear hb6 haw6
    have c44 := (HB1.out.cells HAD.out).o
    go_wp2_with fail
    refine (KC.out _ HA.out).mono ?_
    rintro E w7 ⟨cv, rfl, hown, hnew, haw7⟩
    replace HB1 := Lib.hid (HB1.out.on haw7)
    replace HB2 := Lib.hid (HB2.out.on haw7)
    replace HB3 := Lib.hid (HB3.out.on haw7)
    replace HA := Lib.hid (HA.out.next haw7 (by simp))
    have hs7 := haw7.size
    have HO := Lib.hid hown
    have HN := Lib.hid (show ∀ k, cv.ownBlock = some k → k ≠ g2 ∧ k ≠ g3 ∧ w.heap.size ≤ k from fun k hk => by have := hnew k hk; exact ⟨by omega, by omega, by omega⟩)
    clear c44 haw7 hown hnew KC
    obtain ⟨ca, cn, cc, rfl⟩ := HO.out.shp
    have s44 := (HB3.out.cells HFA.out).o
    have t44 := HB3.out.free 44
    have hA8 := away_put (w := w7) (g := g3) 44 (.slice ca cn cc)
    have HB8 := Lib.hid (show BoxP _ g3 (latP p id) (.slice ca cn cc) (.slice none 0 0) from HB3.out.put 44 (.slice ca cn cc) ((csP_set HFA.out _ _).2.2.2.2.2.2.2.2.2.2.2.2.1 (carryP p.o) (.slice ca cn cc)))
    replace HB2 := Lib.hid (HB2.out.away hA8 (by simp; omega))
    replace HA := Lib.hid (HA.out.next hA8 (fun x hx => .inr (by simp at hx; omega)))
    replace HO := Lib.hid (HO.out.away hA8 (fun k hk => by simpa using (HN.out k hk).2.1))
    have hs8 := hA8.size
    clear hA8 HB3 HB1
    go_upto_region 7 with fail
    clear s44 t44
    generalize w7.setCell ⟨g3, 44, none⟩ (.slice ca cn cc) = w8 at *
    go_wp2_with fail
    have HLA : Hid (Ad (latP p id)) := lat_ad HAD.out id
    have HK : Hid (Away [] w w8.drew ∧ BoxP w8.drew g2 (fstP p id) (.slice o1 no o2) (.slice none 0 0) ∧ BoxP w8.drew g3 (latP p id) (.slice ca cn cc) (.slice none 0 0) ∧ Owns w8.drew (.slice ca cn cc) (carryP p.o)) := ⟨HA.out.drew, HB2.out, HB8.out, HO.out⟩
    clear HA HB2 HB8 HO
    refine wp_region_held_drew (S := (fun w' => Away [] w w' ∧ BoxP w' g2 (fstP p id) (.slice o1 no o2) (.slice none 0 0) ∧ BoxP w' g3 (latP p id) (.slice ca cn cc) (.slice none 0 0) ∧ Owns w' (.slice ca cn cc) (carryP p.o))) (by kernel_rfl) HK.out (fun hHeld => ?_)
    refine wpAnyH_take (i := 0) (by simp only [List.getElem?_toArray, List.getElem?_cons_zero]; rfl) (by kernel_rfl) (by kernel_rfl) (by kernel_rfl) (by exact fun _ _ _ h => h) (yields_ldc (ad := ⟨g2, 0, none⟩) (by rfl) _ rfl rfl (fun w' h => S6.load28_run h.2.1 HFA.out)) (by assumption) ?_
    try simp only [Act.put, List.setIfInBounds_toArray, List.set_cons_zero, List.set_cons_succ]
    refine wpAnyH_take (i := 1) (by simp only [List.getElem?_toArray, List.getElem?_cons_succ, List.getElem?_cons_zero]; rfl) (by kernel_rfl) (by kernel_rfl) (by kernel_rfl) (by exact fun _ _ _ h => h) (yields_ldc (ad := ⟨g3, 0, none⟩) (by rfl) _ rfl rfl (fun w' h => S6.load28_run h.2.2.1 HLA.out)) (by assumption) ?_
    try simp only [Act.put, List.setIfInBounds_toArray, List.set_cons_zero, List.set_cons_succ]
    refine wpAnyH_ready (rs := [2]) (by kernel_rfl) (by simp) ?_
    refine AllReadyH.cons (by simp only [List.getElem?_toArray, List.getElem?_cons_succ, List.getElem?_cons_zero]; rfl) (fun K hK => ?_) AllReadyH.nil
    rw [if_pos (by rfl)]
    refine wp_store28 (.tmp 4) (.tmp 19) rfl g2 rfl (fstP p id) (.slice o1 no o2) (.slice none 0 0) rfl _ _ _ (by exact hHeld.2.1) HFA.out HFA.out rfl rfl ?_
    intro y1 hb1 haw1
    have hS : Away [] w y1 ∧ BoxP y1 g2 (fstP p id) (.slice o1 no o2) (.slice none 0 0) ∧ BoxP y1 g3 (latP p id) (.slice ca cn cc) (.slice none 0 0) ∧ Owns y1 (.slice ca cn cc) (carryP p.o) := ⟨hHeld.1.next haw1 (fun x hx => .inr (by simp at hx; omega)), hb1, hHeld.2.2.1.away haw1 (by simp; omega), hHeld.2.2.2.away haw1 (fun k hk => by simpa using (HN.out k hk).1)⟩
    refine hK.out _ _ hS (fun hHeld => ?_)
    clear hK K hb1 haw1 hS
    try simp only [Act.put]
    refine wpAnyH_ready (rs := [3]) (by kernel_rfl) (by simp) ?_
    refine AllReadyH.cons (by simp only [List.getElem?_toArray, List.getElem?_cons_succ, List.getElem?_cons_zero]; rfl) (fun K hK => ?_) AllReadyH.nil
    rw [if_pos (by rfl)]
    refine wp_store28 (.tmp 5) (.tmp 20) rfl g3 rfl (latP p id) (.slice ca cn cc) (.slice none 0 0) rfl _ _ _ (by exact hHeld.2.2.1) HLA.out HLA.out rfl rfl ?_
    intro y2 hb2 haw2
    have hS : Away [] w y2 ∧ BoxP y2 g2 (fstP p id) (.slice o1 no o2) (.slice none 0 0) ∧ BoxP y2 g3 (latP p id) (.slice ca cn cc) (.slice none 0 0) ∧ Owns y2 (.slice ca cn cc) (carryP p.o) := ⟨hHeld.1.next haw2 (fun x hx => .inr (by simp at hx; omega)), hHeld.2.1.away haw2 (by simp; omega), hb2, hHeld.2.2.2.away haw2 (fun k hk => by simpa using (HN.out k hk).2.1)⟩
    refine hK.out _ _ hS (fun hHeld => ?_)
    clear hK K hb2 haw2 hS
    try simp only [Act.put]
    refine wpAnyH_done (by kernel_rfl) ?_ _
    go_wp2_with fail
    exact bodyPost_ret (result2828 rfl _ _ g2 g3 (fstP p id) (latP p id) _ _ _ _ rfl rfl hHeld.2.1 hHeld.2.2.1 HFA.out HLA.out) rfl ⟨_, rfl, hHeld.2.2.2, fun k hk => (HN.out k hk).2.2, hHeld.1⟩
  · have e : fstP p id = { p with d := [] } := by unfold fstP; rw [if_neg hv]
    have hbv : decide (p.v = 6) = false := by simp [hv]
    have HB2' := Lib.hid (show BoxP _ g2 (fstP p id) ov (.slice none 0 0) from by rw [e]; exact HB2.out)
    clear e HB2
    have HB2 := HB2'
    clear HB2'
    go_upto_region 5 with fail
    clear c0
    subst hov
    go_wp2_with (first
      | (refine wpList_load28 rfl _ rfl g2 rfl (fstP p id) _ _ (by exact HB2.out) HFA.out ?_)
      | (refine wpList_store28 rfl _ _ rfl g3 rfl (fstP p id) (.slice o1 no o2) (.slice none 0 0) rfl zeroPk (.slice none 0 0) (.slice none 0 0) (by exact HB3.out) HFA.out ⟨rfl, rfl⟩ rfl rfl ?_; refine Hid.out ?_))
    refine Lib.hid ?_
    intro w6 hb6 haw6
    replace HB3 := Lib.hid hb6
    replace HB1 := Lib.hid (HB1.out.away haw6 (by simp; omega))
    replace HB2 := Lib.hid (HB2.out.away haw6 (by simp; omega))
    replace HA := Lib.hid (HA.out.next haw6 (fun x hx => .inr (by simp at hx; omega)))
    have hs6 := haw6.size
    clear hb6 haw6
    have c44 := (HB1.out.cells HAD.out).o
    go_wp2_with fail
    refine (KC.out _ HA.out).mono ?_
    rintro E w7 ⟨cv, rfl, hown, hnew, haw7⟩
    replace HB1 := Lib.hid (HB1.out.on haw7)
    replace HB2 := Lib.hid (HB2.out.on haw7)
    replace HB3 := Lib.hid (HB3.out.on haw7)
    replace HA := Lib.hid (HA.out.next haw7 (by simp))
    have hs7 := haw7.size
    have HO := Lib.hid hown
    have HN := Lib.hid (show ∀ k, cv.ownBlock = some k → k ≠ g2 ∧ k ≠ g3 ∧ w.heap.size ≤ k from fun k hk => by have := hnew k hk; exact ⟨by omega, by omega, by omega⟩)
    clear c44 haw7 hown hnew KC
    obtain ⟨ca, cn, cc, rfl⟩ := HO.out.shp
    have s44 := (HB3.out.cells HFA.out).o
    have t44 := HB3.out.free 44
    have hA8 := away_put (w := w7) (g := g3) 44 (.slice ca cn cc)
    have HB8 := Lib.hid (show BoxP _ g3 (latP p id) (.slice ca cn cc) (.slice none 0 0) from HB3.out.put 44 (.slice ca cn cc) ((csP_set HFA.out _ _).2.2.2.2.2.2.2.2.2.2.2.2.1 (carryP p.o) (.slice ca cn cc)))
    replace HB2 := Lib.hid (HB2.out.away hA8 (by simp; omega))
    replace HA := Lib.hid (HA.out.next hA8 (fun x hx => .inr (by simp at hx; omega)))
    replace HO := Lib.hid (HO.out.away hA8 (fun k hk => by simpa using (HN.out k hk).2.1))
    have hs8 := hA8.size
    clear hA8 HB3 HB1
    go_upto_region 7 with fail
    clear s44 t44
    generalize w7.setCell ⟨g3, 44, none⟩ (.slice ca cn cc) = w8 at *
    go_wp2_with fail
    have HLA : Hid (Ad (latP p id)) := lat_ad HAD.out id
    have HK : Hid (Away [] w w8.drew ∧ BoxP w8.drew g2 (fstP p id) (.slice o1 no o2) (.slice none 0 0) ∧ BoxP w8.drew g3 (latP p id) (.slice ca cn cc) (.slice none 0 0) ∧ Owns w8.drew (.slice ca cn cc) (carryP p.o)) := ⟨HA.out.drew, HB2.out, HB8.out, HO.out⟩
    clear HA HB2 HB8 HO
    refine wp_region_held_drew (S := (fun w' => Away [] w w' ∧ BoxP w' g2 (fstP p id) (.slice o1 no o2) (.slice none 0 0) ∧ BoxP w' g3 (latP p id) (.slice ca cn cc) (.slice none 0 0) ∧ Owns w' (.slice ca cn cc) (carryP p.o))) (by kernel_rfl) HK.out (fun hHeld => ?_)
    refine wpAnyH_take (i := 0) (by simp only [List.getElem?_toArray, List.getElem?_cons_zero]; rfl) (by kernel_rfl) (by kernel_rfl) (by kernel_rfl) (by exact fun _ _ _ h => h) (yields_ldc (ad := ⟨g2, 0, none⟩) (by rfl) _ rfl rfl (fun w' h => S6.load28_run h.2.1 HFA.out)) (by assumption) ?_
    try simp only [Act.put, List.setIfInBounds_toArray, List.set_cons_zero, List.set_cons_succ]
    refine wpAnyH_take (i := 1) (by simp only [List.getElem?_toArray, List.getElem?_cons_succ, List.getElem?_cons_zero]; rfl) (by kernel_rfl) (by kernel_rfl) (by kernel_rfl) (by exact fun _ _ _ h => h) (yields_ldc (ad := ⟨g3, 0, none⟩) (by rfl) _ rfl rfl (fun w' h => S6.load28_run h.2.2.1 HLA.out)) (by assumption) ?_
    try simp only [Act.put, List.setIfInBounds_toArray, List.set_cons_zero, List.set_cons_succ]
    refine wpAnyH_ready (rs := [2]) (by kernel_rfl) (by simp) ?_
    refine AllReadyH.cons (by simp only [List.getElem?_toArray, List.getElem?_cons_succ, List.getElem?_cons_zero]; rfl) (fun K hK => ?_) AllReadyH.nil
    rw [if_pos (by rfl)]
    refine wp_store28 (.tmp 4) (.tmp 19) rfl g2 rfl (fstP p id) (.slice o1 no o2) (.slice none 0 0) rfl _ _ _ (by exact hHeld.2.1) HFA.out HFA.out rfl rfl ?_
    intro y1 hb1 haw1
    have hS : Away [] w y1 ∧ BoxP y1 g2 (fstP p id) (.slice o1 no o2) (.slice none 0 0) ∧ BoxP y1 g3 (latP p id) (.slice ca cn cc) (.slice none 0 0) ∧ Owns y1 (.slice ca cn cc) (carryP p.o) := ⟨hHeld.1.next haw1 (fun x hx => .inr (by simp at hx; omega)), hb1, hHeld.2.2.1.away haw1 (by simp; omega), hHeld.2.2.2.away haw1 (fun k hk => by simpa using (HN.out k hk).1)⟩
    refine hK.out _ _ hS (fun hHeld => ?_)
    clear hK K hb1 haw1 hS
    try simp only [Act.put]
    refine wpAnyH_ready (rs := [3]) (by kernel_rfl) (by simp) ?_
    refine AllReadyH.cons (by simp only [List.getElem?_toArray, List.getElem?_cons_succ, List.getElem?_cons_zero]; rfl) (fun K hK => ?_) AllReadyH.nil
    rw [if_pos (by rfl)]
    refine wp_store28 (.tmp 5) (.tmp 20) rfl g3 rfl (latP p id) (.slice ca cn cc) (.slice none 0 0) rfl _ _ _ (by exact hHeld.2.2.1) HLA.out HLA.out rfl rfl ?_
    intro y2 hb2 haw2
    have hS : Away [] w y2 ∧ BoxP y2 g2 (fstP p id) (.slice o1 no o2) (.slice none 0 0) ∧ BoxP y2 g3 (latP p id) (.slice ca cn cc) (.slice none 0 0) ∧ Owns y2 (.slice ca cn cc) (carryP p.o) := ⟨hHeld.1.next haw2 (fun x hx => .inr (by simp at hx; omega)), hHeld.2.1.away haw2 (by simp; omega), hb2, hHeld.2.2.2.away haw2 (fun k hk => by simpa using (HN.out k hk).2.1)⟩
    refine hK.out _ _ hS (fun hHeld => ?_)
    clear hK K hb2 haw2 hS
    try simp only [Act.put]
    refine wpAnyH_done (by kernel_rfl) ?_ _
    go_wp2_with fail
    exact bodyPost_ret (result2828 rfl _ _ g2 g3 (fstP p id) (latP p id) _ _ _ _ rfl rfl hHeld.2.1 hHeld.2.2.1 HFA.out HLA.out) rfl ⟨_, rfl, hHeld.2.2.2, fun k hk => (HN.out k hk).2.2, hHeld.1⟩
#print axioms frames_c
end Go.Proofs.YtbkeilboneaejaaGreatDoor
