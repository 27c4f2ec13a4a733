/-
  own of package cut.
-/
import Derived.Test.YtaicckenpplceaaGreatDoorCs
import Derived.Test.YtaicckenpplceaaGreatDoorUnt
import Derived.Deep.RegionHeld3
import Derived.Deep.CutBlock
import Derived.Deep.DeepCutAuto
namespace Go.Proofs.YtaicckenpplceaaGreatDoor
open Go.ChangeShapes Go.WideShapes Go.ChangeAt Go.RowKit Num
set_option linter.unusedVariables false
set_option maxHeartbeats 4000000
set_option maxRecDepth 100000

theorem yields_ld {ops : Array Oper} {S : World → Prop} {op : Oper} {a : Act} {t : TypeId} {v : Value} {ad : Addr} (hw : Region.wanted op (yielded ops a.tmps) = true) (x : Operand) (ho : op.op = .load t x) (hx : a.eval x = .pointer (some ad))
    (hS : ∀ w, S w → (Instr.loadAt t (.pointer (some ad))).run Tryz.prog w = .ok v w) : YieldsIf Tryz.prog ops S op v a :=
  .inl ⟨hw, fun w hw' => by
    unfold execOp
    simp only [ho, hx, Sem.run_bind, hS w hw', Result.andThen_ok, Sem.run_pure]⟩
theorem step_store26 {ops : Array Oper} {o : Oper} {a : Act} {w : World} {K : Act → World → Prop} {Q : Exit → Act → World → Prop} {E : Prop} (hg : o.guard = none) (s r : Nat)
    (ho : o.op = .store 27 (.tmp s) (.tmp r)) (g i : Nat) (hx : a.tmps[s]?.getD undef = .pointer (some ⟨g, i, none⟩)) (b : Option Addr) (n c : Nat) (hy : a.tmps[r]?.getD undef = .slice b n c) (u : Value) (hc : w.cell? ⟨g, i, none⟩ = some u) (hf : w.frozen? ⟨g, i, none⟩ = false)
    (hK : K (a.put o.dst undef) (w.setCell ⟨g, i, none⟩ (.slice b n c))) :
    if Region.wanted o (yielded ops a.tmps) = true then Oper.wp Tryz.prog o a w K Q else E := by
  have hw : Region.wanted o (yielded ops a.tmps) = true := by simp [Region.wanted, hg]
  rw [if_pos hw]
  obtain ⟨d, op, ty, ps, af, gd⟩ := o
  simp only at ho
  subst ho
  go_simp
  exact hK
theorem copyP_c (p : Pk) (ov dv : Value) (w : World) (hp : Pkt w p ov dv) :
    Calls Tryz.prog 81 #[.agg (csP p ov dv)] w fun E w' => OwnOut w p E w' := by
  have HAD := Lib.hid hp.wf.ad
  have KO : Hid (∀ w', Away [] w w' → Calls Tryz.prog 32 #[ov] w' fun E w'' => ∃ v, E = .returned v ∧ Owns w'' v p.o ∧ New w'.heap.size v ∧ Away [] w' w'') := by
    obtain ⟨a, c, rfl, x1, x2, x3⟩ := hp.o
    exact fun w' h => clone_any a p.o c w' x2 (x3.away h (by simp))
  have KD : Hid (∀ w', Away [] w w' → Calls Tryz.prog 32 #[dv] w' fun E w'' => ∃ v, E = .returned v ∧ Owns w'' v p.d ∧ New w'.heap.size v ∧ Away [] w' w'') := by
    obtain ⟨a, c, rfl, x1, x2, x3⟩ := hp.d
    exact fun w' h => clone_any a p.d c w' x2 (x3.away h (by simp))
  obtain ⟨-, ⟨o1, o2, rfl, -⟩, ⟨o3, o4, rfl, -⟩⟩ := hp
  generalize p.o.length = no at *
  generalize p.d.length = nd at *
  go_enter Tryz.func81, Tryz.ntmps81
  go_wp2_with (refine wpList_box28 rfl _ rfl p _ _ rfl ?_; refine Hid.out ?_)
  refine Lib.hid ?_
  intro g1 w1 hg1 hb1 haw1
  have HB1 := Lib.hid hb1; have HA1 := Lib.hid haw1
  have hl1 := hb1.lt
  clear hb1 haw1
  go_wp2_with (refine wpList_alloc28 rfl rfl ?_; refine Hid.out ?_)
  refine Lib.hid ?_
  intro g2 w2 hg2 hb2 haw2
  have HB2 := Lib.hid hb2
  replace HB1 := Lib.hid (HB1.out.on haw2)
  replace HA1 := Lib.hid (HA1.out.next haw2 (by simp))
  have hl2 := hb2.lt
  have hs1 := HA1.out.size
  have hs2 := haw2.size
  clear hb2 haw2
  go_wp2_with fail
  have ck : BoxP w2.drew g1 p (.slice o1 no o2) (.slice o3 nd o4) := HB1.out
  refine wp_region_U [7] (fun w' => BoxP w' g1 p (.slice o1 no o2) (.slice o3 nd o4)) (by kernel_rfl) ?_
  refine wpAnyU_take (i := 0) (v := ?_) (by simp only [List.getElem?_toArray, List.getElem?_cons_zero]; rfl) (by kernel_rfl) (by kernel_rfl) (by kernel_rfl) (by decide) (by decide) (by unfold Un; kernel_rfl) (by exact fun _ _ _ h => h) (Or.inl ⟨by rfl, ?_⟩) (by exact ck) ?_
  rotate_left
  · intro wq hSw
    (try dsimp only at hSw)
    go_simp
    all_goals (with_reducible rfl)
  try simp only [Act.put, List.setIfInBounds_toArray, List.set_cons_zero, List.set_cons_succ]
  refine wpAnyU_take (i := 1) (by simp only [List.getElem?_toArray, List.getElem?_cons_succ, List.getElem?_cons_zero]; rfl) (by kernel_rfl) (by kernel_rfl) (by kernel_rfl) (by decide) (by decide) (by unfold Un; kernel_rfl) (by exact fun _ _ _ h => h) (yields_ld (ad := ⟨g1, 44, none⟩) (by rfl) _ rfl rfl (fun w' h => S6.ld26 (BoxP.cells h HAD.out).o)) (by exact ck) ?_
  try simp only [Act.put, List.setIfInBounds_toArray, List.set_cons_zero, List.set_cons_succ]
  refine wpAnyU_take (i := 3) (v := ?_) (by simp only [List.getElem?_toArray, List.getElem?_cons_succ, List.getElem?_cons_zero]; rfl) (by kernel_rfl) (by kernel_rfl) (by kernel_rfl) (by decide) (by decide) (by unfold Un; kernel_rfl) (by exact fun _ _ _ h => h) (Or.inl ⟨by rfl, ?_⟩) (by exact ck) ?_
  rotate_left
  · intro wq hSw
    (try dsimp only at hSw)
    go_simp
    all_goals (with_reducible rfl)
  try simp only [Act.put, List.setIfInBounds_toArray, List.set_cons_zero, List.set_cons_succ]
  refine wpAnyU_take (i := 4) (by simp only [List.getElem?_toArray, List.getElem?_cons_succ, List.getElem?_cons_zero]; rfl) (by kernel_rfl) (by kernel_rfl) (by kernel_rfl) (by decide) (by decide) (by unfold Un; kernel_rfl) (by exact fun _ _ _ h => h) (yields_ld (ad := ⟨g1, 45, none⟩) (by rfl) _ rfl rfl (fun w' h => S6.ld26 (BoxP.cells h HAD.out).d)) (by exact ck) ?_
  try simp only [Act.put, List.setIfInBounds_toArray, List.set_cons_zero, List.set_cons_succ]
  refine wpAnyU_ready (rs := [2]) (by kernel_rfl) (by simp) ?_
  refine ReadyU.cons (by simp only [List.getElem?_toArray, List.getElem?_cons_succ, List.getElem?_cons_zero]; rfl) (fun K hK => ?_) ReadyU.nil
  go_simp
  refine (KO.out _ HA1.out.drew).mono ?_
  rintro E y1 ⟨v1, rfl, ho1, hn1, ha1⟩
  have HO1 := Lib.hid ho1
  have HB2y := Lib.hid (HB2.out.on ((Away.refl [] w2).drew.next ha1 (by simp)))
  have HAy := Lib.hid (HA1.out.drew.next ha1 (by simp))
  have hsy : w2.heap.size ≤ y1.heap.size := ha1.size
  have hlt1 := ho1.lt
  replace ck := BoxP.on ck ha1
  clear ho1 ha1
  obtain ⟨a3, n3, k3, rfl⟩ := HO1.out.shp
  go_wp2_with fail
  refine hK.out _ _ (fun _ => ck) ?_
  clear hK K
  try simp only [Act.put, List.setIfInBounds_toArray, List.set_cons_zero, List.set_cons_succ]
  refine wpAnyU_take (i := 6) (v := ?_) (by simp only [List.getElem?_toArray, List.getElem?_cons_succ, List.getElem?_cons_zero]; rfl) (by kernel_rfl) (by kernel_rfl) (by kernel_rfl) (by decide) (by decide) (by unfold Un; kernel_rfl) (by exact fun _ _ _ h => h) (Or.inl ⟨by rfl, ?_⟩) (by exact ck) ?_
  rotate_left
  · intro wq hSw
    (try dsimp only at hSw)
    go_simp
    all_goals (with_reducible rfl)
  try simp only [Act.put, List.setIfInBounds_toArray, List.set_cons_zero, List.set_cons_succ]
  refine wpAnyU_ready (rs := [5]) (by kernel_rfl) (by simp) ?_
  refine ReadyU.cons (by simp only [List.getElem?_toArray, List.getElem?_cons_succ, List.getElem?_cons_zero]; rfl) (fun K hK => ?_) ReadyU.nil
  go_simp
  refine (KD.out _ HAy.out).mono ?_
  rintro E y2 ⟨v2, rfl, ho2, hn2, ha2⟩
  have HO2 := Lib.hid ho2
  replace HO1 := Lib.hid (HO1.out.on ha2)
  replace HB2y := Lib.hid (HB2y.out.on ha2)
  replace HAy := Lib.hid (HAy.out.next ha2 (by simp))
  have hsz : y1.heap.size ≤ y2.heap.size := ha2.size
  replace ck := BoxP.on ck ha2
  clear ho2 ha2
  obtain ⟨a5, n5, k5, rfl⟩ := HO2.out.shp
  go_wp2_with fail
  refine hK.out _ _ (fun _ => ck) ?_
  clear hK K
  try simp only [Act.put, List.setIfInBounds_toArray, List.set_cons_zero, List.set_cons_succ]
  refine wpAnyU_ready (rs := [7]) (by kernel_rfl) (by simp) ?_
  refine ReadyU.cons (by simp only [List.getElem?_toArray, List.getElem?_cons_succ, List.getElem?_cons_zero]; rfl) (fun K hK => ?_) ReadyU.nil
  refine step_store26 rfl 9 5 rfl g1 44 rfl a3 n3 k3 rfl _ (by exact (ck.cells HAD.out).o) (by exact ck.free 44) ?_
  refine hK.out _ _ (by intro h; simp [Un] at h) ?_
  clear hK K
  try simp only [Act.put]
  have CK3 := Lib.hid (ck.put 44 (.slice a3 n3 k3) ((csP_set HAD.out _ _).2.2.2.2.2.2.2.2.2.2.2.2.1 p.o (.slice a3 n3 k3)))
  have hA3 := away_put (w := y2) (g := g1) 44 (.slice a3 n3 k3)
  refine wpAnyU_ready (rs := [8]) (by kernel_rfl) (by simp) ?_
  refine ReadyU.cons (by simp only [List.getElem?_toArray, List.getElem?_cons_succ, List.getElem?_cons_zero]; rfl) (fun K hK => ?_) ReadyU.nil
  go_simp
  refine hK.out _ _ (by intro h; simp [Un] at h) ?_
  clear hK K
  try simp only [Act.put]
  refine wpAnyU_ready (rs := [9]) (by kernel_rfl) (by simp) ?_
  refine ReadyU.cons (by simp only [List.getElem?_toArray, List.getElem?_cons_succ, List.getElem?_cons_zero]; rfl) (fun K hK => ?_) ReadyU.nil
  refine step_store26 rfl 10 8 rfl g1 45 rfl a5 n5 k5 rfl _ (by exact (CK3.out.cells HAD.out).d) (by exact CK3.out.free 45) ?_
  refine hK.out _ _ (by intro h; simp [Un] at h) ?_
  clear hK K
  try simp only [Act.put]
  refine wpAnyU_done (by kernel_rfl) ?_ _
  have hA4 := away_put (w := y2.setCell ⟨g1, 44, none⟩ (.slice a3 n3 k3)) (g := g1) 45 (.slice a5 n5 k5)
  have HB6 := Lib.hid (CK3.out.put 45 (.slice a5 n5 k5) ((csP_set (p := { p with o := p.o }) HAD.out _ _).2.2.2.2.2.2.2.2.2.2.2.2.2 p.d (.slice a5 n5 k5)))
  have hA := hA3.trans hA4
  have hv3 : ∀ k, (Value.slice a3 n3 k3).ownBlock = some k → k ≠ g1 ∧ k ≠ g2 ∧ w.heap.size ≤ k ∧ k < y1.heap.size := fun k hk => by
    have h1 := hn1 k hk
    have h2 := hlt1 k hk
    have h3 : w2.heap.size ≤ k := h1
    exact ⟨by omega, by omega, by omega, h2⟩
  have hv5 : ∀ k, (Value.slice a5 n5 k5).ownBlock = some k → k ≠ g1 ∧ k ≠ g2 ∧ w.heap.size ≤ k ∧ y1.heap.size ≤ k := fun k hk => by
    have h1 := hn2 k hk
    exact ⟨by omega, by omega, by omega, h1⟩
  have HM := Lib.hid (show Mine _ w.heap.size p (.slice a3 n3 k3) (.slice a5 n5 k5) from ⟨HO1.out.away hA (fun k hk => by simpa using (hv3 k hk).1), HO2.out.away hA (fun k hk => by simpa using (hv5 k hk).1), fun k hk => (hv3 k hk).2.2.1, fun k hk => (hv5 k hk).2.2.1, fun k hk e => by
    have h1 := (hv3 k hk).2.2.2; have h2 := (hv5 k e).2.2.2; omega⟩)
  have HB7 := Lib.hid (HB2y.out.away hA (by simp; omega))
  have HA7 := Lib.hid (HAy.out.next hA (fun x hx => .inr (by simp at hx; omega)))
  have HV := Lib.hid (show ∀ k, (Value.slice a3 n3 k3).ownBlock = some k ∨ (Value.slice a5 n5 k5).ownBlock = some k → k ≠ g2 from fun k hk => by
    rcases hk with hk | hk
    · exact (hv3 k hk).2.1
    · exact (hv5 k hk).2.1)
  have hz7 : w.heap.size ≤ g2 := by omega
  clear hA hA3 hA4 CK3 ck HO1 HO2 HB2y HAy hv3 hv5 hn1 hn2 hlt1 hsy hsz
  generalize (y2.setCell ⟨g1, 44, none⟩ (.slice a3 n3 k3)).setCell ⟨g1, 45, none⟩ (.slice a5 n5 k5) = w6 at *
  go_wp2_with (first
    | (refine wpList_load28 rfl _ rfl _ rfl p _ _ (by exact HB6.out) HAD.out ?_)
    | (refine wpList_store28 rfl _ _ rfl _ rfl p (.slice a3 n3 k3) (.slice a5 n5 k5) rfl zeroPk (.slice none 0 0) (.slice none 0 0) (by exact HB7.out) HAD.out ⟨rfl, rfl⟩ rfl rfl ?_; refine Hid.out ?_))
  refine Lib.hid ?_
  intro w7 hb7 haw7
  have HB8 := Lib.hid hb7
  have HA8 : Hid (Away [] w w7) := HA7.out.next haw7 (fun x hx => .inr (by simp at hx; omega))
  have HM8 := Lib.hid (HM.out.away haw7 (fun k hk => by simpa using HV.out k hk))
  clear hb7 haw7
  go_wp2_with fail
  exact bodyPost_ret (result28 rfl _ _ _ _ _ _ rfl HB8.out HAD.out) rfl ⟨_, _, rfl, HM8.out, HA8.out⟩
#print axioms copyP_c
end Go.Proofs.YtaicckenpplceaaGreatDoor
