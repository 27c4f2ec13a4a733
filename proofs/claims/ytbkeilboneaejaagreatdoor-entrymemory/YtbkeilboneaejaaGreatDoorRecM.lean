/-
  parted and Is of package recut.
-/
import Derived.Test.YtbkeilboneaejaaGreatDoorCutA
import Derived.Test.YtbkeilboneaejaaGreatDoorCutF
namespace Go.Proofs.YtbkeilboneaejaaGreatDoor
open Go.ChangeShapes Go.WideShapes Go.ChangeAt Go.RowKit Num
set_option linter.unusedVariables false
set_option maxHeartbeats 4000000
set_option maxRecDepth 100000

namespace R
theorem length_c (p : Pk) (ov dv : Value) (w : World) (hp : Pkt w p ov dv) (hg : Glob w) :
    Calls Tryz.prog 65 #[.agg (csP p ov dv)] w fun E w' => E = .returned (.int .i64 (longP p)) ∧ Away [] w w' := by
  have ha := hp.wf.ad
  have K4 : Hid (∀ w', Away [] w w' → Calls Tryz.prog 85 #[.agg (csP p ov dv)] w' fun E w'' => E = .returned (.int .i64 (headP p)) ∧ Away [] w' w'') := fun w' h => head_c p ov dv w' (hp.on h) (hg.on h)
  have K6 : Hid (∀ w', Away [] w w' → Calls Tryz.prog 86 #[.agg (csP p ov dv)] w' fun E w'' => E = .returned (.int .i64 (S6.headP p)) ∧ Away [] w' w'') := fun w' h => S6.head_c p ov dv w' (hp.on h).six
  have hol := hp.wf.ol; have hdn := hp.wf.dn
  have b4 := head_bd p; have b6 := head6_bd p
  obtain ⟨hwf, ho, ⟨ad, capd, rfl, q1, q2, q3⟩⟩ := hp
  clear hwf ho q1 q2 q3 hg
  obtain ⟨z, hz⟩ : ∃ z, z = longP p := ⟨_, rfl⟩
  rw [← hz]
  have HZ : Hid (z = if (if p.v = 6 then S6.headP p else headP p) = 0 then 0 else (if p.v = 6 then S6.headP p else headP p) + p.d.length) := hz
  clear hz
  have HAD : Hid (Ad p) := ha
  clear ha
  go_enter Tryz.func65, Tryz.ntmps65
  go_wp2_with (refine wpList_box28 rfl _ rfl p _ _ rfl ?_; refine Hid.out ?_)
  refine Lib.hid ?_
  intro g w1 hg hb haw
  have HA : Hid (Away [] w w1) := haw
  have HB : Hid (BoxP w1 g p ov (.slice ad p.d.length capd)) := hb
  clear hb haw hg
  go_wp2_with (refine wpList_load28 rfl _ rfl _ rfl p _ _ (by exact HB.out) HAD.out ?_)
  refine (K4.out _ HA.out).mono ?_
  rintro E w2 ⟨rfl, haw⟩
  replace HB := Lib.hid (HB.out.on haw)
  replace HA := Lib.hid (HA.out.next haw (by simp))
  clear haw K4
  have c0 := (HB.out.cells HAD.out).v
  have c45 := (HB.out.cells HAD.out).d
  generalize headP p = h4 at *
  generalize S6.headP p = h6 at *
  by_cases hv : p.v = 6
  · rw [hv] at c0
    go_wp2_with (refine wpList_load28 rfl _ rfl _ rfl p _ _ (by exact HB.out) HAD.out ?_)
    refine (K6.out _ HA.out).mono ?_
    rintro E w3 ⟨rfl, haw⟩
    replace HB := Lib.hid (HB.out.on haw)
    replace HA := Lib.hid (HA.out.next haw (by simp))
    clear haw K6 c0 c45
    have c45 := (HB.out.cells HAD.out).d
    have HZ2 : Hid (z = if h6 = 0 then 0 else h6 + p.d.length) := by show _ = _; rw [HZ.out]; simp only [hv, if_true]
    clear HZ
    by_cases h0 : h6 = 0
    · subst h0
      obtain rfl : z = 0 := HZ2.out
      go_wp2_with fail
      go_ret
      exact ⟨rfl, HA.out⟩
    · have hb0 : decide (h6 = 0) = false := by simp [h0]
      go_wp2_with fail
      go_ret
      refine ⟨?_, HA.out⟩
      have := HZ2.out
      rw [if_neg h0] at this
      apply ret_int; rw [this]
  · have HZ2 : Hid (z = if h4 = 0 then 0 else h4 + p.d.length) := by show _ = _; rw [HZ.out]; simp only [hv, if_false]
    clear HZ K6
    have hbv : decide (p.v = 6) = false := by simp [hv]
    by_cases h0 : h4 = 0
    · subst h0
      obtain rfl : z = 0 := HZ2.out
      go_wp2_with fail
      go_ret
      exact ⟨rfl, HA.out⟩
    · have hb0 : decide (h4 = 0) = false := by simp [h0]
      go_wp2_with fail
      go_ret
      refine ⟨?_, HA.out⟩
      have := HZ2.out
      rw [if_neg h0] at this
      apply ret_int; rw [this]
theorem copyP_c (p : Pk) (ov dv : Value) (w : World) (hp : Pkt w p ov dv) :
    Calls Tryz.prog 67 #[.agg (csP p ov dv)] w fun E w' => OwnOut w p E w' := by
  have HAD := Lib.hid hp.wf.ad
  have KO : Hid (∀ w', Away [] w w' → Calls Tryz.prog 77 #[ov] w' fun E w'' => ∃ v, E = .returned v ∧ Owns w'' v p.o ∧ New w'.heap.size v ∧ Away [] w' w'') := by
    obtain ⟨a, c, rfl, x1, x2, x3⟩ := hp.o
    exact fun w' h => clone_any a p.o c w' x2 (x3.away h (by simp))
  have KD : Hid (∀ w', Away [] w w' → Calls Tryz.prog 77 #[dv] w' fun E w'' => ∃ v, E = .returned v ∧ Owns w'' v p.d ∧ New w'.heap.size v ∧ Away [] w' w'') := by
    obtain ⟨a, c, rfl, x1, x2, x3⟩ := hp.d
    exact fun w' h => clone_any a p.d c w' x2 (x3.away h (by simp))
  obtain ⟨-, ⟨o1, o2, rfl, -⟩, ⟨o3, o4, rfl, -⟩⟩ := hp
  generalize p.o.length = no at *
  generalize p.d.length = nd at *
  go_enter Tryz.func67, Tryz.ntmps67
  go_wp2_with (refine wpList_box28 rfl _ rfl p _ _ rfl ?_; refine Hid.out ?_)
  refine Lib.hid ?_
  intro g1 w1 hg1 hb1 haw1
  have HB1 := Lib.hid hb1; have HA1 := Lib.hid haw1
  have hl1 := hb1.lt
  clear hb1 haw1
  go_wp2_with (refine wpList_alloc28 rfl rfl ?_; refine Hid.out ?_)
  refine Lib.hid ?_
  intro g2 w2 hg2 hb2 haw2
  have HB2 := Lib.hid hb2
  replace HB1 := Lib.hid (HB1.out.on haw2)
  replace HA1 := Lib.hid (HA1.out.next haw2 (by simp))
  have hl2 := hb2.lt
  have hs1 := HA1.out.size
  have hs2 := haw2.size
  clear hb2 haw2
  go_wp2_with fail
  have ck : BoxP w2.drew g1 p (.slice o1 no o2) (.slice o3 nd o4) := HB1.out
  refine wp_region_U [7] (fun w' => BoxP w' g1 p (.slice o1 no o2) (.slice o3 nd o4)) (by kernel_rfl) ?_
  refine wpAnyU_take (i := 0) (v := ?_) (by simp only [List.getElem?_toArray, List.getElem?_cons_zero]; rfl) (by kernel_rfl) (by kernel_rfl) (by kernel_rfl) (by decide) (by decide) (by unfold Un; kernel_rfl) (by exact fun _ _ _ h => h) (Or.inl ⟨by rfl, ?_⟩) (by exact ck) ?_
  rotate_left
  · intro wq hSw
    (try dsimp only at hSw)
    go_simp
    all_goals (with_reducible rfl)
  try simp only [Act.put, List.setIfInBounds_toArray, List.set_cons_zero, List.set_cons_succ]
  refine wpAnyU_take (i := 1) (by simp only [List.getElem?_toArray, List.getElem?_cons_succ, List.getElem?_cons_zero]; rfl) (by kernel_rfl) (by kernel_rfl) (by kernel_rfl) (by decide) (by decide) (by unfold Un; kernel_rfl) (by exact fun _ _ _ h => h) (yields_ldc (ad := ⟨g1, 44, none⟩) (by rfl) _ rfl rfl (fun w' h => S6.ld26 (BoxP.cells h HAD.out).o)) (by exact ck) ?_
  try simp only [Act.put, List.setIfInBounds_toArray, List.set_cons_zero, List.set_cons_succ]
  refine wpAnyU_take (i := 3) (v := ?_) (by simp only [List.getElem?_toArray, List.getElem?_cons_succ, List.getElem?_cons_zero]; rfl) (by kernel_rfl) (by kernel_rfl) (by kernel_rfl) (by decide) (by decide) (by unfold Un; kernel_rfl) (by exact fun _ _ _ h => h) (Or.inl ⟨by rfl, ?_⟩) (by exact ck) ?_
  rotate_left
  · intro wq hSw
    (try dsimp only at hSw)
    go_simp
    all_goals (with_reducible rfl)
  try simp only [Act.put, List.setIfInBounds_toArray, List.set_cons_zero, List.set_cons_succ]
  refine wpAnyU_take (i := 4) (by simp only [List.getElem?_toArray, List.getElem?_cons_succ, List.getElem?_cons_zero]; rfl) (by kernel_rfl) (by kernel_rfl) (by kernel_rfl) (by decide) (by decide) (by unfold Un; kernel_rfl) (by exact fun _ _ _ h => h) (yields_ldc (ad := ⟨g1, 45, none⟩) (by rfl) _ rfl rfl (fun w' h => S6.ld26 (BoxP.cells h HAD.out).d)) (by exact ck) ?_
  try simp only [Act.put, List.setIfInBounds_toArray, List.set_cons_zero, List.set_cons_succ]
  refine wpAnyU_ready (rs := [2]) (by kernel_rfl) (by simp) ?_
  refine ReadyU.cons (by simp only [List.getElem?_toArray, List.getElem?_cons_succ, List.getElem?_cons_zero]; rfl) (fun K hK => ?_) ReadyU.nil
  go_simp
  refine (KO.out _ HA1.out.drew).mono ?_
  rintro E y1 ⟨v1, rfl, ho1, hn1, ha1⟩
  have HO1 := Lib.hid ho1
  have HB2y := Lib.hid (HB2.out.on ((Away.refl [] w2).drew.next ha1 (by simp)))
  have HAy := Lib.hid (HA1.out.drew.next ha1 (by simp))
  have hsy : w2.heap.size ≤ y1.heap.size := ha1.size
  have hlt1 := ho1.lt
  replace ck := BoxP.on ck ha1
  clear ho1 ha1
  obtain ⟨a3, n3, k3, rfl⟩ := HO1.out.shp
  go_wp2_with fail
  refine hK.out _ _ (fun _ => ck) ?_
  clear hK K
  try simp only [Act.put, List.setIfInBounds_toArray, List.set_cons_zero, List.set_cons_succ]
  refine wpAnyU_take (i := 6) (v := ?_) (by simp only [List.getElem?_toArray, List.getElem?_cons_succ, List.getElem?_cons_zero]; rfl) (by kernel_rfl) (by kernel_rfl) (by kernel_rfl) (by decide) (by decide) (by unfold Un; kernel_rfl) (by exact fun _ _ _ h => h) (Or.inl ⟨by rfl, ?_⟩) (by exact ck) ?_
  rotate_left
  · intro wq hSw
    (try dsimp only at hSw)
    go_simp
    all_goals (with_reducible rfl)
  try simp only [Act.put, List.setIfInBounds_toArray, List.set_cons_zero, List.set_cons_succ]
  refine wpAnyU_ready (rs := [5]) (by kernel_rfl) (by simp) ?_
  refine ReadyU.cons (by simp only [List.getElem?_toArray, List.getElem?_cons_succ, List.getElem?_cons_zero]; rfl) (fun K hK => ?_) ReadyU.nil
  go_simp
  refine (KD.out _ HAy.out).mono ?_
  rintro E y2 ⟨v2, rfl, ho2, hn2, ha2⟩
  have HO2 := Lib.hid ho2
  replace HO1 := Lib.hid (HO1.out.on ha2)
  replace HB2y := Lib.hid (HB2y.out.on ha2)
  replace HAy := Lib.hid (HAy.out.next ha2 (by simp))
  have hsz : y1.heap.size ≤ y2.heap.size := ha2.size
  replace ck := BoxP.on ck ha2
  clear ho2 ha2
  obtain ⟨a5, n5, k5, rfl⟩ := HO2.out.shp
  go_wp2_with fail
  refine hK.out _ _ (fun _ => ck) ?_
  clear hK K
  try simp only [Act.put, List.setIfInBounds_toArray, List.set_cons_zero, List.set_cons_succ]
  refine wpAnyU_ready (rs := [7]) (by kernel_rfl) (by simp) ?_
  refine ReadyU.cons (by simp only [List.getElem?_toArray, List.getElem?_cons_succ, List.getElem?_cons_zero]; rfl) (fun K hK => ?_) ReadyU.nil
  refine step_store26c rfl 9 5 rfl g1 44 rfl a3 n3 k3 rfl _ (by exact (ck.cells HAD.out).o) (by exact ck.free 44) ?_
  refine hK.out _ _ (by intro h; simp [Un] at h) ?_
  clear hK K
  try simp only [Act.put]
  have CK3 := Lib.hid (ck.put 44 (.slice a3 n3 k3) ((csP_set HAD.out _ _).2.2.2.2.2.2.2.2.2.2.2.2.1 p.o (.slice a3 n3 k3)))
  have hA3 := away_put (w := y2) (g := g1) 44 (.slice a3 n3 k3)
  refine wpAnyU_ready (rs := [8]) (by kernel_rfl) (by simp) ?_
  refine ReadyU.cons (by simp only [List.getElem?_toArray, List.getElem?_cons_succ, List.getElem?_cons_zero]; rfl) (fun K hK => ?_) ReadyU.nil
  go_simp
  refine hK.out _ _ (by intro h; simp [Un] at h) ?_
  clear hK K
  try simp only [Act.put]
  refine wpAnyU_ready (rs := [9]) (by kernel_rfl) (by simp) ?_
  refine ReadyU.cons (by simp only [List.getElem?_toArray, List.getElem?_cons_succ, List.getElem?_cons_zero]; rfl) (fun K hK => ?_) ReadyU.nil
  refine step_store26c rfl 10 8 rfl g1 45 rfl a5 n5 k5 rfl _ (by exact (CK3.out.cells HAD.out).d) (by exact CK3.out.free 45) ?_
  refine hK.out _ _ (by intro h; simp [Un] at h) ?_
  clear hK K
  try simp only [Act.put]
  refine wpAnyU_done (by kernel_rfl) ?_ _
  have hA4 := away_put (w := y2.setCell ⟨g1, 44, none⟩ (.slice a3 n3 k3)) (g := g1) 45 (.slice a5 n5 k5)
  have HB6 := Lib.hid (CK3.out.put 45 (.slice a5 n5 k5) ((csP_set (p := { p with o := p.o }) HAD.out _ _).2.2.2.2.2.2.2.2.2.2.2.2.2 p.d (.slice a5 n5 k5)))
  have hA := hA3.trans hA4
  have hv3 : ∀ k, (Value.slice a3 n3 k3).ownBlock = some k → k ≠ g1 ∧ k ≠ g2 ∧ w.heap.size ≤ k ∧ k < y1.heap.size := fun k hk => by
    have h1 := hn1 k hk
    have h2 := hlt1 k hk
    have h3 : w2.heap.size ≤ k := h1
    exact ⟨by omega, by omega, by omega, h2⟩
  have hv5 : ∀ k, (Value.slice a5 n5 k5).ownBlock = some k → k ≠ g1 ∧ k ≠ g2 ∧ w.heap.size ≤ k ∧ y1.heap.size ≤ k := fun k hk => by
    have h1 := hn2 k hk
    exact ⟨by omega, by omega, by omega, h1⟩
  have HM := Lib.hid (show Mine _ w.heap.size p (.slice a3 n3 k3) (.slice a5 n5 k5) from ⟨HO1.out.away hA (fun k hk => by simpa using (hv3 k hk).1), HO2.out.away hA (fun k hk => by simpa using (hv5 k hk).1), fun k hk => (hv3 k hk).2.2.1, fun k hk => (hv5 k hk).2.2.1, fun k hk e => by
    have h1 := (hv3 k hk).2.2.2; have h2 := (hv5 k e).2.2.2; omega⟩)
  have HB7 := Lib.hid (HB2y.out.away hA (by simp; omega))
  have HA7 := Lib.hid (HAy.out.next hA (fun x hx => .inr (by simp at hx; omega)))
  have HV := Lib.hid (show ∀ k, (Value.slice a3 n3 k3).ownBlock = some k ∨ (Value.slice a5 n5 k5).ownBlock = some k → k ≠ g2 from fun k hk => by
    rcases hk with hk | hk
    · exact (hv3 k hk).2.1
    · exact (hv5 k hk).2.1)
  have hz7 : w.heap.size ≤ g2 := by omega
  clear hA hA3 hA4 CK3 ck HO1 HO2 HB2y HAy hv3 hv5 hn1 hn2 hlt1 hsy hsz
  generalize (y2.setCell ⟨g1, 44, none⟩ (.slice a3 n3 k3)).setCell ⟨g1, 45, none⟩ (.slice a5 n5 k5) = w6 at *
  go_wp2_with (first
    | (refine wpList_load28 rfl _ rfl _ rfl p _ _ (by exact HB6.out) HAD.out ?_)
    | (refine wpList_store28 rfl _ _ rfl _ rfl p (.slice a3 n3 k3) (.slice a5 n5 k5) rfl zeroPk (.slice none 0 0) (.slice none 0 0) (by exact HB7.out) HAD.out ⟨rfl, rfl⟩ rfl rfl ?_; refine Hid.out ?_))
  refine Lib.hid ?_
  intro w7 hb7 haw7
  have HB8 := Lib.hid hb7
  have HA8 : Hid (Away [] w w7) := HA7.out.next haw7 (fun x hx => .inr (by simp at hx; omega))
  have HM8 := Lib.hid (HM.out.away haw7 (fun k hk => by simpa using HV.out k hk))
  clear hb7 haw7
  go_wp2_with fail
  exact bodyPost_ret (result28 rfl _ _ _ _ _ _ rfl HB8.out HAD.out) rfl ⟨_, _, rfl, HM8.out, HA8.out⟩
theorem mtu_c (m : Int) (w : World) : Calls Tryz.prog 66 #[.int .i64 m] w fun E w' => E = .returned (.bool (mtuP m 4)) ∧ w' = w := by
  obtain ⟨z, hz⟩ : ∃ z, z = mtuP m 4 := ⟨_, rfl⟩
  rw [← hz]
  unfold mtuP at hz
  have HZ := Lib.hid hz
  clear hz
  by_cases h1 : 68 ≤ m
  · have d1 : decide (68 ≤ m) = true := by simp [h1]
    obtain rfl : z = decide (m ≤ 65535) := by rw [HZ.out, if_neg (by decide), d1]; rfl
    go_enter Tryz.func66, Tryz.ntmps66
    go_wp2
    go_ret
    exact ⟨rfl, rfl⟩
  · have d1 : decide (68 ≤ m) = false := by simp; omega
    obtain rfl : z = false := by rw [HZ.out, if_neg (by decide), d1]; rfl
    go_enter Tryz.func66, Tryz.ntmps66
    go_wp2
    go_ret
    exact ⟨rfl, rfl⟩
/-- uncut. -/
def unP (p : Pk) : Pk := { p with off := 0, more := false }
theorem unc_c (p : Pk) (ov dv : Value) (w : World) (ha : Ad p) (ho : ov.oneCell' = true) (hd : dv.oneCell' = true) :
    Calls Tryz.prog 87 #[.agg (csP p ov dv)] w fun E w' => E = .returned (.agg (csP (unP p) ov dv)) ∧ Away [] w w' := by
  have HAD := Lib.hid ha
  have HO := Lib.hid ho; have HD := Lib.hid hd
  clear ha ho hd
  go_enter Tryz.func87, Tryz.ntmps87
  go_wp2_with (refine wpList_box28 rfl _ rfl p _ _ rfl ?_; refine Hid.out ?_)
  refine Lib.hid ?_
  intro g1 w1 hg1 hb1 haw1
  have HB1 := Lib.hid hb1; have HA1 := Lib.hid haw1
  have hl1 := hb1.lt
  clear hb1 haw1
  go_wp2_with (refine wpList_alloc28 rfl rfl ?_; refine Hid.out ?_)
  refine Lib.hid ?_
  intro g2 w2 hg2 hb2 haw2
  have HB2 := Lib.hid hb2
  replace HB1 := Lib.hid (HB1.out.on haw2)
  replace HA1 := Lib.hid (HA1.out.next haw2 (by simp))
  have hl2 := hb2.lt
  have hs2 := haw2.size
  clear hb2 haw2
  have cs := csP_set (p := p) HAD.out ov dv
  have HB3 := Lib.hid (HB1.out.put 43 (.int .i64 0) (cs.2.2.2.2.2.2.2.2.2.2.2.1 0))
  have HB5 := Lib.hid (HB3.out.put 41 (.bool false) ((csP_set (p := { p with off := 0 }) HAD.out ov dv).2.2.2.2.2.2.2.2.2.1 false))
  have hA3 := away_put (w := w2) (g := g1) 43 (.int .i64 0)
  have hA5 := away_put (w := w2.setCell ⟨g1, 43, none⟩ (.int .i64 0)) (g := g1) 41 (.bool false)
  have hA6 := hA3.trans hA5
  have HB6 := Lib.hid (HB2.out.away hA6 (by simp; omega))
  have HA6 := Lib.hid (HA1.out.next hA6 (fun x hx => .inr (by simp at hx; omega)))
  have s43 := (HB1.out.cells HAD.out).off
  have s41 := (HB1.out.cells HAD.out).more
  have f43 := HB1.out.free 43
  have f41 := HB1.out.free 41
  clear hA3 hA5 hA6 cs HB3 HA1 HB1 HB2
  go_upto_region 2 with fail
  clear s43 s41 f43 f41
  generalize (w2.setCell ⟨g1, 43, none⟩ (.int .i64 0)).setCell ⟨g1, 41, none⟩ (.bool false) = w6 at *
  go_wp2_with (first
    | (refine wpList_load28 rfl _ rfl _ rfl (unP p) _ _ (by exact HB5.out) HAD.out ?_)
    | (refine wpList_store28 rfl _ _ rfl _ rfl (unP p) ov dv rfl zeroPk (.slice none 0 0) (.slice none 0 0) (by exact HB6.out) HAD.out ⟨rfl, rfl⟩ HO.out HD.out ?_; refine Hid.out ?_))
  refine Lib.hid ?_
  intro w7 hb7 haw7
  have HB7 := Lib.hid hb7
  have HA7 : Hid (Away [] w w7) := HA6.out.next haw7 (fun x hx => .inr (by simp at hx; omega))
  clear hb7 haw7
  go_wp2_with fail
  exact bodyPost_ret (result28 rfl _ _ _ _ _ _ rfl HB7.out HAD.out) rfl ⟨rfl, HA7.out⟩
end R
#print axioms R.unc_c
end Go.Proofs.YtbkeilboneaejaaGreatDoor

namespace Go.Proofs.YtbkeilboneaejaaGreatDoor
open Go.ChangeShapes Go.WideShapes Go.ChangeAt Go.RowKit Num
set_option linter.unusedVariables false
set_option maxHeartbeats 4000000
set_option maxRecDepth 100000

namespace R
theorem eqnil32_some (a : Addr) (n c : Nat) (w : World) : (binOp .eql 32 (.slice (some a) n c) (.slice none 0 0)).run Tryz.prog w = .ok (.bool false) w := by kernel_rfl
theorem eqnil32_none (w : World) : (binOp .eql 32 (.slice none 0 0) (.slice none 0 0)).run Tryz.prog w = .ok (.bool true) w := by kernel_rfl
theorem flat_src {w : World} {ad : Addr} {xs : List X} (h : Pks w (some ad) xs) : ∀ j u, (xs.flatMap X.cells)[j]? = some u → w.cell? (ad.add j) = some u := by
  intro j u hj
  have hA : ∀ x ∈ xs, Ad x.p := fun x hx => (h.2.1 x hx).wf.ad
  have hl := flatP_len xs hA
  have hj' := lt_of_get hj
  rw [hl] at hj'
  obtain ⟨x, hx, hm⟩ := get_of (show j / 46 < xs.length by omega)
  obtain ⟨b, off, hb, hr, -⟩ := h.at hx
  simp only [Option.some.injEq] at hb; subst hb
  have hxl : x.cells.length = 46 := listP_len (hA x hm) _ _
  obtain ⟨v, hv, -⟩ := get_of (show j % 46 < x.cells.length by omega)
  have f := flatP_get xs (j / 46) x hA hx (j % 46) v hv
  rw [show j / 46 * 46 + j % 46 = j from by omega, hj] at f
  simp only [Option.some.injEq] at f; subst f
  have := hr (j % 46) u hv
  rw [add_plain, show off + j = off + j / 46 * 46 + j % 46 from by omega]
  exact this
theorem flat_one (xs : List X) {w : World} (h : ∀ x ∈ xs, x.ok w) : ∀ u ∈ xs.flatMap X.cells, u.oneCell' = true := by
  intro u hu
  obtain ⟨x, hx, hux⟩ := List.mem_flatMap.1 hu
  exact listP_one _ _ _ (h x hx).ov (h x hx).dv u hux
theorem run_appQ (ty : TypeId) (w : World) (v : Value) (xs ys : List X) (hown : LstP w v xs) (ad : Addr) (n c : Nat) (hn : ys.length = n) (h : Pks w (some ad) ys) (hk : xs.length + n ≤ 500000000000) :
    ∃ v' w', (Builtin.append_ #[32, 32] ty #[v, .slice (some ad) n c]).run Tryz.prog w = .ok v' w' ∧ LstP w' v' (xs ++ ys) ∧ w.grownBy w' v.ownBlock ∧ Moved w v v' := by
  obtain ⟨i0, hi, hz0, hz1, hz2⟩ := info_parts info28b
  subst hn
  have hA : ∀ x ∈ ys, Ad x.p := fun x hx => (h.2.1 x hx).wf.ad
  obtain ⟨v', w', r1, r2, r3, r4⟩ := run_appN 32 ty 28 i0 _ 152 46 Tryz.underlying32 hi hz0 hz1 hz2 (csP_size ⟨rfl, rfl⟩ _ _) (by decide) w v xs.length (xs.flatMap X.cells) hown ad ys.length c (ys.flatMap X.cells) (flatP_len ys hA) (flat_src h) (flat_one ys h.2.1) (by unfold maxLen; omega) (by omega)
  refine ⟨v', w', r1, ?_, r3, r4⟩
  unfold LstP
  rw [List.flatMap_append, List.length_append]
  exact r2
theorem wpList_appQ {ops : Array Oper} {rest : List Oper} {o : Oper} {a : Act} {w : World} {Q : Exit → Act → World → Prop} (hgd : o.guard = none) (s t : Operand)
    (ho : o.op = .call { callee := .builtin .append, args := #[s, t], argTypes := #[32, 32] }) (v : Value) (xs ys : List X) (hs : a.eval s = v) (hown : LstP w v xs) (ad : Addr) (n c : Nat) (ht : a.eval t = .slice (some ad) n c) (hn : ys.length = n) (hb : Pks w (some ad) ys) (hk : xs.length + n ≤ 500000000000)
    (h : ∀ v' w', LstP w' v' (xs ++ ys) → w.grownBy w' v.ownBlock → Moved w v v' → wpList Tryz.prog ops Q rest (a.put o.dst v') w') : wpList Tryz.prog ops Q (o :: rest) a w := by
  obtain ⟨v', w', hrun, r1, r2, r3⟩ := run_appQ o.type w v xs ys hown ad n c hn hb hk
  refine wpList_plain hgd fun K hK => ?_
  unfold Oper.wp
  simp [execOp, ho, resolve, invoke, builtin, hs, ht, hrun, Result.andThen]
  exact hK _ _ (h v' w' r1 r2 r3)
end R
end Go.Proofs.YtbkeilboneaejaaGreatDoor

namespace Go.Proofs.YtbkeilboneaejaaGreatDoor
open Go.ChangeShapes Go.WideShapes Go.ChangeAt Go.RowKit Num
set_option linter.unusedVariables false
set_option maxHeartbeats 4000000
set_option maxRecDepth 100000

namespace R
theorem cells_set {x y : X} {f : Nat} {u : Value} (h : (csP x.p x.o x.d).setIfInBounds f u = csP y.p y.o y.d) : x.cells.set f u = y.cells := by
  have := congrArg Array.toList h
  rw [Array.toList_setIfInBounds] at this
  exact this
theorem flat_set (f : Nat) (x y : X) (u : Value) (hf : f < 46) (e : x.cells.set f u = y.cells) (xs : List X) : ∀ i, (∀ x ∈ xs, Ad x.p) → xs[i]? = some x → (xs.flatMap X.cells).set (i * 46 + f) u = (xs.set i y).flatMap X.cells := by
  induction xs with
  | nil => intro i _ h; simp at h
  | cons z r ih =>
    intro i hA h
    have hl : z.cells.length = 46 := listP_len (hA z (by simp)) _ _
    cases i with
    | zero =>
      simp only [List.getElem?_cons_zero, Option.some.injEq] at h; subst h
      rw [List.flatMap_cons, Nat.zero_mul, Nat.zero_add, List.set_append_left _ _ (by omega), e, List.set_cons_zero, List.flatMap_cons]
    | succ i =>
      have := ih i (fun q hq => hA q (by simp [hq])) (by simpa using h)
      rw [List.flatMap_cons, List.set_append_right _ _ (by omega), hl, show (i + 1) * 46 + f - 46 = i * 46 + f from by omega, this, List.set_cons_succ, List.flatMap_cons]
theorem lst_put {w : World} {g n cap : Nat} {xs : List X} (h : LstP w (.slice (some ⟨g, 0, none⟩) n cap) xs) (hn : xs.length = n) (hA : ∀ x ∈ xs, Ad x.p) {i f : Nat} {x y : X} {u : Value} (hx : xs[i]? = some x) (hf : f < 46) (e : (csP x.p x.o x.d).setIfInBounds f u = csP y.p y.o y.d) :
    LstP (w.setCell ⟨g, i * 46 + f, none⟩ u) (.slice (some ⟨g, 0, none⟩) n cap) (xs.set i y) := by
  subst hn
  have := (World.ownsRow.stored h (i * 46 + f) u).1
  rw [flat_set f x y u hf (cells_set e) xs i hA hx] at this
  unfold LstP
  rw [List.length_set]
  exact this
theorem lst_cell {w : World} {g n cap : Nat} {xs : List X} (h : LstP w (.slice (some ⟨g, 0, none⟩) n cap) xs) (hn : xs.length = n) (hA : ∀ x ∈ xs, Ad x.p) {i f : Nat} {x : X} {u : Value} (hx : xs[i]? = some x) (hu : (csP x.p x.o x.d)[f]? = some u) :
    w.cell? ⟨g, i * 46 + f, none⟩ = some u ∧ w.frozen? ⟨g, i * 46 + f, none⟩ = false := by
  subst hn
  have hl : x.cells.length = 46 := listP_len (hA x (List.mem_of_getElem? hx)) _ _
  have hu' : x.cells[f]? = some u := by rw [← hu]; unfold csP X.cells; rw [List.getElem?_toArray]
  have hf := lt_of_get hu'
  have hi := lt_of_get hx
  refine ⟨?_, World.ownsRow.frozenAt h _⟩
  rw [World.ownsRow.cellAt h _ (by omega)]
  exact flatP_get xs i x hA hx f u hu'
/-- A list whose packets alone were changed, but for their bytes. -/
theorem cuts_like {w w' : World} {B g : Nat} {v : Value} {xs ys : List X} (h : Cuts w B v xs) (haw : Away [g] w w') (hv : v.ownBlock = some g) (hl : LstP w' v ys) (hod : ys.map (fun x => (x.p.o, x.p.d, x.o, x.d)) = xs.map (fun x => (x.p.o, x.p.d, x.o, x.d))) (hwf : ∀ y ∈ ys, Wf y.p) : Cuts w' B v ys := by
  have key : ∀ y ∈ ys, ∃ x ∈ xs, y.p.o = x.p.o ∧ y.p.d = x.p.d ∧ y.o = x.o ∧ y.d = x.d := fun y hy => by
    have : (y.p.o, y.p.d, y.o, y.d) ∈ xs.map (fun x => (x.p.o, x.p.d, x.o, x.d)) := by rw [← hod]; exact List.mem_map.2 ⟨y, hy, rfl⟩
    obtain ⟨x, hx, e⟩ := List.mem_map.1 this
    simp only [Prod.mk.injEq] at e
    exact ⟨x, hx, e.1.symm, e.2.1.symm, e.2.2.1.symm, e.2.2.2.symm⟩
  refine ⟨hl, h.new, fun y hy => ⟨hwf y hy, ?_⟩, fun y hy k hk => ?_, ?_⟩
  · obtain ⟨x, hx, e1, e2, e3, e4⟩ := key y hy
    have hm := (h.each x hx).2.away haw (fun k hk e => by simp at e; subst e; exact h.far x hx k hk hv)
    rw [e3, e4]
    exact ⟨by rw [e1]; exact hm.o, by rw [e2]; exact hm.d, hm.no, hm.nd, hm.ap⟩
  · obtain ⟨x, hx, e1, e2, e3, e4⟩ := key y hy
    exact h.far x hx k (by rwa [e3, e4] at hk)
  · have := h.apart
    have e : ys.map (fun x => (x.o, x.d)) = xs.map (fun x => (x.o, x.d)) := by
      have := congrArg (List.map (fun t : List Int × List Int × Value × Value => (t.2.2.1, t.2.2.2))) hod
      rw [List.map_map, List.map_map] at this
      exact this
    have h1 : (xs.map (fun x => (x.o, x.d))).Pairwise (fun a b => ∀ k, a.1.ownBlock = some k ∨ a.2.ownBlock = some k → b.1.ownBlock ≠ some k ∧ b.2.ownBlock ≠ some k) := by rw [List.pairwise_map]; exact this
    rw [← e, List.pairwise_map] at h1
    exact h1
theorem set_map_same {α β : Type} (f : α → β) (x y : α) (hf : f y = f x) (l : List α) : ∀ i, l[i]? = some x → (l.set i y).map f = l.map f := by
  induction l with
  | nil => intro i h; simp at h
  | cons z r ih =>
    intro i h
    cases i with
    | zero => simp only [List.getElem?_cons_zero, Option.some.injEq] at h; subst h; simp [hf]
    | succ i => simp only [List.set_cons_succ, List.map_cons]; rw [ih i (by simpa using h)]
def upd (f : Pk → Pk) (x : X) : X := ⟨f x.p, x.o, x.d⟩
def upto (f : Pk → Pk) (k : Nat) (xs : List X) : List X := (xs.take k).map (upd f) ++ xs.drop k
theorem upto_zero (f : Pk → Pk) (xs : List X) : upto f 0 xs = xs := by simp [upto]
theorem upto_len (f : Pk → Pk) (k : Nat) (xs : List X) : (upto f k xs).length = xs.length := by simp [upto]; omega
theorem upto_all (f : Pk → Pk) (xs : List X) : upto f xs.length xs = xs.map (upd f) := by simp [upto]
theorem upto_get (f : Pk → Pk) (k : Nat) (xs : List X) {x : X} (h : xs[k]? = some x) : (upto f k xs)[k]? = some x := by
  have hk := lt_of_get h
  unfold upto
  rw [List.getElem?_append_right (by simp; omega)]
  simp [Nat.min_eq_left (Nat.le_of_lt hk), h]
theorem upto_succ (f : Pk → Pk) (k : Nat) (xs : List X) {x : X} (h : xs[k]? = some x) : (upto f k xs).set k (upd f x) = upto f (k + 1) xs := by
  have hk := lt_of_get h
  have hx : xs[k] = x := by rw [List.getElem?_eq_getElem hk] at h; simpa using h
  unfold upto
  rw [List.set_append_right _ _ (by simp; omega), List.drop_eq_getElem_cons hk, hx]
  simp only [List.length_map, List.length_take, Nat.min_eq_left (Nat.le_of_lt hk), Nat.sub_self, List.set_cons_zero]
  rw [List.take_succ_eq_append_getElem hk, hx]
  simp
theorem upto_mem (f : Pk → Pk) (k : Nat) (xs : List X) (P : Pk → Prop) (h : ∀ x ∈ xs, P x.p) (hf : ∀ x ∈ xs, P (f x.p)) : ∀ x ∈ upto f k xs, P x.p := by
  intro x hx
  unfold upto at hx
  rcases List.mem_append.1 hx with hx | hx
  · obtain ⟨y, hy, rfl⟩ := List.mem_map.1 hx
    exact hf y (List.mem_of_mem_take hy)
  · exact h x (List.mem_of_mem_drop hx)
theorem upto_od (f : Pk → Pk) (k : Nat) (xs : List X) (hf : ∀ p, (f p).o = p.o ∧ (f p).d = p.d) : (upto f k xs).map (fun x => (x.p.o, x.p.d, x.o, x.d)) = xs.map (fun x => (x.p.o, x.p.d, x.o, x.d)) := by
  unfold upto
  rw [List.map_append, List.map_map]
  have : (fun x : X => (x.p.o, x.p.d, x.o, x.d)) ∘ upd f = fun x : X => (x.p.o, x.p.d, x.o, x.d) := by
    funext x; simp [upd, (hf x.p).1, (hf x.p).2]
  rw [this, ← List.map_append, List.take_append_drop]
theorem pcs_len (p : Pk) (m : Int) (lat : Pk) : ∀ (k : Nat) (f : Pk) (n : Nat), (pcsP p m lat k f n).length ≤ k
  | 0, f, n => by simp [pcsP]
  | k + 1, f, n => by
    rw [pcsP]; split
    · have := pcs_len p m lat k lat (n + shareP (p.d.length - n) (roomP f m) p.v)
      simp only [List.length_cons]; omega
    · simp
/-! Offsets moved; the last one's More. -/
def shP (k : Int) (q : Pk) : Pk := { q with off := wrap64 (q.off + k) }
def shM (k : Int) (q : Pk) : Pk := { q with off := wrap64 (q.off - k) }
def moP (b : Bool) (q : Pk) : Pk := { q with more := b }
def lastM (b : Bool) : List Pk → List Pk
  | [] => []
  | [q] => [moP b q]
  | q :: r :: s => q :: lastM b (r :: s)
theorem lastM_set (b : Bool) : ∀ (xs : List X) (x : X), xs[xs.length - 1]? = some x → (xs.set (xs.length - 1) (upd (moP b) x)).map X.p = lastM b (xs.map X.p)
  | [], x, h => by simp at h
  | [y], x, h => by simp at h; subst h; rfl
  | y :: z :: s, x, h => by
    have := lastM_set b (z :: s) x (by simpa using h)
    simp only [List.length_cons, Nat.add_sub_cancel] at this ⊢
    simp only [List.set_cons_succ, List.map_cons, lastM]
    rw [this]; rfl
theorem wrap_i64ok (n : Int) : i64ok (wrap64 n) := by
  unfold i64ok wrap64; omega
theorem sh_wf {q : Pk} (h : Wf q) (k : Int) : Wf (shP k q) := ⟨h.v, h.tos, h.flow, h.sv, h.sl, h.sb, h.dv, h.dl, h.db, h.proto, h.ttl, h.id0, h.id1, wrap_i64ok _, h.o, h.ol, h.d, h.dn⟩
theorem shM_wf {q : Pk} (h : Wf q) (k : Int) : Wf (shM k q) := ⟨h.v, h.tos, h.flow, h.sv, h.sl, h.sb, h.dv, h.dl, h.db, h.proto, h.ttl, h.id0, h.id1, wrap_i64ok _, h.o, h.ol, h.d, h.dn⟩
theorem mo_wf {q : Pk} (h : Wf q) (b : Bool) : Wf (moP b q) := ⟨h.v, h.tos, h.flow, h.sv, h.sl, h.sb, h.dv, h.dl, h.db, h.proto, h.ttl, h.id0, h.id1, h.off, h.o, h.ol, h.d, h.dn⟩
theorem un_wf {q : Pk} (h : Wf q) : Wf (unP q) := ⟨h.v, h.tos, h.flow, h.sv, h.sl, h.sb, h.dv, h.dl, h.db, h.proto, h.ttl, h.id0, h.id1, by simp [unP, i64ok], h.o, h.ol, h.d, h.dn⟩
/-- What a packet that must be cut is cut into. -/
def recutL (p : Pk) (m : Int) : List Pk := lastM p.more ((cutL (unP p) m 0).map (shP p.off))
def recutP (p : Pk) (m : Int) : List Pk × Int :=
  if rgtP p = true ∧ mtuP m 4 = true then (if longP p ≤ m then ([p], 0) else if p.v = 6 ∨ p.df = true then ([], 100) else (recutL p m, 0)) else ([], 1)
theorem un_right {p : Pk} (h : rgtP p = true) (hv : p.v ≠ 6) : Unc (unP p) := by
  unfold rgtP at h; rw [if_neg hv, right_iff] at h
  have hr1 := h.1
  refine ⟨?_, rfl, rfl, hr1.frag⟩
  unfold rgtP
  refine (if_neg hv).trans ?_
  rw [right_iff]
  exact ⟨⟨hr1.v, hr1.flow, hr1.frag, hr1.id, hr1.t0, hr1.t1, hr1.l0, hr1.l1, hr1.r0, hr1.r1, hr1.sv, hr1.sb, hr1.dv, hr1.db, by simp [unP], by simp [unP], by simp [unP], by simp [unP], by simp [unP], by simp [unP], by have := hr1.all; show (0 : Int) + p.d.length ≤ 65535; omega, hr1.all⟩, h.2⟩
theorem un_long {p : Pk} (h : rgtP p = true) (hv : p.v ≠ 6) : longP (unP p) = longP p := by
  rw [long_of h, long_of (un_right h hv).r]; rfl
theorem v4 {p : Pk} (h : rgtP p = true) (hv : p.v ≠ 6) : p.v = 4 := by
  unfold rgtP at h; rw [if_neg hv, right_iff] at h; exact h.1.v
theorem un_cut {p : Pk} {m : Int} (h : rgtP p = true) (hm : mtuP m 4 = true) (hno : ¬ longP p ≤ m) (hv : p.v ≠ 6) (hdf : p.df = false) : cutP (unP p) m 0 = (cutL (unP p) m 0, 0) := by
  have hv4 := v4 h hv
  have hu := un_right h hv
  have hm' : mtuP m (unP p).v = true := by show mtuP m p.v = true; rw [hv4]; exact hm
  unfold cutP
  rw [(uncut_iff _).2 hu, hm']
  have hf : fitsP (unP p) m = false := by
    rw [Bool.eq_false_iff]; intro e
    have := (fits_iff _ _).1 e
    apply hno; rw [← un_long h hv, long_of hu.r]; exact this.2
  rw [hf]
  have : (unP p).df = false := hdf
  rw [this]; rfl
theorem un_two {p : Pk} {m : Int} (hw : Wf p) (h : rgtP p = true) (hm : mtuP m 4 = true) (hno : ¬ longP p ≤ m) (hv : p.v ≠ 6) : 2 ≤ (cutL (unP p) m 0).length := by
  have hv4 := v4 h hv
  have hu := un_right h hv
  have hm' : mtuP m (unP p).v = true := by show mtuP m p.v = true; rw [hv4]; exact hm
  have hf : fitsP (unP p) m = false := by
    rw [Bool.eq_false_iff]; intro e
    have := (fits_iff _ _).1 e
    apply hno; rw [← un_long h hv, long_of hu.r]; exact this.2
  have := cut_two hu (un_wf hw) (id := 0) (by omega) (by omega) hm' hf
  obtain ⟨a, b, r, -, -, e, -⟩ := this
  rw [e]; simp
end R
#print axioms R.un_two
end Go.Proofs.YtbkeilboneaejaaGreatDoor

namespace Go.Proofs.YtbkeilboneaejaaGreatDoor
open Go.ChangeShapes Go.WideShapes Go.ChangeAt Go.RowKit Num
set_option linter.unusedVariables false
set_option maxHeartbeats 4000000
set_option maxRecDepth 100000

namespace R
theorem pieces_c (p : Pk) (ov dv : Value) (m : Int) (w : World) (hp : Pkt w p ov dv) (hg : Glob w) (hr : rgtP p = true) (hm : mtuP m 4 = true) (hno : ¬ longP p ≤ m) (hv : p.v ≠ 6) (hdf : p.df = false) :
    Calls Tryz.prog 68 #[.agg (csP p ov dv), .int .i64 m] w fun E w' => ∃ v xs, E = .returned (.tuple #[v, .int .i64 0]) ∧ Cuts w' w.heap.size v xs ∧ xs.map X.p = recutL p m ∧ Away [] w w' := by
  have HAD := Lib.hid hp.wf.ad
  have HP := Lib.hid hp; have HG := Lib.hid hg
  have HCU := Lib.hid (un_cut hr hm hno hv hdf)
  have HTW := Lib.hid (un_two hp.wf hr hm hno hv)
  have HU := Lib.hid (un_right hr hv)
  clear hp hg hr hm hno hv hdf
  go_enter Tryz.func68, Tryz.ntmps68
  go_wp2_with (refine wpList_box28 rfl _ rfl p _ _ rfl ?_; refine Hid.out ?_)
  refine Lib.hid ?_
  intro g2 w1 hg2 hb haw
  have HA := Lib.hid haw; have HB := Lib.hid hb
  have hlg := hb.lt
  clear hb haw
  go_wp2_with (refine wpList_load28 rfl _ rfl g2 rfl p _ _ (by exact HB.out) HAD.out ?_)
  refine (unc_c p ov dv _ HAD.out HP.out.ov HP.out.dv).mono ?_
  rintro E w2 ⟨rfl, haw⟩
  replace HB := Lib.hid (HB.out.on haw)
  replace HA := Lib.hid (HA.out.on haw)
  have hs2 := haw.size
  clear haw
  have HPU : Hid (Pkt w2 (unP p) ov dv) := ⟨un_wf HP.out.wf, (HP.out.on HA.out).o, (HP.out.on HA.out).d⟩
  go_wp2_with fail
  refine (cut_c (unP p) ov dv m 0 _ HPU.out (HG.out.on HA.out) (by omega) (by omega)).mono ?_
  unfold CutOut
  rw [HCU.out]
  rintro E w3 ⟨v, xs, rfl, hcu, hxm, haw⟩
  have HX := Lib.hid hcu
  have HXM := Lib.hid hxm
  replace HB := Lib.hid (HB.out.on haw)
  replace HA := Lib.hid (HA.out.on haw)
  have hs3 := haw.size
  have hxl : xs.length = (cutL (unP p) m 0).length := by rw [← List.length_map (f := X.p), hxm]
  have hx2 : 2 ≤ xs.length := by rw [hxl]; exact HTW.out
  have hx3 : xs.length ≤ 500000000000 := by
    rw [hxl]; unfold cutL
    have h1 := pcs_len (unP p) m (latP (unP p) 0) (unP p).d.length (fstP (unP p) 0) 0
    have h2 := HU.out.all.1
    omega
  clear haw hcu hxm HPU hxl
  obtain ⟨xa, xc, hxv, hx4, -, -, hxa⟩ := HX.out.pks hx3
  obtain ⟨xb, hxb⟩ : ∃ xb, xa = some ⟨xb, 0, none⟩ := by
    rcases HX.out.lst.2 with ⟨h1, h2⟩ | ⟨g, c, cur, h1, -⟩
    · omega
    · rw [hxv] at h1; simp only [Value.slice.injEq] at h1; exact ⟨g, h1.1⟩
  subst hxb; subst hxv
  clear hxa
  have HBX : Hid (xb < w3.heap.size) := HX.out.lst.lt xb rfl
  have hnb : w2.heap.size ≤ xb := HX.out.new xb rfl
  obtain ⟨n, hn⟩ : ∃ n, n = xs.length := ⟨_, rfl⟩
  rw [← hn] at hx2 hx3 hx4 HX ⊢
  have HN := Lib.hid hn
  clear hn
  go_wp2_with fail
  go_loopw [21] (fun i wr => ∃ k : Nat, i = .int .i64 (k : Int) ∧ k ≤ n ∧ LstP wr (.slice (some ⟨xb, 0, none⟩) n xc) (upto (shP p.off) k xs) ∧ Away [xb] w3 wr) (fun i _ => n - (intOf i).toNat)
  case atStart => exact ⟨0, rfl, by omega, by rw [upto_zero]; exact HX.out.lst, Away.refl _ _⟩
  case round =>
    obtain ⟨k, rfl, hk, hl, haw⟩ := hrel
    have HL := Lib.hid hl; have HAW := Lib.hid haw
    clear hl haw
    have HBr := Lib.hid (HB.out.away HAW.out (by simp; omega))
    have HAX : Hid (∀ x ∈ upto (shP p.off) k xs, Ad x.p) := upto_mem _ _ _ Ad (fun x hx => (HX.out.each x hx).1.ad) (fun x hx => (HX.out.each x hx).1.ad)
    have HUL : Hid ((upto (shP p.off) k xs).length = n) := by show _ = _; rw [upto_len]; exact HN.out.symm
    by_cases hlt : k < n
    · obtain ⟨x, hx, hxm⟩ := get_of (show k < xs.length by have := HN.out; omega)
      have HXK := Lib.hid (upto_get (shP p.off) k xs hx)
      have HXX := Lib.hid hx
      have hax := (HX.out.each x hxm).1.ad
      have hc := lst_cell HL.out HUL.out HAX.out HXK.out ((csP_get hax x.o x.d).2.2.2.2.2.2.2.2.2.2.2.1)
      have c1 := hc.1; have f1 := hc.2
      have c43 := (HBr.out.cells HAD.out).off
      have HPUT := Lib.hid (fun u => lst_put HL.out HUL.out HAX.out HXK.out (y := upd (shP p.off) x) (f := 43) (u := u) (by omega))
      have HSET := Lib.hid ((csP_set hax x.o x.d).2.2.2.2.2.2.2.2.2.2.2.1)
      clear hc hx hxm
      obtain ⟨xoff, hxo⟩ : ∃ z, z = x.p.off := ⟨_, rfl⟩
      rw [← hxo] at c1
      have HXO := Lib.hid hxo
      clear hxo
      have i2 : 0 ≤ (k : Int) := by omega
      have i3 : (k : Int) < (n : Int) := by omega
      have i4 : ((k : Int)).toNat = k := by omega
      have HL2 : Hid (LstP (wr.setCell ⟨xb, k * 46 + 43, none⟩ (.int .i64 (wrap64 (xoff + p.off)))) (.slice (some ⟨xb, 0, none⟩) n xc) (upto (shP p.off) (k + 1) xs)) := by
        show LstP _ _ _
        rw [← upto_succ _ _ _ HXX.out]
        exact HPUT.out _ (by rw [HXO.out]; exact HSET.out _)
      have HA2 : Hid (Away [xb] w3 (wr.setCell ⟨xb, k * 46 + 43, none⟩ (.int .i64 (wrap64 (xoff + p.off))))) := HAW.out.setCell (.inl (by simp)) _
      clear HPUT HSET
      go_wp2_with fail
      go_region
      clear c1 f1 c43
      generalize wr.setCell ⟨xb, k * 46 + 43, none⟩ (.int .i64 (wrap64 (xoff + p.off))) = wz at *
      go_wp2_with fail
      go_roundw
      case rel => exact ⟨k + 1, by go_num, by omega, HL2.out, HA2.out.drew⟩
      case measure => simp [intOf]; omega
    · obtain rfl : k = n := by omega
      have HL3 : Hid (LstP wr (.slice (some ⟨xb, 0, none⟩) k xc) (xs.map (upd (shP p.off)))) := by
        have := HL.out; rw [HN.out, upto_all, ← HN.out] at this; exact this
      have hml : (xs.map (upd (shP p.off))).length = k := by rw [List.length_map]; exact HN.out.symm
      have hma : ∀ x ∈ xs.map (upd (shP p.off)), Ad x.p := fun x hx => by
        obtain ⟨y, hy, rfl⟩ := List.mem_map.1 hx
        exact (HX.out.each y hy).1.ad
      obtain ⟨x, hx, hxm⟩ := get_of (show k - 1 < (xs.map (upd (shP p.off))).length by omega)
      have hax := hma x hxm
      have hc := lst_cell HL3.out hml hma hx ((csP_get hax x.o x.d).2.2.2.2.2.2.2.2.2.1)
      have c1 := hc.1; have f1 := hc.2
      have c41 := (HBr.out.cells HAD.out).more
      have HL4 : Hid (∀ b, LstP (wr.setCell ⟨xb, (k - 1) * 46 + 41, none⟩ (.bool b)) (.slice (some ⟨xb, 0, none⟩) k xc) ((xs.map (upd (shP p.off))).set (k - 1) (upd (moP b) x))) := fun b => lst_put HL3.out hml hma hx (by omega) ((csP_set hax x.o x.d).2.2.2.2.2.2.2.2.2.1 b)
      have HML := Lib.hid hml; have HGX := Lib.hid hx
      obtain ⟨xmo, hxmo⟩ : ∃ z, z = x.p.more := ⟨_, rfl⟩
      rw [← hxmo] at c1
      clear hc hx hxm hax hma hml hxmo
      have i2 : 0 ≤ (k : Int) - 1 := by omega
      have i3 : (k : Int) - 1 < (k : Int) := by omega
      have i4 : ((k : Int) - 1).toNat = k - 1 := by omega
      obtain ⟨pm, hpm⟩ : ∃ z, z = p.more := ⟨_, rfl⟩
      rw [← hpm] at c41
      have HPM := Lib.hid hpm
      clear hpm
      go_wp2_with fail
      go_ret2
      have hA3 : Away [xb] w3 (wr.setCell ⟨xb, (k - 1) * 46 + 41, none⟩ (.bool pm)) := HAW.out.setCell (.inl (by simp)) _
      refine ⟨_, _, rfl, cuts_like (HX.out.mono (by omega : w.heap.size ≤ _)) hA3 rfl (HL4.out pm) ?_ ?_, ?_, HA.out.next hA3 (fun x hx => .inr (by simp at hx; omega))⟩
      · rw [set_map_same (fun x : X => (x.p.o, x.p.d, x.o, x.d)) x (upd (moP pm) x) rfl _ _ HGX.out, List.map_map]
        rfl
      · intro y hy
        rcases List.mem_or_eq_of_mem_set hy with h | h
        · obtain ⟨z, hz, rfl⟩ := List.mem_map.1 h
          exact sh_wf (HX.out.each z hz).1 _
        · obtain ⟨z, hz, rfl⟩ := List.mem_map.1 (List.mem_of_getElem? HGX.out)
          rw [h]
          exact mo_wf (sh_wf (HX.out.each z hz).1 _) _
      · have e := lastM_set pm (xs.map (upd (shP p.off))) x (by rw [HML.out]; exact HGX.out)
        rw [HML.out] at e
        rw [e, HPM.out, recutL, ← HXM.out, List.map_map, List.map_map]
        rfl
end R
#print axioms R.pieces_c
end Go.Proofs.YtbkeilboneaejaaGreatDoor

namespace Go.Proofs.YtbkeilboneaejaaGreatDoor
open Go.ChangeShapes Go.WideShapes Go.ChangeAt Go.RowKit Num
set_option linter.unusedVariables false
set_option maxHeartbeats 4000000
set_option maxRecDepth 100000

namespace R
def RecOut (w : World) (p : Pk) (m : Int) (E : Ending) (w' : World) : Prop :=
  ∃ v xs, E = .returned (.tuple #[v, .int .i64 (recutP p m).2]) ∧ Cuts w' w.heap.size v xs ∧ xs.map X.p = (recutP p m).1 ∧ Away [] w w'
theorem long_zero (p : Pk) : longP p = 0 ↔ rgtP p = false := by
  have := long_pos p
  rw [long_eq] at this ⊢
  by_cases h : rgtP p = true
  · rw [if_pos h] at this ⊢
    have h2 := this.2 h
    simp only [h, Bool.true_eq_false, iff_false]
    omega
  · rw [if_neg h]
    simp [h]
theorem recut_c (p : Pk) (ov dv : Value) (m : Int) (w : World) (hp : Pkt w p ov dv) (hg : Glob w) :
    Calls Tryz.prog 36 #[.agg (csP p ov dv), .int .i64 m] w fun E w' => RecOut w p m E w' := by
  have HAD := Lib.hid hp.wf.ad
  have HP := Lib.hid hp; have HG := Lib.hid hg
  have KL : Hid (∀ w', Away [] w w' → Calls Tryz.prog 65 #[.agg (csP p ov dv)] w' fun E w'' => E = .returned (.int .i64 (longP p)) ∧ Away [] w' w'') := fun w' h => length_c p ov dv w' (hp.on h) (hg.on h)
  have KO : Hid (∀ w', Away [] w w' → Calls Tryz.prog 67 #[.agg (csP p ov dv)] w' fun E w'' => OwnOut w' p E w'') := fun w' h => copyP_c p ov dv w' (hp.on h)
  have HW := Lib.hid hp.wf
  clear hp hg
  go_enter Tryz.func36, Tryz.ntmps36
  go_wp2_with (refine wpList_box28 rfl _ rfl p _ _ rfl ?_; refine Hid.out ?_)
  refine Lib.hid ?_
  intro g w1 hg1 hb haw
  have HA : Hid (Away [] w w1) := haw
  have HB : Hid (BoxP w1 g p ov dv) := hb
  have hlg := hb.lt
  have hs1 := haw.size
  clear hb haw
  go_wp2_with (refine wpList_load28 rfl _ rfl g rfl p _ _ (by exact HB.out) HAD.out ?_)
  refine (KL.out _ HA.out).mono ?_
  rintro E w2 ⟨rfl, haw⟩
  replace HB := Lib.hid (HB.out.on haw)
  replace HA := Lib.hid (HA.out.on haw)
  have hs2 := haw.size
  clear haw KL
  obtain ⟨n, hn⟩ : ∃ n, n = longP p := ⟨_, rfl⟩
  rw [← hn]
  have HN := Lib.hid hn
  clear hn
  by_cases hz : n = 0
  · have HE : Hid (recutP p m = ([], 1)) := by
      show _ = _
      have := (long_zero p).1 (HN.out ▸ hz)
      unfold recutP; rw [if_neg (by rw [this]; simp)]
    subst hz
    go_wp2_with fail
    go_ret2
    exact ⟨_, [], by rw [HE.out]; rfl, Cuts.nil _ _, by rw [HE.out]; rfl, HA.out⟩
  have HR : Hid (rgtP p = true) := by
    show _ = _
    by_cases h : rgtP p = true
    · exact h
    · exact absurd ((long_zero p).2 (by simpa using h)) (HN.out ▸ hz)
  have dz : decide (n = 0) = false := by simp [hz]
  obtain ⟨bm, hbm⟩ : ∃ bm, bm = mtuP m 4 := ⟨_, rfl⟩
  have HBM := Lib.hid hbm
  have KM : Hid (∀ w', Calls Tryz.prog 66 #[.int .i64 m] w' fun E w'' => E = .returned (.bool bm) ∧ w'' = w') := fun w' => by rw [hbm]; exact mtu_c m w'
  clear hbm
  go_wp2_with fail
  refine (KM.out _).mono ?_
  rintro E w3 ⟨rfl, rfl⟩
  clear KM dz
  cases bm
  · have HE : Hid (recutP p m = ([], 1)) := by
      show _ = _
      unfold recutP; rw [if_neg (by rw [← HBM.out]; simp)]
    go_wp2_with fail
    go_ret2
    exact ⟨_, [], by rw [HE.out]; rfl, Cuts.nil _ _, by rw [HE.out]; rfl, HA.out⟩
  have HE : Hid (recutP p m = (if n ≤ m then ([p], 0) else if p.v = 6 ∨ p.df = true then ([], 100) else (recutL p m, 0))) := by
    show _ = _
    unfold recutP; rw [if_pos ⟨HR.out, HBM.out.symm⟩, ← HN.out]
  by_cases hf : n ≤ m
  · rw [if_pos hf] at HE
    have df : decide (n ≤ m) = true := by simp [hf]
    go_wp2_with (refine wpList_load28 rfl _ rfl g rfl p _ _ (by exact HB.out) HAD.out ?_)
    refine (KO.out _ HA.out).mono ?_
    rintro E w4 ⟨oq, dq, rfl, hmine, haw⟩
    have HMQ := Lib.hid hmine
    replace HA := Lib.hid (HA.out.next haw (by simp))
    have hs4 := haw.size
    clear hmine haw KO HB
    go_wp2_with (refine wpList_build28 rfl _ rfl p oq dq rfl HAD.out ?_; refine Hid.out ?_)
    refine Lib.hid ?_
    intro gq w5 hgq hbq haw
    have HC5 : Hid (Cuts w5 w.heap.size (.slice (some ⟨gq, 0, none⟩) 1 1) [⟨p, oq, dq⟩]) := Cuts.one hbq HW.out ((HMQ.out.on haw).mono (by omega)) (by omega) (fun k hk => by have := (HMQ.out.lto k hk).1; omega)
    replace HA := Lib.hid (HA.out.next haw (by simp))
    clear hgq hbq haw
    go_wp2_with fail
    go_ret2
    exact ⟨_, _, by rw [HE.out]; rfl, HC5.out, by rw [HE.out]; rfl, HA.out⟩
  rw [if_neg hf] at HE
  have df : decide (n ≤ m) = false := by simp; omega
  have c0 := (HB.out.cells HAD.out).v
  have c40 := (HB.out.cells HAD.out).df
  by_cases hv : p.v = 6
  · rw [if_pos (.inl hv)] at HE
    rw [hv] at c0
    have HV := Lib.hid hv
    clear hv
    go_wp2_with fail
    go_ret2
    exact ⟨_, [], by rw [HE.out]; rfl, Cuts.nil _ _, by rw [HE.out]; rfl, HA.out⟩
  obtain ⟨pv, hpv⟩ : ∃ z, z = p.v := ⟨_, rfl⟩
  rw [← hpv] at c0 hv
  have HPV := Lib.hid hpv
  clear hpv
  have dv6 : decide (pv = 6) = false := by simp [hv]
  obtain ⟨pd, hpd⟩ : ∃ z, z = p.df := ⟨_, rfl⟩
  rw [← hpd] at c40
  have HPD := Lib.hid hpd
  clear hpd
  cases pd
  · have KPC : Hid (∀ w', Away [] w w' → Calls Tryz.prog 68 #[.agg (csP p ov dv), .int .i64 m] w' fun E w'' => ∃ v xs, E = .returned (.tuple #[v, .int .i64 0]) ∧ Cuts w'' w'.heap.size v xs ∧ xs.map X.p = recutL p m ∧ Away [] w' w'') := fun w' h => pieces_c p ov dv m w' (HP.out.on h) (HG.out.on h) HR.out HBM.out.symm (by rw [← HN.out]; exact hf) (by rw [← HPV.out]; exact hv) HPD.out.symm
    rw [if_neg (by rw [← HPV.out, ← HPD.out]; simp [hv])] at HE
    go_wp2_with (refine wpList_load28 rfl _ rfl g rfl p _ _ (by exact HB.out) HAD.out ?_)
    refine (KPC.out _ HA.out).mono ?_
    rintro E w4 ⟨v, xs, rfl, hcu, hxm, haw⟩
    have HC4 := Lib.hid (hcu.mono (by omega : w.heap.size ≤ _))
    have HX4 := Lib.hid hxm
    replace HA := Lib.hid (HA.out.next haw (by simp))
    clear hcu hxm haw KPC
    go_wp2_with fail
    go_ret2
    refine ⟨v, xs, by rw [HE.out]; rfl, HC4.out, by rw [HE.out]; exact HX4.out, HA.out⟩
  · rw [if_pos (.inr HPD.out.symm)] at HE
    go_wp2_with fail
    go_ret2
    exact ⟨_, [], by rw [HE.out]; rfl, Cuts.nil _ _, by rw [HE.out]; rfl, HA.out⟩
end R
#print axioms R.recut_c
end Go.Proofs.YtbkeilboneaejaaGreatDoor

