/-
  parted and Is of package recut.
-/
import Derived.Test.YtaicckenpplceaaGreatDoorCp
import Derived.Test.YtaicckenpplceaaGreatDoorCutF
import Derived.Test.YtaicckenpplceaaGreatDoorEq
namespace Go.Proofs.YtaicckenpplceaaGreatDoor
open Go.ChangeShapes Go.WideShapes Go.ChangeAt Go.RowKit Num
set_option linter.unusedVariables false
set_option maxHeartbeats 4000000
set_option maxRecDepth 100000

namespace R
theorem length_c (p : Pk) (ov dv : Value) (w : World) (hp : Pkt w p ov dv) (hg : Glob w) :
    Calls Tryz.prog 17 #[.agg (csP p ov dv)] w fun E w' => E = .returned (.int .i64 (longP p)) ∧ Away [] w w' := by
  have ha := hp.wf.ad
  have K4 : Hid (∀ w', Away [] w w' → Calls Tryz.prog 33 #[.agg (csP p ov dv)] w' fun E w'' => E = .returned (.int .i64 (headP p)) ∧ Away [] w' w'') := fun w' h => head_c p ov dv w' (hp.on h) (hg.on h)
  have K6 : Hid (∀ w', Away [] w w' → Calls Tryz.prog 34 #[.agg (csP p ov dv)] w' fun E w'' => E = .returned (.int .i64 (S6.headP p)) ∧ Away [] w' w'') := fun w' h => S6.head_c p ov dv w' (hp.on h).six
  have hol := hp.wf.ol; have hdn := hp.wf.dn
  have b4 := head_bd p; have b6 := head6_bd p
  obtain ⟨hwf, ho, ⟨ad, capd, rfl, q1, q2, q3⟩⟩ := hp
  clear hwf ho q1 q2 q3 hg
  obtain ⟨z, hz⟩ : ∃ z, z = longP p := ⟨_, rfl⟩
  rw [← hz]
  have HZ : Hid (z = if (if p.v = 6 then S6.headP p else headP p) = 0 then 0 else (if p.v = 6 then S6.headP p else headP p) + p.d.length) := hz
  clear hz
  have HAD : Hid (Ad p) := ha
  clear ha
  go_enter Tryz.func17, Tryz.ntmps17
  go_wp2_with (refine wpList_box28 rfl _ rfl p _ _ rfl ?_; refine Hid.out ?_)
  refine Lib.hid ?_
  intro g w1 hg hb haw
  have HA : Hid (Away [] w w1) := haw
  have HB : Hid (BoxP w1 g p ov (.slice ad p.d.length capd)) := hb
  clear hb haw hg
  go_wp2_with (refine wpList_load28 rfl _ rfl _ rfl p _ _ (by exact HB.out) HAD.out ?_)
  refine (K4.out _ HA.out).mono ?_
  rintro E w2 ⟨rfl, haw⟩
  replace HB := Lib.hid (HB.out.on haw)
  replace HA := Lib.hid (HA.out.next haw (by simp))
  clear haw K4
  have c0 := (HB.out.cells HAD.out).v
  have c45 := (HB.out.cells HAD.out).d
  generalize headP p = h4 at *
  generalize S6.headP p = h6 at *
  by_cases hv : p.v = 6
  · rw [hv] at c0
    go_wp2_with (refine wpList_load28 rfl _ rfl _ rfl p _ _ (by exact HB.out) HAD.out ?_)
    refine (K6.out _ HA.out).mono ?_
    rintro E w3 ⟨rfl, haw⟩
    replace HB := Lib.hid (HB.out.on haw)
    replace HA := Lib.hid (HA.out.next haw (by simp))
    clear haw K6 c0 c45
    have c45 := (HB.out.cells HAD.out).d
    have HZ2 : Hid (z = if h6 = 0 then 0 else h6 + p.d.length) := by show _ = _; rw [HZ.out]; simp only [hv, if_true]
    clear HZ
    by_cases h0 : h6 = 0
    · subst h0
      obtain rfl : z = 0 := HZ2.out
      go_wp2_with fail
      go_ret
      exact ⟨rfl, HA.out⟩
    · have hb0 : decide (h6 = 0) = false := by simp [h0]
      go_wp2_with fail
      go_ret
      refine ⟨?_, HA.out⟩
      have := HZ2.out
      rw [if_neg h0] at this
      apply ret_int; rw [this]
  · have HZ2 : Hid (z = if h4 = 0 then 0 else h4 + p.d.length) := by show _ = _; rw [HZ.out]; simp only [hv, if_false]
    clear HZ K6
    have hbv : decide (p.v = 6) = false := by simp [hv]
    by_cases h0 : h4 = 0
    · subst h0
      obtain rfl : z = 0 := HZ2.out
      go_wp2_with fail
      go_ret
      exact ⟨rfl, HA.out⟩
    · have hb0 : decide (h4 = 0) = false := by simp [h0]
      go_wp2_with fail
      go_ret
      refine ⟨?_, HA.out⟩
      have := HZ2.out
      rw [if_neg h0] at this
      apply ret_int; rw [this]
theorem copyP_c (p : Pk) (ov dv : Value) (w : World) (hp : Pkt w p ov dv) :
    Calls Tryz.prog 40 #[.agg (csP p ov dv)] w fun E w' => OwnOut w p E w' := by
  have HAD := Lib.hid hp.wf.ad
  have KO : Hid (∀ w', Away [] w w' → Calls Tryz.prog 32 #[ov] w' fun E w'' => ∃ v, E = .returned v ∧ Owns w'' v p.o ∧ New w'.heap.size v ∧ Away [] w' w'') := by
    obtain ⟨a, c, rfl, x1, x2, x3⟩ := hp.o
    exact fun w' h => clone_any a p.o c w' x2 (x3.away h (by simp))
  have KD : Hid (∀ w', Away [] w w' → Calls Tryz.prog 32 #[dv] w' fun E w'' => ∃ v, E = .returned v ∧ Owns w'' v p.d ∧ New w'.heap.size v ∧ Away [] w' w'') := by
    obtain ⟨a, c, rfl, x1, x2, x3⟩ := hp.d
    exact fun w' h => clone_any a p.d c w' x2 (x3.away h (by simp))
  obtain ⟨-, ⟨o1, o2, rfl, -⟩, ⟨o3, o4, rfl, -⟩⟩ := hp
  generalize p.o.length = no at *
  generalize p.d.length = nd at *
  go_enter Tryz.func40, Tryz.ntmps40
  go_wp2_with (refine wpList_box28 rfl _ rfl p _ _ rfl ?_; refine Hid.out ?_)
  refine Lib.hid ?_
  intro g1 w1 hg1 hb1 haw1
  have HB1 := Lib.hid hb1; have HA1 := Lib.hid haw1
  have hl1 := hb1.lt
  clear hb1 haw1
  go_wp2_with (refine wpList_alloc28 rfl rfl ?_; refine Hid.out ?_)
  refine Lib.hid ?_
  intro g2 w2 hg2 hb2 haw2
  have HB2 := Lib.hid hb2
  replace HB1 := Lib.hid (HB1.out.on haw2)
  replace HA1 := Lib.hid (HA1.out.next haw2 (by simp))
  have hl2 := hb2.lt
  have hs1 := HA1.out.size
  have hs2 := haw2.size
  clear hb2 haw2
  go_wp2_with fail
  have ck : BoxP w2.drew g1 p (.slice o1 no o2) (.slice o3 nd o4) := HB1.out
  refine wp_region_U [7] (fun w' => BoxP w' g1 p (.slice o1 no o2) (.slice o3 nd o4)) (by kernel_rfl) ?_
  refine wpAnyU_take (i := 0) (v := ?_) (by simp only [List.getElem?_toArray, List.getElem?_cons_zero]; rfl) (by kernel_rfl) (by kernel_rfl) (by kernel_rfl) (by decide) (by decide) (by unfold Un; kernel_rfl) (by exact fun _ _ _ h => h) (Or.inl ⟨by rfl, ?_⟩) (by exact ck) ?_
  rotate_left
  · intro wq hSw
    (try dsimp only at hSw)
    go_simp
    all_goals (with_reducible rfl)
  try simp only [Act.put, List.setIfInBounds_toArray, List.set_cons_zero, List.set_cons_succ]
  refine wpAnyU_take (i := 1) (by simp only [List.getElem?_toArray, List.getElem?_cons_succ, List.getElem?_cons_zero]; rfl) (by kernel_rfl) (by kernel_rfl) (by kernel_rfl) (by decide) (by decide) (by unfold Un; kernel_rfl) (by exact fun _ _ _ h => h) (yields_ld (ad := ⟨g1, 44, none⟩) (by rfl) _ rfl rfl (fun w' h => S6.ld26 (BoxP.cells h HAD.out).o)) (by exact ck) ?_
  try simp only [Act.put, List.setIfInBounds_toArray, List.set_cons_zero, List.set_cons_succ]
  refine wpAnyU_take (i := 3) (v := ?_) (by simp only [List.getElem?_toArray, List.getElem?_cons_succ, List.getElem?_cons_zero]; rfl) (by kernel_rfl) (by kernel_rfl) (by kernel_rfl) (by decide) (by decide) (by unfold Un; kernel_rfl) (by exact fun _ _ _ h => h) (Or.inl ⟨by rfl, ?_⟩) (by exact ck) ?_
  rotate_left
  · intro wq hSw
    (try dsimp only at hSw)
    go_simp
    all_goals (with_reducible rfl)
  try simp only [Act.put, List.setIfInBounds_toArray, List.set_cons_zero, List.set_cons_succ]
  refine wpAnyU_take (i := 4) (by simp only [List.getElem?_toArray, List.getElem?_cons_succ, List.getElem?_cons_zero]; rfl) (by kernel_rfl) (by kernel_rfl) (by kernel_rfl) (by decide) (by decide) (by unfold Un; kernel_rfl) (by exact fun _ _ _ h => h) (yields_ld (ad := ⟨g1, 45, none⟩) (by rfl) _ rfl rfl (fun w' h => S6.ld26 (BoxP.cells h HAD.out).d)) (by exact ck) ?_
  try simp only [Act.put, List.setIfInBounds_toArray, List.set_cons_zero, List.set_cons_succ]
  refine wpAnyU_ready (rs := [2]) (by kernel_rfl) (by simp) ?_
  refine ReadyU.cons (by simp only [List.getElem?_toArray, List.getElem?_cons_succ, List.getElem?_cons_zero]; rfl) (fun K hK => ?_) ReadyU.nil
  go_simp
  refine (KO.out _ HA1.out.drew).mono ?_
  rintro E y1 ⟨v1, rfl, ho1, hn1, ha1⟩
  have HO1 := Lib.hid ho1
  have HB2y := Lib.hid (HB2.out.on ((Away.refl [] w2).drew.next ha1 (by simp)))
  have HAy := Lib.hid (HA1.out.drew.next ha1 (by simp))
  have hsy : w2.heap.size ≤ y1.heap.size := ha1.size
  have hlt1 := ho1.lt
  replace ck := BoxP.on ck ha1
  clear ho1 ha1
  obtain ⟨a3, n3, k3, rfl⟩ := HO1.out.shp
  go_wp2_with fail
  refine hK.out _ _ (fun _ => ck) ?_
  clear hK K
  try simp only [Act.put, List.setIfInBounds_toArray, List.set_cons_zero, List.set_cons_succ]
  refine wpAnyU_take (i := 6) (v := ?_) (by simp only [List.getElem?_toArray, List.getElem?_cons_succ, List.getElem?_cons_zero]; rfl) (by kernel_rfl) (by kernel_rfl) (by kernel_rfl) (by decide) (by decide) (by unfold Un; kernel_rfl) (by exact fun _ _ _ h => h) (Or.inl ⟨by rfl, ?_⟩) (by exact ck) ?_
  rotate_left
  · intro wq hSw
    (try dsimp only at hSw)
    go_simp
    all_goals (with_reducible rfl)
  try simp only [Act.put, List.setIfInBounds_toArray, List.set_cons_zero, List.set_cons_succ]
  refine wpAnyU_ready (rs := [5]) (by kernel_rfl) (by simp) ?_
  refine ReadyU.cons (by simp only [List.getElem?_toArray, List.getElem?_cons_succ, List.getElem?_cons_zero]; rfl) (fun K hK => ?_) ReadyU.nil
  go_simp
  refine (KD.out _ HAy.out).mono ?_
  rintro E y2 ⟨v2, rfl, ho2, hn2, ha2⟩
  have HO2 := Lib.hid ho2
  replace HO1 := Lib.hid (HO1.out.on ha2)
  replace HB2y := Lib.hid (HB2y.out.on ha2)
  replace HAy := Lib.hid (HAy.out.next ha2 (by simp))
  have hsz : y1.heap.size ≤ y2.heap.size := ha2.size
  replace ck := BoxP.on ck ha2
  clear ho2 ha2
  obtain ⟨a5, n5, k5, rfl⟩ := HO2.out.shp
  go_wp2_with fail
  refine hK.out _ _ (fun _ => ck) ?_
  clear hK K
  try simp only [Act.put, List.setIfInBounds_toArray, List.set_cons_zero, List.set_cons_succ]
  refine wpAnyU_ready (rs := [7]) (by kernel_rfl) (by simp) ?_
  refine ReadyU.cons (by simp only [List.getElem?_toArray, List.getElem?_cons_succ, List.getElem?_cons_zero]; rfl) (fun K hK => ?_) ReadyU.nil
  refine step_store26 rfl 9 5 rfl g1 44 rfl a3 n3 k3 rfl _ (by exact (ck.cells HAD.out).o) (by exact ck.free 44) ?_
  refine hK.out _ _ (by intro h; simp [Un] at h) ?_
  clear hK K
  try simp only [Act.put]
  have CK3 := Lib.hid (ck.put 44 (.slice a3 n3 k3) ((csP_set HAD.out _ _).2.2.2.2.2.2.2.2.2.2.2.2.1 p.o (.slice a3 n3 k3)))
  have hA3 := away_put (w := y2) (g := g1) 44 (.slice a3 n3 k3)
  refine wpAnyU_ready (rs := [8]) (by kernel_rfl) (by simp) ?_
  refine ReadyU.cons (by simp only [List.getElem?_toArray, List.getElem?_cons_succ, List.getElem?_cons_zero]; rfl) (fun K hK => ?_) ReadyU.nil
  go_simp
  refine hK.out _ _ (by intro h; simp [Un] at h) ?_
  clear hK K
  try simp only [Act.put]
  refine wpAnyU_ready (rs := [9]) (by kernel_rfl) (by simp) ?_
  refine ReadyU.cons (by simp only [List.getElem?_toArray, List.getElem?_cons_succ, List.getElem?_cons_zero]; rfl) (fun K hK => ?_) ReadyU.nil
  refine step_store26 rfl 10 8 rfl g1 45 rfl a5 n5 k5 rfl _ (by exact (CK3.out.cells HAD.out).d) (by exact CK3.out.free 45) ?_
  refine hK.out _ _ (by intro h; simp [Un] at h) ?_
  clear hK K
  try simp only [Act.put]
  refine wpAnyU_done (by kernel_rfl) ?_ _
  have hA4 := away_put (w := y2.setCell ⟨g1, 44, none⟩ (.slice a3 n3 k3)) (g := g1) 45 (.slice a5 n5 k5)
  have HB6 := Lib.hid (CK3.out.put 45 (.slice a5 n5 k5) ((csP_set (p := { p with o := p.o }) HAD.out _ _).2.2.2.2.2.2.2.2.2.2.2.2.2 p.d (.slice a5 n5 k5)))
  have hA := hA3.trans hA4
  have hv3 : ∀ k, (Value.slice a3 n3 k3).ownBlock = some k → k ≠ g1 ∧ k ≠ g2 ∧ w.heap.size ≤ k ∧ k < y1.heap.size := fun k hk => by
    have h1 := hn1 k hk
    have h2 := hlt1 k hk
    have h3 : w2.heap.size ≤ k := h1
    exact ⟨by omega, by omega, by omega, h2⟩
  have hv5 : ∀ k, (Value.slice a5 n5 k5).ownBlock = some k → k ≠ g1 ∧ k ≠ g2 ∧ w.heap.size ≤ k ∧ y1.heap.size ≤ k := fun k hk => by
    have h1 := hn2 k hk
    exact ⟨by omega, by omega, by omega, h1⟩
  have HM := Lib.hid (show Mine _ w.heap.size p (.slice a3 n3 k3) (.slice a5 n5 k5) from ⟨HO1.out.away hA (fun k hk => by simpa using (hv3 k hk).1), HO2.out.away hA (fun k hk => by simpa using (hv5 k hk).1), fun k hk => (hv3 k hk).2.2.1, fun k hk => (hv5 k hk).2.2.1, fun k hk e => by
    have h1 := (hv3 k hk).2.2.2; have h2 := (hv5 k e).2.2.2; omega⟩)
  have HB7 := Lib.hid (HB2y.out.away hA (by simp; omega))
  have HA7 := Lib.hid (HAy.out.next hA (fun x hx => .inr (by simp at hx; omega)))
  have HV := Lib.hid (show ∀ k, (Value.slice a3 n3 k3).ownBlock = some k ∨ (Value.slice a5 n5 k5).ownBlock = some k → k ≠ g2 from fun k hk => by
    rcases hk with hk | hk
    · exact (hv3 k hk).2.1
    · exact (hv5 k hk).2.1)
  have hz7 : w.heap.size ≤ g2 := by omega
  clear hA hA3 hA4 CK3 ck HO1 HO2 HB2y HAy hv3 hv5 hn1 hn2 hlt1 hsy hsz
  generalize (y2.setCell ⟨g1, 44, none⟩ (.slice a3 n3 k3)).setCell ⟨g1, 45, none⟩ (.slice a5 n5 k5) = w6 at *
  go_wp2_with (first
    | (refine wpList_load28 rfl _ rfl _ rfl p _ _ (by exact HB6.out) HAD.out ?_)
    | (refine wpList_store28 rfl _ _ rfl _ rfl p (.slice a3 n3 k3) (.slice a5 n5 k5) rfl zeroPk (.slice none 0 0) (.slice none 0 0) (by exact HB7.out) HAD.out ⟨rfl, rfl⟩ rfl rfl ?_; refine Hid.out ?_))
  refine Lib.hid ?_
  intro w7 hb7 haw7
  have HB8 := Lib.hid hb7
  have HA8 : Hid (Away [] w w7) := HA7.out.next haw7 (fun x hx => .inr (by simp at hx; omega))
  have HM8 := Lib.hid (HM.out.away haw7 (fun k hk => by simpa using HV.out k hk))
  clear hb7 haw7
  go_wp2_with fail
  exact bodyPost_ret (result28 rfl _ _ _ _ _ _ rfl HB8.out HAD.out) rfl ⟨_, _, rfl, HM8.out, HA8.out⟩
theorem mtu_c (m : Int) (w : World) : Calls Tryz.prog 39 #[.int .i64 m] w fun E w' => E = .returned (.bool (mtuP m 4)) ∧ w' = w := by
  obtain ⟨z, hz⟩ : ∃ z, z = mtuP m 4 := ⟨_, rfl⟩
  rw [← hz]
  unfold mtuP at hz
  have HZ := Lib.hid hz
  clear hz
  by_cases h1 : 68 ≤ m
  · have d1 : decide (68 ≤ m) = true := by simp [h1]
    obtain rfl : z = decide (m ≤ 65535) := by rw [HZ.out, if_neg (by decide), d1]; rfl
    go_enter Tryz.func39, Tryz.ntmps39
    go_wp2
    go_ret
    exact ⟨rfl, rfl⟩
  · have d1 : decide (68 ≤ m) = false := by simp; omega
    obtain rfl : z = false := by rw [HZ.out, if_neg (by decide), d1]; rfl
    go_enter Tryz.func39, Tryz.ntmps39
    go_wp2
    go_ret
    exact ⟨rfl, rfl⟩
/-- endOf. -/
theorem end_c (p : Pk) (ov dv : Value) (w : World) (hp : Pkt w p ov dv) (h0 : 0 ≤ p.off) (h1 : p.off ≤ 65528) :
    Calls Tryz.prog 31 #[.agg (csP p ov dv)] w fun E w' => E = .returned (.int .i64 (p.off + p.d.length)) ∧ Away [] w w' := by
  have HAD := Lib.hid hp.wf.ad
  have hdn := hp.wf.dn
  obtain ⟨hwf, ho, ⟨ad, capd, rfl, q1, q2, q3⟩⟩ := hp
  clear hwf ho q1 q2 q3
  go_enter Tryz.func31, Tryz.ntmps31
  go_wp2_with (refine wpList_box28 rfl _ rfl p _ _ rfl ?_; refine Hid.out ?_)
  refine Lib.hid ?_
  intro g w1 hg hb haw
  have HA : Hid (Away [] w w1) := haw
  have c43 := (hb.cells HAD.out).off
  have c45 := (hb.cells HAD.out).d
  clear hb haw hg
  go_wp2_with fail
  go_ret
  exact ⟨by apply ret_int; go_num, HA.out⟩
/-- uncut. -/
def unP (p : Pk) : Pk := { p with off := 0, more := false }
theorem unc_c (p : Pk) (ov dv : Value) (w : World) (ha : Ad p) (ho : ov.oneCell' = true) (hd : dv.oneCell' = true) :
    Calls Tryz.prog 62 #[.agg (csP p ov dv)] w fun E w' => E = .returned (.agg (csP (unP p) ov dv)) ∧ Away [] w w' := by
  have HAD := Lib.hid ha
  have HO := Lib.hid ho; have HD := Lib.hid hd
  clear ha ho hd
  go_enter Tryz.func62, Tryz.ntmps62
  go_wp2_with (refine wpList_box28 rfl _ rfl p _ _ rfl ?_; refine Hid.out ?_)
  refine Lib.hid ?_
  intro g1 w1 hg1 hb1 haw1
  have HB1 := Lib.hid hb1; have HA1 := Lib.hid haw1
  have hl1 := hb1.lt
  clear hb1 haw1
  go_wp2_with (refine wpList_alloc28 rfl rfl ?_; refine Hid.out ?_)
  refine Lib.hid ?_
  intro g2 w2 hg2 hb2 haw2
  have HB2 := Lib.hid hb2
  replace HB1 := Lib.hid (HB1.out.on haw2)
  replace HA1 := Lib.hid (HA1.out.next haw2 (by simp))
  have hl2 := hb2.lt
  have hs2 := haw2.size
  clear hb2 haw2
  have cs := csP_set (p := p) HAD.out ov dv
  have HB3 := Lib.hid (HB1.out.put 43 (.int .i64 0) (cs.2.2.2.2.2.2.2.2.2.2.2.1 0))
  have HB5 := Lib.hid (HB3.out.put 41 (.bool false) ((csP_set (p := { p with off := 0 }) HAD.out ov dv).2.2.2.2.2.2.2.2.2.1 false))
  have hA3 := away_put (w := w2) (g := g1) 43 (.int .i64 0)
  have hA5 := away_put (w := w2.setCell ⟨g1, 43, none⟩ (.int .i64 0)) (g := g1) 41 (.bool false)
  have hA6 := hA3.trans hA5
  have HB6 := Lib.hid (HB2.out.away hA6 (by simp; omega))
  have HA6 := Lib.hid (HA1.out.next hA6 (fun x hx => .inr (by simp at hx; omega)))
  have s43 := (HB1.out.cells HAD.out).off
  have s41 := (HB1.out.cells HAD.out).more
  have f43 := HB1.out.free 43
  have f41 := HB1.out.free 41
  clear hA3 hA5 hA6 cs HB3 HA1 HB1 HB2
  go_upto_region 2 with fail
  clear s43 s41 f43 f41
  generalize (w2.setCell ⟨g1, 43, none⟩ (.int .i64 0)).setCell ⟨g1, 41, none⟩ (.bool false) = w6 at *
  go_wp2_with (first
    | (refine wpList_load28 rfl _ rfl _ rfl (unP p) _ _ (by exact HB5.out) HAD.out ?_)
    | (refine wpList_store28 rfl _ _ rfl _ rfl (unP p) ov dv rfl zeroPk (.slice none 0 0) (.slice none 0 0) (by exact HB6.out) HAD.out ⟨rfl, rfl⟩ HO.out HD.out ?_; refine Hid.out ?_))
  refine Lib.hid ?_
  intro w7 hb7 haw7
  have HB7 := Lib.hid hb7
  have HA7 : Hid (Away [] w w7) := HA6.out.next haw7 (fun x hx => .inr (by simp at hx; omega))
  clear hb7 haw7
  go_wp2_with fail
  exact bodyPost_ret (result28 rfl _ _ _ _ _ _ rfl HB7.out HAD.out) rfl ⟨rfl, HA7.out⟩
end R
#print axioms R.unc_c
end Go.Proofs.YtaicckenpplceaaGreatDoor

namespace Go.Proofs.YtaicckenpplceaaGreatDoor
open Go.ChangeShapes Go.WideShapes Go.ChangeAt Go.RowKit Num
set_option linter.unusedVariables false
set_option maxHeartbeats 4000000
set_option maxRecDepth 100000

namespace R
theorem eqnil32_some (a : Addr) (n c : Nat) (w : World) : (binOp .eql 22 (.slice (some a) n c) (.slice none 0 0)).run Tryz.prog w = .ok (.bool false) w := by kernel_rfl
theorem eqnil32_none (w : World) : (binOp .eql 22 (.slice none 0 0) (.slice none 0 0)).run Tryz.prog w = .ok (.bool true) w := by kernel_rfl
theorem flat_src {w : World} {ad : Addr} {xs : List X} (h : Pks w (some ad) xs) : ∀ j u, (xs.flatMap X.cells)[j]? = some u → w.cell? (ad.add j) = some u := by
  intro j u hj
  have hA : ∀ x ∈ xs, Ad x.p := fun x hx => (h.2.1 x hx).wf.ad
  have hl := flatP_len xs hA
  have hj' := lt_of_get hj
  rw [hl] at hj'
  obtain ⟨x, hx, hm⟩ := get_of (show j / 46 < xs.length by omega)
  obtain ⟨b, off, hb, hr, -⟩ := h.at hx
  simp only [Option.some.injEq] at hb; subst hb
  have hxl : x.cells.length = 46 := listP_len (hA x hm) _ _
  obtain ⟨v, hv, -⟩ := get_of (show j % 46 < x.cells.length by omega)
  have f := flatP_get xs (j / 46) x hA hx (j % 46) v hv
  rw [show j / 46 * 46 + j % 46 = j from by omega, hj] at f
  simp only [Option.some.injEq] at f; subst f
  have := hr (j % 46) u hv
  rw [add_plain, show off + j = off + j / 46 * 46 + j % 46 from by omega]
  exact this
theorem flat_one (xs : List X) {w : World} (h : ∀ x ∈ xs, x.ok w) : ∀ u ∈ xs.flatMap X.cells, u.oneCell' = true := by
  intro u hu
  obtain ⟨x, hx, hux⟩ := List.mem_flatMap.1 hu
  exact listP_one _ _ _ (h x hx).ov (h x hx).dv u hux
theorem run_appQ (ty : TypeId) (w : World) (v : Value) (xs ys : List X) (hown : LstP w v xs) (ad : Addr) (n c : Nat) (hn : ys.length = n) (h : Pks w (some ad) ys) (hk : xs.length + n ≤ 925904528640) :
    ∃ v' w', (Builtin.append_ #[22, 22] ty #[v, .slice (some ad) n c]).run Tryz.prog w = .ok v' w' ∧ LstP w' v' (xs ++ ys) ∧ w.grownBy w' v.ownBlock ∧ Moved w v v' := by
  obtain ⟨i0, hi, hz0, hz1, hz2⟩ := info_parts info28b
  subst hn
  have hA : ∀ x ∈ ys, Ad x.p := fun x hx => (h.2.1 x hx).wf.ad
  obtain ⟨v', w', r1, r2, r3, r4⟩ := run_appN 22 ty 29 i0 _ 152 46 Tryz.underlying22 hi hz0 hz1 hz2 (csP_size ⟨rfl, rfl⟩ _ _) (by decide) w v xs.length (xs.flatMap X.cells) hown ad ys.length c (ys.flatMap X.cells) (flatP_len ys hA) (flat_src h) (flat_one ys h.2.1) (by unfold maxLen; omega) (by omega)
  refine ⟨v', w', r1, ?_, r3, r4⟩
  unfold LstP
  rw [List.flatMap_append, List.length_append]
  exact r2
theorem wpList_appQ {ops : Array Oper} {rest : List Oper} {o : Oper} {a : Act} {w : World} {Q : Exit → Act → World → Prop} (hgd : o.guard = none) (s t : Operand)
    (ho : o.op = .call { callee := .builtin .append, args := #[s, t], argTypes := #[22, 22] }) (v : Value) (xs ys : List X) (hs : a.eval s = v) (hown : LstP w v xs) (ad : Addr) (n c : Nat) (ht : a.eval t = .slice (some ad) n c) (hn : ys.length = n) (hb : Pks w (some ad) ys) (hk : xs.length + n ≤ 925904528640)
    (h : ∀ v' w', LstP w' v' (xs ++ ys) → w.grownBy w' v.ownBlock → Moved w v v' → wpList Tryz.prog ops Q rest (a.put o.dst v') w') : wpList Tryz.prog ops Q (o :: rest) a w := by
  obtain ⟨v', w', hrun, r1, r2, r3⟩ := run_appQ o.type w v xs ys hown ad n c hn hb hk
  refine wpList_plain hgd fun K hK => ?_
  unfold Oper.wp
  simp [execOp, ho, resolve, invoke, builtin, hs, ht, hrun, Result.andThen]
  exact hK _ _ (h v' w' r1 r2 r3)
/-- slices.Clone: a list of its own, of the same packets. -/
def CloneOut (w : World) (xs : List X) (n : Nat) (e : Ending) (w' : World) : Prop :=
  ∃ v, e = .returned v ∧ LstP w' v xs ∧ New w.heap.size v ∧ Away [] w w' ∧ (n ≠ 0 → ∃ g c, v = .slice (some ⟨g, 0, none⟩) n c) ∧ (n = 0 → ∃ b c, v = .slice b 0 c ∧ (b = none → c = 0))
theorem clone_c (a : Option Addr) (xs : List X) (n cap : Nat) (w : World) (hn : xs.length = n) (ha : a = none → cap = 0) (hr : Pks w a xs) :
    Calls Tryz.prog 10 #[.slice a n cap] w fun e w' => CloneOut w xs n e w' := by
  have hlen := hr.1
  rcases a with _ | ad
  · have h0 : xs = [] := by rcases hr.2.2 with h | ⟨_, _, h, _⟩ <;> simp_all
    subst h0
    obtain rfl := ha rfl
    simp only [List.length_nil] at hn
    subst hn
    have he := eqnil32_none
    go_enter Tryz.func10, Tryz.ntmps10
    go_wp2
    go_ret
    exact ⟨_, rfl, LstP.nil _, by simp [New, Value.ownBlock], Away.refl _ _, fun h => absurd rfl h, fun _ => ⟨none, 0, rfl, fun _ => rfl⟩⟩
  · have H1 : Hid (Pks (w.alloc (.cells #[] 29)) (some ad) xs) := hr.on ((Away.refl [] w).alloc _)
    have hown : Hid (LstP (w.alloc (.cells #[] 29)) (.slice (some ⟨w.heap.size, 0, none⟩) 0 0) []) := World.ownsRow_lit w #[] 0 (Nat.zero_le _) (Nat.zero_le _) rfl
    have HOK := Lib.hid hr.2.1
    have HLN := Lib.hid hn
    clear hr
    have he := eqnil32_some ad n cap
    have hlen2 : n ≤ 925904528640 := by omega
    clear hn
    go_enter Tryz.func10, Tryz.ntmps10
    go_wp2_with (at_builtin; refine wpList_appQ rfl _ _ rfl _ [] xs rfl hown.out ad n cap rfl HLN.out H1.out (by simpa using hlen2) ?_)
    intro v' w2 hown2 hgr hblk
    have HL : Hid (LstP w2 v' xs) := by show LstP _ _ _; simpa using hown2
    have HN : Hid (New w.heap.size v') := fun k hk => by
      rcases hblk k hk with h | h
      · simp [Value.ownBlock] at h; omega
      · have h2 : w.heap.size + 1 ≤ k := by simpa using h
        omega
    have HA : Hid (Away [] w w2) := ((Away.refl [] w).alloc _).grown hgr (fun k hk => by simp [Value.ownBlock] at hk; right; omega)
    clear hown2 hgr hblk
    go_wp2
    go_ret
    refine ⟨v', rfl, HL.out, HN.out, HA.out, fun h => ?_, fun h => ?_⟩
    · rcases HL.out.2 with ⟨rfl, h2⟩ | ⟨g, c, cur, rfl, -⟩
      · exfalso; apply h; have e : xs = [] := by simpa using h2
        have := HLN.out; rw [e] at this; simpa using this.symm
      · exact ⟨g, c, by rw [HLN.out]⟩
    · rcases HL.out.2 with ⟨rfl, h2⟩ | ⟨g, c, cur, rfl, -⟩
      · exact ⟨none, 0, rfl, fun _ => rfl⟩
      · refine ⟨some ⟨g, 0, none⟩, c, by rw [HLN.out, h], by simp⟩
end R
#print axioms R.clone_c
end Go.Proofs.YtaicckenpplceaaGreatDoor

namespace Go.Proofs.YtaicckenpplceaaGreatDoor
open Go.ChangeShapes Go.WideShapes Go.ChangeAt Go.RowKit Num
set_option linter.unusedVariables false
set_option maxHeartbeats 4000000
set_option maxRecDepth 100000

namespace R
theorem cells_set {x y : X} {f : Nat} {u : Value} (h : (csP x.p x.o x.d).setIfInBounds f u = csP y.p y.o y.d) : x.cells.set f u = y.cells := by
  have := congrArg Array.toList h
  rw [Array.toList_setIfInBounds] at this
  exact this
theorem flat_set (f : Nat) (x y : X) (u : Value) (hf : f < 46) (e : x.cells.set f u = y.cells) (xs : List X) : ∀ i, (∀ x ∈ xs, Ad x.p) → xs[i]? = some x → (xs.flatMap X.cells).set (i * 46 + f) u = (xs.set i y).flatMap X.cells := by
  induction xs with
  | nil => intro i _ h; simp at h
  | cons z r ih =>
    intro i hA h
    have hl : z.cells.length = 46 := listP_len (hA z (by simp)) _ _
    cases i with
    | zero =>
      simp only [List.getElem?_cons_zero, Option.some.injEq] at h; subst h
      rw [List.flatMap_cons, Nat.zero_mul, Nat.zero_add, List.set_append_left _ _ (by omega), e, List.set_cons_zero, List.flatMap_cons]
    | succ i =>
      have := ih i (fun q hq => hA q (by simp [hq])) (by simpa using h)
      rw [List.flatMap_cons, List.set_append_right _ _ (by omega), hl, show (i + 1) * 46 + f - 46 = i * 46 + f from by omega, this, List.set_cons_succ, List.flatMap_cons]
theorem lst_put {w : World} {g n cap : Nat} {xs : List X} (h : LstP w (.slice (some ⟨g, 0, none⟩) n cap) xs) (hn : xs.length = n) (hA : ∀ x ∈ xs, Ad x.p) {i f : Nat} {x y : X} {u : Value} (hx : xs[i]? = some x) (hf : f < 46) (e : (csP x.p x.o x.d).setIfInBounds f u = csP y.p y.o y.d) :
    LstP (w.setCell ⟨g, i * 46 + f, none⟩ u) (.slice (some ⟨g, 0, none⟩) n cap) (xs.set i y) := by
  subst hn
  have := (World.ownsRow.stored h (i * 46 + f) u).1
  rw [flat_set f x y u hf (cells_set e) xs i hA hx] at this
  unfold LstP
  rw [List.length_set]
  exact this
theorem lst_cell {w : World} {g n cap : Nat} {xs : List X} (h : LstP w (.slice (some ⟨g, 0, none⟩) n cap) xs) (hn : xs.length = n) (hA : ∀ x ∈ xs, Ad x.p) {i f : Nat} {x : X} {u : Value} (hx : xs[i]? = some x) (hu : (csP x.p x.o x.d)[f]? = some u) :
    w.cell? ⟨g, i * 46 + f, none⟩ = some u ∧ w.frozen? ⟨g, i * 46 + f, none⟩ = false := by
  subst hn
  have hl : x.cells.length = 46 := listP_len (hA x (List.mem_of_getElem? hx)) _ _
  have hu' : x.cells[f]? = some u := by rw [← hu]; unfold csP X.cells; rw [List.getElem?_toArray]
  have hf := lt_of_get hu'
  have hi := lt_of_get hx
  refine ⟨?_, World.ownsRow.frozenAt h _⟩
  rw [World.ownsRow.cellAt h _ (by omega)]
  exact flatP_get xs i x hA hx f u hu'
/-- A list whose packets alone were changed, but for their bytes. -/
theorem cuts_like {w w' : World} {B g : Nat} {v : Value} {xs ys : List X} (h : Cuts w B v xs) (haw : Away [g] w w') (hv : v.ownBlock = some g) (hl : LstP w' v ys) (hod : ys.map (fun x => (x.p.o, x.p.d, x.o, x.d)) = xs.map (fun x => (x.p.o, x.p.d, x.o, x.d))) (hwf : ∀ y ∈ ys, Wf y.p) : Cuts w' B v ys := by
  have key : ∀ y ∈ ys, ∃ x ∈ xs, y.p.o = x.p.o ∧ y.p.d = x.p.d ∧ y.o = x.o ∧ y.d = x.d := fun y hy => by
    have : (y.p.o, y.p.d, y.o, y.d) ∈ xs.map (fun x => (x.p.o, x.p.d, x.o, x.d)) := by rw [← hod]; exact List.mem_map.2 ⟨y, hy, rfl⟩
    obtain ⟨x, hx, e⟩ := List.mem_map.1 this
    simp only [Prod.mk.injEq] at e
    exact ⟨x, hx, e.1.symm, e.2.1.symm, e.2.2.1.symm, e.2.2.2.symm⟩
  refine ⟨hl, h.new, fun y hy => ⟨hwf y hy, ?_⟩, fun y hy k hk => ?_, ?_⟩
  · obtain ⟨x, hx, e1, e2, e3, e4⟩ := key y hy
    have hm := (h.each x hx).2.away haw (fun k hk e => by simp at e; subst e; exact h.far x hx k hk hv)
    rw [e3, e4]
    exact ⟨by rw [e1]; exact hm.o, by rw [e2]; exact hm.d, hm.no, hm.nd, hm.ap⟩
  · obtain ⟨x, hx, e1, e2, e3, e4⟩ := key y hy
    exact h.far x hx k (by rwa [e3, e4] at hk)
  · have := h.apart
    have e : ys.map (fun x => (x.o, x.d)) = xs.map (fun x => (x.o, x.d)) := by
      have := congrArg (List.map (fun t : List Int × List Int × Value × Value => (t.2.2.1, t.2.2.2))) hod
      rw [List.map_map, List.map_map] at this
      exact this
    have h1 : (xs.map (fun x => (x.o, x.d))).Pairwise (fun a b => ∀ k, a.1.ownBlock = some k ∨ a.2.ownBlock = some k → b.1.ownBlock ≠ some k ∧ b.2.ownBlock ≠ some k) := by rw [List.pairwise_map]; exact this
    rw [← e, List.pairwise_map] at h1
    exact h1
theorem set_map_same {α β : Type} (f : α → β) (x y : α) (hf : f y = f x) (l : List α) : ∀ i, l[i]? = some x → (l.set i y).map f = l.map f := by
  induction l with
  | nil => intro i h; simp at h
  | cons z r ih =>
    intro i h
    cases i with
    | zero => simp only [List.getElem?_cons_zero, Option.some.injEq] at h; subst h; simp [hf]
    | succ i => simp only [List.set_cons_succ, List.map_cons]; rw [ih i (by simpa using h)]
def upd (f : Pk → Pk) (x : X) : X := ⟨f x.p, x.o, x.d⟩
def upto (f : Pk → Pk) (k : Nat) (xs : List X) : List X := (xs.take k).map (upd f) ++ xs.drop k
theorem upto_zero (f : Pk → Pk) (xs : List X) : upto f 0 xs = xs := by simp [upto]
theorem upto_len (f : Pk → Pk) (k : Nat) (xs : List X) : (upto f k xs).length = xs.length := by simp [upto]; omega
theorem upto_all (f : Pk → Pk) (xs : List X) : upto f xs.length xs = xs.map (upd f) := by simp [upto]
theorem upto_get (f : Pk → Pk) (k : Nat) (xs : List X) {x : X} (h : xs[k]? = some x) : (upto f k xs)[k]? = some x := by
  have hk := lt_of_get h
  unfold upto
  rw [List.getElem?_append_right (by simp; omega)]
  simp [Nat.min_eq_left (Nat.le_of_lt hk), h]
theorem upto_succ (f : Pk → Pk) (k : Nat) (xs : List X) {x : X} (h : xs[k]? = some x) : (upto f k xs).set k (upd f x) = upto f (k + 1) xs := by
  have hk := lt_of_get h
  have hx : xs[k] = x := by rw [List.getElem?_eq_getElem hk] at h; simpa using h
  unfold upto
  rw [List.set_append_right _ _ (by simp; omega), List.drop_eq_getElem_cons hk, hx]
  simp only [List.length_map, List.length_take, Nat.min_eq_left (Nat.le_of_lt hk), Nat.sub_self, List.set_cons_zero]
  rw [List.take_succ_eq_append_getElem hk, hx]
  simp
theorem upto_mem (f : Pk → Pk) (k : Nat) (xs : List X) (P : Pk → Prop) (h : ∀ x ∈ xs, P x.p) (hf : ∀ x ∈ xs, P (f x.p)) : ∀ x ∈ upto f k xs, P x.p := by
  intro x hx
  unfold upto at hx
  rcases List.mem_append.1 hx with hx | hx
  · obtain ⟨y, hy, rfl⟩ := List.mem_map.1 hx
    exact hf y (List.mem_of_mem_take hy)
  · exact h x (List.mem_of_mem_drop hx)
theorem upto_od (f : Pk → Pk) (k : Nat) (xs : List X) (hf : ∀ p, (f p).o = p.o ∧ (f p).d = p.d) : (upto f k xs).map (fun x => (x.p.o, x.p.d, x.o, x.d)) = xs.map (fun x => (x.p.o, x.p.d, x.o, x.d)) := by
  unfold upto
  rw [List.map_append, List.map_map]
  have : (fun x : X => (x.p.o, x.p.d, x.o, x.d)) ∘ upd f = fun x : X => (x.p.o, x.p.d, x.o, x.d) := by
    funext x; simp [upd, (hf x.p).1, (hf x.p).2]
  rw [this, ← List.map_append, List.take_append_drop]
theorem pcs_len (p : Pk) (m : Int) (lat : Pk) : ∀ (k : Nat) (f : Pk) (n : Nat), (pcsP p m lat k f n).length ≤ k
  | 0, f, n => by simp [pcsP]
  | k + 1, f, n => by
    rw [pcsP]; split
    · have := pcs_len p m lat k lat (n + shareP (p.d.length - n) (roomP f m) p.v)
      simp only [List.length_cons]; omega
    · simp
/-! Offsets moved; the last one's More. -/
def shP (k : Int) (q : Pk) : Pk := { q with off := wrap64 (q.off + k) }
def shM (k : Int) (q : Pk) : Pk := { q with off := wrap64 (q.off - k) }
def moP (b : Bool) (q : Pk) : Pk := { q with more := b }
def lastM (b : Bool) : List Pk → List Pk
  | [] => []
  | [q] => [moP b q]
  | q :: r :: s => q :: lastM b (r :: s)
theorem lastM_set (b : Bool) : ∀ (xs : List X) (x : X), xs[xs.length - 1]? = some x → (xs.set (xs.length - 1) (upd (moP b) x)).map X.p = lastM b (xs.map X.p)
  | [], x, h => by simp at h
  | [y], x, h => by simp at h; subst h; rfl
  | y :: z :: s, x, h => by
    have := lastM_set b (z :: s) x (by simpa using h)
    simp only [List.length_cons, Nat.add_sub_cancel] at this ⊢
    simp only [List.set_cons_succ, List.map_cons, lastM]
    rw [this]; rfl
theorem wrap_i64ok (n : Int) : i64ok (wrap64 n) := by
  unfold i64ok wrap64; omega
theorem sh_wf {q : Pk} (h : Wf q) (k : Int) : Wf (shP k q) := ⟨h.v, h.tos, h.flow, h.sv, h.sl, h.sb, h.dv, h.dl, h.db, h.proto, h.ttl, h.id0, h.id1, wrap_i64ok _, h.o, h.ol, h.d, h.dn⟩
theorem shM_wf {q : Pk} (h : Wf q) (k : Int) : Wf (shM k q) := ⟨h.v, h.tos, h.flow, h.sv, h.sl, h.sb, h.dv, h.dl, h.db, h.proto, h.ttl, h.id0, h.id1, wrap_i64ok _, h.o, h.ol, h.d, h.dn⟩
theorem mo_wf {q : Pk} (h : Wf q) (b : Bool) : Wf (moP b q) := ⟨h.v, h.tos, h.flow, h.sv, h.sl, h.sb, h.dv, h.dl, h.db, h.proto, h.ttl, h.id0, h.id1, h.off, h.o, h.ol, h.d, h.dn⟩
theorem un_wf {q : Pk} (h : Wf q) : Wf (unP q) := ⟨h.v, h.tos, h.flow, h.sv, h.sl, h.sb, h.dv, h.dl, h.db, h.proto, h.ttl, h.id0, h.id1, by simp [unP, i64ok], h.o, h.ol, h.d, h.dn⟩
/-- What a packet that must be cut is cut into. -/
def recutL (p : Pk) (m : Int) : List Pk := lastM p.more ((cutL (unP p) m 0).map (shP p.off))
def recutP (p : Pk) (m : Int) : List Pk × Int :=
  if rgtP p = true ∧ mtuP m 4 = true then (if longP p ≤ m then ([p], 0) else if p.v = 6 ∨ p.df = true then ([], 100) else (recutL p m, 0)) else ([], 1)
theorem un_right {p : Pk} (h : rgtP p = true) (hv : p.v ≠ 6) : Unc (unP p) := by
  unfold rgtP at h; rw [if_neg hv, right_iff] at h
  have hr1 := h.1
  refine ⟨?_, rfl, rfl, hr1.frag⟩
  unfold rgtP
  refine (if_neg hv).trans ?_
  rw [right_iff]
  exact ⟨⟨hr1.v, hr1.flow, hr1.frag, hr1.id, hr1.t0, hr1.t1, hr1.l0, hr1.l1, hr1.r0, hr1.r1, hr1.sv, hr1.sb, hr1.dv, hr1.db, by simp [unP], by simp [unP], by simp [unP], by simp [unP], by simp [unP], by simp [unP], by have := hr1.all; show (0 : Int) + p.d.length ≤ 65535; omega, hr1.all⟩, h.2⟩
theorem un_long {p : Pk} (h : rgtP p = true) (hv : p.v ≠ 6) : longP (unP p) = longP p := by
  rw [long_of h, long_of (un_right h hv).r]; rfl
theorem v4 {p : Pk} (h : rgtP p = true) (hv : p.v ≠ 6) : p.v = 4 := by
  unfold rgtP at h; rw [if_neg hv, right_iff] at h; exact h.1.v
theorem un_cut {p : Pk} {m : Int} (h : rgtP p = true) (hm : mtuP m 4 = true) (hno : ¬ longP p ≤ m) (hv : p.v ≠ 6) (hdf : p.df = false) : cutP (unP p) m 0 = (cutL (unP p) m 0, 0) := by
  have hv4 := v4 h hv
  have hu := un_right h hv
  have hm' : mtuP m (unP p).v = true := by show mtuP m p.v = true; rw [hv4]; exact hm
  unfold cutP
  rw [(uncut_iff _).2 hu, hm']
  have hf : fitsP (unP p) m = false := by
    rw [Bool.eq_false_iff]; intro e
    have := (fits_iff _ _).1 e
    apply hno; rw [← un_long h hv, long_of hu.r]; exact this.2
  rw [hf]
  have : (unP p).df = false := hdf
  rw [this]; rfl
theorem un_two {p : Pk} {m : Int} (hw : Wf p) (h : rgtP p = true) (hm : mtuP m 4 = true) (hno : ¬ longP p ≤ m) (hv : p.v ≠ 6) : 2 ≤ (cutL (unP p) m 0).length := by
  have hv4 := v4 h hv
  have hu := un_right h hv
  have hm' : mtuP m (unP p).v = true := by show mtuP m p.v = true; rw [hv4]; exact hm
  have hf : fitsP (unP p) m = false := by
    rw [Bool.eq_false_iff]; intro e
    have := (fits_iff _ _).1 e
    apply hno; rw [← un_long h hv, long_of hu.r]; exact this.2
  have := cut_two hu (un_wf hw) (id := 0) (by omega) (by omega) hm' hf
  obtain ⟨a, b, r, -, -, e, -⟩ := this
  rw [e]; simp
end R
#print axioms R.un_two
end Go.Proofs.YtaicckenpplceaaGreatDoor

namespace Go.Proofs.YtaicckenpplceaaGreatDoor
open Go.ChangeShapes Go.WideShapes Go.ChangeAt Go.RowKit Num
set_option linter.unusedVariables false
set_option maxHeartbeats 4000000
set_option maxRecDepth 100000

namespace R
theorem pieces_c (p : Pk) (ov dv : Value) (m : Int) (w : World) (hp : Pkt w p ov dv) (hg : Glob w) (hr : rgtP p = true) (hm : mtuP m 4 = true) (hno : ¬ longP p ≤ m) (hv : p.v ≠ 6) (hdf : p.df = false) :
    Calls Tryz.prog 41 #[.agg (csP p ov dv), .int .i64 m] w fun E w' => ∃ v xs, E = .returned (.tuple #[v, .int .i64 0]) ∧ Cuts w' w.heap.size v xs ∧ xs.map X.p = recutL p m ∧ Away [] w w' := by
  have HAD := Lib.hid hp.wf.ad
  have HP := Lib.hid hp; have HG := Lib.hid hg
  have HCU := Lib.hid (un_cut hr hm hno hv hdf)
  have HTW := Lib.hid (un_two hp.wf hr hm hno hv)
  have HU := Lib.hid (un_right hr hv)
  clear hp hg hr hm hno hv hdf
  go_enter Tryz.func41, Tryz.ntmps41
  go_wp2_with (refine wpList_box28 rfl _ rfl p _ _ rfl ?_; refine Hid.out ?_)
  refine Lib.hid ?_
  intro g2 w1 hg2 hb haw
  have HA := Lib.hid haw; have HB := Lib.hid hb
  have hlg := hb.lt
  clear hb haw
  go_wp2_with (refine wpList_load28 rfl _ rfl g2 rfl p _ _ (by exact HB.out) HAD.out ?_)
  refine (unc_c p ov dv _ HAD.out HP.out.ov HP.out.dv).mono ?_
  rintro E w2 ⟨rfl, haw⟩
  replace HB := Lib.hid (HB.out.on haw)
  replace HA := Lib.hid (HA.out.on haw)
  have hs2 := haw.size
  clear haw
  have HPU : Hid (Pkt w2 (unP p) ov dv) := ⟨un_wf HP.out.wf, (HP.out.on HA.out).o, (HP.out.on HA.out).d⟩
  go_wp2_with fail
  refine (cut_c (unP p) ov dv m 0 _ HPU.out (HG.out.on HA.out) (by omega) (by omega)).mono ?_
  unfold CutOut
  rw [HCU.out]
  rintro E w3 ⟨v, xs, rfl, hcu, hxm, haw⟩
  have HX := Lib.hid hcu
  have HXM := Lib.hid hxm
  replace HB := Lib.hid (HB.out.on haw)
  replace HA := Lib.hid (HA.out.on haw)
  have hs3 := haw.size
  have hxl : xs.length = (cutL (unP p) m 0).length := by rw [← List.length_map (f := X.p), hxm]
  have hx2 : 2 ≤ xs.length := by rw [hxl]; exact HTW.out
  have hx3 : xs.length ≤ 925904528640 := by
    rw [hxl]; unfold cutL
    have h1 := pcs_len (unP p) m (latP (unP p) 0) (unP p).d.length (fstP (unP p) 0) 0
    have h2 := HU.out.all.1
    omega
  clear haw hcu hxm HPU hxl
  obtain ⟨xa, xc, hxv, hx4, -, -, hxa⟩ := HX.out.pks hx3
  obtain ⟨xb, hxb⟩ : ∃ xb, xa = some ⟨xb, 0, none⟩ := by
    rcases HX.out.lst.2 with ⟨h1, h2⟩ | ⟨g, c, cur, h1, -⟩
    · omega
    · rw [hxv] at h1; simp only [Value.slice.injEq] at h1; exact ⟨g, h1.1⟩
  subst hxb; subst hxv
  clear hxa
  have HBX : Hid (xb < w3.heap.size) := HX.out.lst.lt xb rfl
  have hnb : w2.heap.size ≤ xb := HX.out.new xb rfl
  obtain ⟨n, hn⟩ : ∃ n, n = xs.length := ⟨_, rfl⟩
  rw [← hn] at hx2 hx3 hx4 HX ⊢
  have HN := Lib.hid hn
  clear hn
  go_wp2_with fail
  go_loopw [21] (fun i wr => ∃ k : Nat, i = .int .i64 (k : Int) ∧ k ≤ n ∧ LstP wr (.slice (some ⟨xb, 0, none⟩) n xc) (upto (shP p.off) k xs) ∧ Away [xb] w3 wr) (fun i _ => n - (intOf i).toNat)
  case atStart => exact ⟨0, rfl, by omega, by rw [upto_zero]; exact HX.out.lst, Away.refl _ _⟩
  case round =>
    obtain ⟨k, rfl, hk, hl, haw⟩ := hrel
    have HL := Lib.hid hl; have HAW := Lib.hid haw
    clear hl haw
    have HBr := Lib.hid (HB.out.away HAW.out (by simp; omega))
    have HAX : Hid (∀ x ∈ upto (shP p.off) k xs, Ad x.p) := upto_mem _ _ _ Ad (fun x hx => (HX.out.each x hx).1.ad) (fun x hx => (HX.out.each x hx).1.ad)
    have HUL : Hid ((upto (shP p.off) k xs).length = n) := by show _ = _; rw [upto_len]; exact HN.out.symm
    by_cases hlt : k < n
    · obtain ⟨x, hx, hxm⟩ := get_of (show k < xs.length by have := HN.out; omega)
      have HXK := Lib.hid (upto_get (shP p.off) k xs hx)
      have HXX := Lib.hid hx
      have hax := (HX.out.each x hxm).1.ad
      have hc := lst_cell HL.out HUL.out HAX.out HXK.out ((csP_get hax x.o x.d).2.2.2.2.2.2.2.2.2.2.2.1)
      have c1 := hc.1; have f1 := hc.2
      have c43 := (HBr.out.cells HAD.out).off
      have HPUT := Lib.hid (fun u => lst_put HL.out HUL.out HAX.out HXK.out (y := upd (shP p.off) x) (f := 43) (u := u) (by omega))
      have HSET := Lib.hid ((csP_set hax x.o x.d).2.2.2.2.2.2.2.2.2.2.2.1)
      clear hc hx hxm
      obtain ⟨xoff, hxo⟩ : ∃ z, z = x.p.off := ⟨_, rfl⟩
      rw [← hxo] at c1
      have HXO := Lib.hid hxo
      clear hxo
      have i2 : 0 ≤ (k : Int) := by omega
      have i3 : (k : Int) < (n : Int) := by omega
      have i4 : ((k : Int)).toNat = k := by omega
      have HL2 : Hid (LstP (wr.setCell ⟨xb, k * 46 + 43, none⟩ (.int .i64 (wrap64 (xoff + p.off)))) (.slice (some ⟨xb, 0, none⟩) n xc) (upto (shP p.off) (k + 1) xs)) := by
        show LstP _ _ _
        rw [← upto_succ _ _ _ HXX.out]
        exact HPUT.out _ (by rw [HXO.out]; exact HSET.out _)
      have HA2 : Hid (Away [xb] w3 (wr.setCell ⟨xb, k * 46 + 43, none⟩ (.int .i64 (wrap64 (xoff + p.off))))) := HAW.out.setCell (.inl (by simp)) _
      clear HPUT HSET
      go_wp2_with fail
      go_region
      clear c1 f1 c43
      generalize wr.setCell ⟨xb, k * 46 + 43, none⟩ (.int .i64 (wrap64 (xoff + p.off))) = wz at *
      go_wp2_with fail
      go_roundw
      case rel => exact ⟨k + 1, by go_num, by omega, HL2.out, HA2.out.drew⟩
      case measure => simp [intOf]; omega
    · obtain rfl : k = n := by omega
      have HL3 : Hid (LstP wr (.slice (some ⟨xb, 0, none⟩) k xc) (xs.map (upd (shP p.off)))) := by
        have := HL.out; rw [HN.out, upto_all, ← HN.out] at this; exact this
      have hml : (xs.map (upd (shP p.off))).length = k := by rw [List.length_map]; exact HN.out.symm
      have hma : ∀ x ∈ xs.map (upd (shP p.off)), Ad x.p := fun x hx => by
        obtain ⟨y, hy, rfl⟩ := List.mem_map.1 hx
        exact (HX.out.each y hy).1.ad
      obtain ⟨x, hx, hxm⟩ := get_of (show k - 1 < (xs.map (upd (shP p.off))).length by omega)
      have hax := hma x hxm
      have hc := lst_cell HL3.out hml hma hx ((csP_get hax x.o x.d).2.2.2.2.2.2.2.2.2.1)
      have c1 := hc.1; have f1 := hc.2
      have c41 := (HBr.out.cells HAD.out).more
      have HL4 : Hid (∀ b, LstP (wr.setCell ⟨xb, (k - 1) * 46 + 41, none⟩ (.bool b)) (.slice (some ⟨xb, 0, none⟩) k xc) ((xs.map (upd (shP p.off))).set (k - 1) (upd (moP b) x))) := fun b => lst_put HL3.out hml hma hx (by omega) ((csP_set hax x.o x.d).2.2.2.2.2.2.2.2.2.1 b)
      have HML := Lib.hid hml; have HGX := Lib.hid hx
      obtain ⟨xmo, hxmo⟩ : ∃ z, z = x.p.more := ⟨_, rfl⟩
      rw [← hxmo] at c1
      clear hc hx hxm hax hma hml hxmo
      have i2 : 0 ≤ (k : Int) - 1 := by omega
      have i3 : (k : Int) - 1 < (k : Int) := by omega
      have i4 : ((k : Int) - 1).toNat = k - 1 := by omega
      obtain ⟨pm, hpm⟩ : ∃ z, z = p.more := ⟨_, rfl⟩
      rw [← hpm] at c41
      have HPM := Lib.hid hpm
      clear hpm
      go_wp2_with fail
      go_ret2
      have hA3 : Away [xb] w3 (wr.setCell ⟨xb, (k - 1) * 46 + 41, none⟩ (.bool pm)) := HAW.out.setCell (.inl (by simp)) _
      refine ⟨_, _, rfl, cuts_like (HX.out.mono (by omega : w.heap.size ≤ _)) hA3 rfl (HL4.out pm) ?_ ?_, ?_, HA.out.next hA3 (fun x hx => .inr (by simp at hx; omega))⟩
      · rw [set_map_same (fun x : X => (x.p.o, x.p.d, x.o, x.d)) x (upd (moP pm) x) rfl _ _ HGX.out, List.map_map]
        rfl
      · intro y hy
        rcases List.mem_or_eq_of_mem_set hy with h | h
        · obtain ⟨z, hz, rfl⟩ := List.mem_map.1 h
          exact sh_wf (HX.out.each z hz).1 _
        · obtain ⟨z, hz, rfl⟩ := List.mem_map.1 (List.mem_of_getElem? HGX.out)
          rw [h]
          exact mo_wf (sh_wf (HX.out.each z hz).1 _) _
      · have e := lastM_set pm (xs.map (upd (shP p.off))) x (by rw [HML.out]; exact HGX.out)
        rw [HML.out] at e
        rw [e, HPM.out, recutL, ← HXM.out, List.map_map, List.map_map]
        rfl
end R
#print axioms R.pieces_c
end Go.Proofs.YtaicckenpplceaaGreatDoor

namespace Go.Proofs.YtaicckenpplceaaGreatDoor
open Go.ChangeShapes Go.WideShapes Go.ChangeAt Go.RowKit Num
set_option linter.unusedVariables false
set_option maxHeartbeats 4000000
set_option maxRecDepth 100000

namespace R
def RecOut (w : World) (p : Pk) (m : Int) (E : Ending) (w' : World) : Prop :=
  ∃ v xs, E = .returned (.tuple #[v, .int .i64 (recutP p m).2]) ∧ Cuts w' w.heap.size v xs ∧ xs.map X.p = (recutP p m).1 ∧ Away [] w w'
theorem long_zero (p : Pk) : longP p = 0 ↔ rgtP p = false := by
  have := long_pos p
  rw [long_eq] at this ⊢
  by_cases h : rgtP p = true
  · rw [if_pos h] at this ⊢
    have h2 := this.2 h
    simp only [h, Bool.true_eq_false, iff_false]
    omega
  · rw [if_neg h]
    simp [h]
theorem recut_c (p : Pk) (ov dv : Value) (m : Int) (w : World) (hp : Pkt w p ov dv) (hg : Glob w) :
    Calls Tryz.prog 24 #[.agg (csP p ov dv), .int .i64 m] w fun E w' => RecOut w p m E w' := by
  have HAD := Lib.hid hp.wf.ad
  have HP := Lib.hid hp; have HG := Lib.hid hg
  have KL : Hid (∀ w', Away [] w w' → Calls Tryz.prog 17 #[.agg (csP p ov dv)] w' fun E w'' => E = .returned (.int .i64 (longP p)) ∧ Away [] w' w'') := fun w' h => length_c p ov dv w' (hp.on h) (hg.on h)
  have KO : Hid (∀ w', Away [] w w' → Calls Tryz.prog 40 #[.agg (csP p ov dv)] w' fun E w'' => OwnOut w' p E w'') := fun w' h => copyP_c p ov dv w' (hp.on h)
  have HW := Lib.hid hp.wf
  clear hp hg
  go_enter Tryz.func24, Tryz.ntmps24
  go_wp2_with (refine wpList_box28 rfl _ rfl p _ _ rfl ?_; refine Hid.out ?_)
  refine Lib.hid ?_
  intro g w1 hg1 hb haw
  have HA : Hid (Away [] w w1) := haw
  have HB : Hid (BoxP w1 g p ov dv) := hb
  have hlg := hb.lt
  have hs1 := haw.size
  clear hb haw
  go_wp2_with (refine wpList_load28 rfl _ rfl g rfl p _ _ (by exact HB.out) HAD.out ?_)
  refine (KL.out _ HA.out).mono ?_
  rintro E w2 ⟨rfl, haw⟩
  replace HB := Lib.hid (HB.out.on haw)
  replace HA := Lib.hid (HA.out.on haw)
  have hs2 := haw.size
  clear haw KL
  obtain ⟨n, hn⟩ : ∃ n, n = longP p := ⟨_, rfl⟩
  rw [← hn]
  have HN := Lib.hid hn
  clear hn
  by_cases hz : n = 0
  · have HE : Hid (recutP p m = ([], 1)) := by
      show _ = _
      have := (long_zero p).1 (HN.out ▸ hz)
      unfold recutP; rw [if_neg (by rw [this]; simp)]
    subst hz
    go_wp2_with fail
    go_ret2
    exact ⟨_, [], by rw [HE.out]; rfl, Cuts.nil _ _, by rw [HE.out]; rfl, HA.out⟩
  have HR : Hid (rgtP p = true) := by
    show _ = _
    by_cases h : rgtP p = true
    · exact h
    · exact absurd ((long_zero p).2 (by simpa using h)) (HN.out ▸ hz)
  have dz : decide (n = 0) = false := by simp [hz]
  obtain ⟨bm, hbm⟩ : ∃ bm, bm = mtuP m 4 := ⟨_, rfl⟩
  have HBM := Lib.hid hbm
  have KM : Hid (∀ w', Calls Tryz.prog 39 #[.int .i64 m] w' fun E w'' => E = .returned (.bool bm) ∧ w'' = w') := fun w' => by rw [hbm]; exact mtu_c m w'
  clear hbm
  go_wp2_with fail
  refine (KM.out _).mono ?_
  rintro E w3 ⟨rfl, rfl⟩
  clear KM dz
  cases bm
  · have HE : Hid (recutP p m = ([], 1)) := by
      show _ = _
      unfold recutP; rw [if_neg (by rw [← HBM.out]; simp)]
    go_wp2_with fail
    go_ret2
    exact ⟨_, [], by rw [HE.out]; rfl, Cuts.nil _ _, by rw [HE.out]; rfl, HA.out⟩
  have HE : Hid (recutP p m = (if n ≤ m then ([p], 0) else if p.v = 6 ∨ p.df = true then ([], 100) else (recutL p m, 0))) := by
    show _ = _
    unfold recutP; rw [if_pos ⟨HR.out, HBM.out.symm⟩, ← HN.out]
  by_cases hf : n ≤ m
  · rw [if_pos hf] at HE
    have df : decide (n ≤ m) = true := by simp [hf]
    go_wp2_with (refine wpList_load28 rfl _ rfl g rfl p _ _ (by exact HB.out) HAD.out ?_)
    refine (KO.out _ HA.out).mono ?_
    rintro E w4 ⟨oq, dq, rfl, hmine, haw⟩
    have HMQ := Lib.hid hmine
    replace HA := Lib.hid (HA.out.next haw (by simp))
    have hs4 := haw.size
    clear hmine haw KO HB
    go_wp2_with (refine wpList_build28 rfl _ rfl p oq dq rfl HAD.out ?_; refine Hid.out ?_)
    refine Lib.hid ?_
    intro gq w5 hgq hbq haw
    have HC5 : Hid (Cuts w5 w.heap.size (.slice (some ⟨gq, 0, none⟩) 1 1) [⟨p, oq, dq⟩]) := Cuts.one hbq HW.out ((HMQ.out.on haw).mono (by omega)) (by omega) (fun k hk => by have := (HMQ.out.lto k hk).1; omega)
    replace HA := Lib.hid (HA.out.next haw (by simp))
    clear hgq hbq haw
    go_wp2_with fail
    go_ret2
    exact ⟨_, _, by rw [HE.out]; rfl, HC5.out, by rw [HE.out]; rfl, HA.out⟩
  rw [if_neg hf] at HE
  have df : decide (n ≤ m) = false := by simp; omega
  have c0 := (HB.out.cells HAD.out).v
  have c40 := (HB.out.cells HAD.out).df
  by_cases hv : p.v = 6
  · rw [if_pos (.inl hv)] at HE
    rw [hv] at c0
    have HV := Lib.hid hv
    clear hv
    go_wp2_with fail
    go_ret2
    exact ⟨_, [], by rw [HE.out]; rfl, Cuts.nil _ _, by rw [HE.out]; rfl, HA.out⟩
  obtain ⟨pv, hpv⟩ : ∃ z, z = p.v := ⟨_, rfl⟩
  rw [← hpv] at c0 hv
  have HPV := Lib.hid hpv
  clear hpv
  have dv6 : decide (pv = 6) = false := by simp [hv]
  obtain ⟨pd, hpd⟩ : ∃ z, z = p.df := ⟨_, rfl⟩
  rw [← hpd] at c40
  have HPD := Lib.hid hpd
  clear hpd
  cases pd
  · have KPC : Hid (∀ w', Away [] w w' → Calls Tryz.prog 41 #[.agg (csP p ov dv), .int .i64 m] w' fun E w'' => ∃ v xs, E = .returned (.tuple #[v, .int .i64 0]) ∧ Cuts w'' w'.heap.size v xs ∧ xs.map X.p = recutL p m ∧ Away [] w' w'') := fun w' h => pieces_c p ov dv m w' (HP.out.on h) (HG.out.on h) HR.out HBM.out.symm (by rw [← HN.out]; exact hf) (by rw [← HPV.out]; exact hv) HPD.out.symm
    rw [if_neg (by rw [← HPV.out, ← HPD.out]; simp [hv])] at HE
    go_wp2_with (refine wpList_load28 rfl _ rfl g rfl p _ _ (by exact HB.out) HAD.out ?_)
    refine (KPC.out _ HA.out).mono ?_
    rintro E w4 ⟨v, xs, rfl, hcu, hxm, haw⟩
    have HC4 := Lib.hid (hcu.mono (by omega : w.heap.size ≤ _))
    have HX4 := Lib.hid hxm
    replace HA := Lib.hid (HA.out.next haw (by simp))
    clear hcu hxm haw KPC
    go_wp2_with fail
    go_ret2
    refine ⟨v, xs, by rw [HE.out]; rfl, HC4.out, by rw [HE.out]; exact HX4.out, HA.out⟩
  · rw [if_pos (.inr HPD.out.symm)] at HE
    go_wp2_with fail
    go_ret2
    exact ⟨_, [], by rw [HE.out]; rfl, Cuts.nil _ _, by rw [HE.out]; rfl, HA.out⟩
end R
#print axioms R.recut_c
end Go.Proofs.YtaicckenpplceaaGreatDoor

namespace Go.Proofs.YtaicckenpplceaaGreatDoor
open Go.ChangeShapes Go.WideShapes Go.ChangeAt Go.RowKit Num
set_option linter.unusedVariables false
set_option maxHeartbeats 4000000
set_option maxRecDepth 100000

namespace R
theorem equal_c (p q : Pk) (ov dv ou du : Value) (w : World) (hp : Pkt w p ov dv) (hq : Pkt w q ou du) :
    Calls Tryz.prog 42 #[.agg (csP p ov dv), .agg (csP q ou du)] w fun E w' => E = .returned (.bool (dP p q)) ∧ Away [] w w' := by
  obtain ⟨z, hz⟩ : ∃ z, z = dP p q := ⟨_, rfl⟩
  rw [← hz]
  rw [eqPk] at hz
  have h24a := eq24 p.sv q.sv p.sb q.sb hp.wf.sl hq.wf.sl
  have h24b := eq24 p.dv q.dv p.db q.db hp.wf.dl hq.wf.dl
  obtain ⟨A1, hA1⟩ : ∃ A, A = csA p.sv p.sb := ⟨_, rfl⟩
  obtain ⟨A2, hA2⟩ : ∃ A, A = csA q.sv q.sb := ⟨_, rfl⟩
  obtain ⟨A3, hA3⟩ : ∃ A, A = csA p.dv p.db := ⟨_, rfl⟩
  obtain ⟨A4, hA4⟩ : ∃ A, A = csA q.dv q.db := ⟨_, rfl⟩
  rw [← hA1, ← hA2] at h24a
  rw [← hA3, ← hA4] at h24b
  have HC1 := Lib.hid hA1; have HC2 := Lib.hid hA2; have HC3 := Lib.hid hA3; have HC4 := Lib.hid hA4
  clear hA1 hA2 hA3 hA4
  have HAP := Lib.hid hp.wf.ad
  have HAQ := Lib.hid hq.wf.ad
  have hl1 := hp.wf.sl; have hl2 := hp.wf.dl; have hl3 := hq.wf.sl; have hl4 := hq.wf.dl
  have KO : Hid (∀ w', Away [] w w' → Calls Tryz.prog 63 #[ov, ou] w' fun E w'' => E = .returned (.bool (decide (p.o = q.o))) ∧ w'' = w') := by
    obtain ⟨a1, c1, rfl, x1, y1, z1⟩ := hp.o
    obtain ⟨a2, c2, rfl, x2, y2, z2⟩ := hq.o
    intro w' h
    exact bequal_any a1 a2 p.o q.o _ _ c1 c2 w' rfl rfl y1 y2 (z1.away h (by simp)) (z2.away h (by simp))
  have KD : Hid (∀ w', Away [] w w' → Calls Tryz.prog 63 #[dv, du] w' fun E w'' => E = .returned (.bool (decide (p.d = q.d))) ∧ w'' = w') := by
    obtain ⟨a1, c1, rfl, x1, y1, z1⟩ := hp.d
    obtain ⟨a2, c2, rfl, x2, y2, z2⟩ := hq.d
    intro w' h
    exact bequal_any a1 a2 p.d q.d _ _ c1 c2 w' rfl rfl y1 y2 (z1.away h (by simp)) (z2.away h (by simp))
  obtain ⟨-, ⟨o1, o2, rfl, -⟩, ⟨o3, o4, rfl, -⟩⟩ := hp
  obtain ⟨-, ⟨o5, o6, rfl, -⟩, ⟨o7, o8, rfl, -⟩⟩ := hq
  have HZ := Lib.hid hz
  clear hz
  have ev : (p.v == q.v) = decide (p.v = q.v) := rfl
  have etos : (p.tos == q.tos) = decide (p.tos = q.tos) := rfl
  have eflow : (p.flow == q.flow) = decide (p.flow = q.flow) := rfl
  have eproto : (p.proto == q.proto) = decide (p.proto = q.proto) := rfl
  have ettl : (p.ttl == q.ttl) = decide (p.ttl = q.ttl) := rfl
  have eid : (p.id == q.id) = decide (p.id = q.id) := rfl
  have edf : (p.df == q.df) = decide (p.df = q.df) := by cases p.df <;> cases q.df <;> rfl
  have emore : (p.more == q.more) = decide (p.more = q.more) := by cases p.more <;> cases q.more <;> rfl
  have efrag : (p.frag == q.frag) = decide (p.frag = q.frag) := by cases p.frag <;> cases q.frag <;> rfl
  have eoff : (p.off == q.off) = decide (p.off = q.off) := rfl
  generalize hb1 : decide (p.v = q.v) = b1 at HZ ev
  generalize hb2 : decide (p.tos = q.tos) = b2 at HZ etos
  generalize hb3 : decide (p.flow = q.flow) = b3 at HZ eflow
  generalize hb4 : (decide (p.sv = q.sv) && eqL p.sb q.sb) = b4 at HZ h24a
  clear hb4
  generalize hb5 : (decide (p.dv = q.dv) && eqL p.db q.db) = b5 at HZ h24b
  clear hb5
  generalize hb6 : decide (p.proto = q.proto) = b6 at HZ eproto
  generalize hb7 : decide (p.ttl = q.ttl) = b7 at HZ ettl
  generalize hb8 : decide (p.id = q.id) = b8 at HZ eid
  generalize hb9 : decide (p.df = q.df) = b9 at HZ edf
  generalize hb10 : decide (p.more = q.more) = b10 at HZ emore
  generalize hb11 : decide (p.frag = q.frag) = b11 at HZ efrag
  generalize hb12 : decide (p.off = q.off) = b12 at HZ eoff
  generalize hb13 : decide (p.o = q.o) = b13 at HZ KO
  clear hb13
  generalize hb14 : decide (p.d = q.d) = b14 at HZ KD
  clear hb14
  have H24A := Lib.hid h24a
  have H24B := Lib.hid h24b
  clear h24a h24b
  go_enter Tryz.func42, Tryz.ntmps42
  simp only [List.append_eq, List.cons_append, List.nil_append]
  go_wp2_with (refine wpList_box28 rfl _ rfl p _ _ rfl ?_; refine Hid.out ?_)
  refine Lib.hid ?_
  intro gp w1 hg1 hbp haw1
  go_wp2_with (first | (refine wpList_box28 rfl _ rfl q _ _ rfl ?_; refine Hid.out ?_))
  refine Lib.hid ?_
  intro gq w2 hg2 hbq haw2
  have HBP := Lib.hid (hbp.on haw2)
  have HBQ := Lib.hid hbq
  have HA := Lib.hid (haw1.next haw2 (by simp))
  clear hbp hbq haw1 haw2 hg1 hg2
  have cp := HBP.out.cells HAP.out
  have cq := HBQ.out.cells HAQ.out
  have p_v := cp.v; have q_v := cq.v
  have p_tos := cp.tos; have q_tos := cq.tos
  have p_flow := cp.flow; have q_flow := cq.flow
  have p_proto := cp.proto; have q_proto := cq.proto
  have p_ttl := cp.ttl; have q_ttl := cq.ttl
  have p_id := cp.id; have q_id := cq.id
  have p_df := cp.df; have q_df := cq.df
  have p_more := cp.more; have q_more := cq.more
  have p_frag := cp.frag; have q_frag := cq.frag
  have p_off := cp.off; have q_off := cq.off
  have p_o := cp.o; have q_o := cq.o
  have p_d := cp.d; have q_d := cq.d
  have HR1 := Lib.hid HBP.out.srow
  have HR2 := Lib.hid HBQ.out.srow
  have HR3 := Lib.hid (HBP.out.drow HAP.out)
  have HR4 := Lib.hid (HBQ.out.drow HAQ.out)
  clear cp cq HBP HBQ
  cases b1
  · obtain rfl : z = false := by rw [HZ.out]; rfl
    go_wp2_with fail
    go_ret
    exact ⟨rfl, HA.out⟩
  cases b2
  · obtain rfl : z = false := by rw [HZ.out]; rfl
    go_wp2_with fail
    go_ret
    exact ⟨rfl, HA.out⟩
  cases b3
  · obtain rfl : z = false := by rw [HZ.out]; rfl
    go_wp2_with fail
    go_ret
    exact ⟨rfl, HA.out⟩
  cases b4
  · obtain rfl : z = false := by rw [HZ.out]; rfl
    go_wp2_with (refine wpList_load24r _ rfl gp 3 rfl p.sv p.sb A1 HC1.out (by exact HR1.out) hl1 rfl ?_; refine Hid.out ?_)
    refine Lib.hid ?_
    go_wp2_with (refine wpList_load24r _ rfl gq 3 rfl q.sv q.sb A2 HC2.out (by exact HR2.out) hl3 rfl ?_; refine Hid.out ?_)
    refine Lib.hid ?_
    go_wp2_with (refine wpList_eq24 _ _ rfl A1 A2 rfl rfl _ H24A.out rfl ?_; refine Hid.out ?_)
    refine Lib.hid ?_
    go_wp2_with fail
    go_ret
    exact ⟨rfl, HA.out⟩
  cases b5
  · obtain rfl : z = false := by rw [HZ.out]; rfl
    go_wp2_with (refine wpList_load24r _ rfl gp 3 rfl p.sv p.sb A1 HC1.out (by exact HR1.out) hl1 rfl ?_; refine Hid.out ?_)
    refine Lib.hid ?_
    go_wp2_with (refine wpList_load24r _ rfl gq 3 rfl q.sv q.sb A2 HC2.out (by exact HR2.out) hl3 rfl ?_; refine Hid.out ?_)
    refine Lib.hid ?_
    go_wp2_with (refine wpList_eq24 _ _ rfl A1 A2 rfl rfl _ H24A.out rfl ?_; refine Hid.out ?_)
    refine Lib.hid ?_
    go_wp2_with (refine wpList_load24r _ rfl gp 20 rfl p.dv p.db A3 HC3.out (by exact HR3.out) hl2 rfl ?_; refine Hid.out ?_)
    refine Lib.hid ?_
    go_wp2_with (refine wpList_load24r _ rfl gq 20 rfl q.dv q.db A4 HC4.out (by exact HR4.out) hl4 rfl ?_; refine Hid.out ?_)
    refine Lib.hid ?_
    go_wp2_with (refine wpList_eq24 _ _ rfl A3 A4 rfl rfl _ H24B.out rfl ?_; refine Hid.out ?_)
    refine Lib.hid ?_
    go_wp2_with fail
    go_ret
    exact ⟨rfl, HA.out⟩
  cases b6
  · obtain rfl : z = false := by rw [HZ.out]; rfl
    go_wp2_with (refine wpList_load24r _ rfl gp 3 rfl p.sv p.sb A1 HC1.out (by exact HR1.out) hl1 rfl ?_; refine Hid.out ?_)
    refine Lib.hid ?_
    go_wp2_with (refine wpList_load24r _ rfl gq 3 rfl q.sv q.sb A2 HC2.out (by exact HR2.out) hl3 rfl ?_; refine Hid.out ?_)
    refine Lib.hid ?_
    go_wp2_with (refine wpList_eq24 _ _ rfl A1 A2 rfl rfl _ H24A.out rfl ?_; refine Hid.out ?_)
    refine Lib.hid ?_
    go_wp2_with (refine wpList_load24r _ rfl gp 20 rfl p.dv p.db A3 HC3.out (by exact HR3.out) hl2 rfl ?_; refine Hid.out ?_)
    refine Lib.hid ?_
    go_wp2_with (refine wpList_load24r _ rfl gq 20 rfl q.dv q.db A4 HC4.out (by exact HR4.out) hl4 rfl ?_; refine Hid.out ?_)
    refine Lib.hid ?_
    go_wp2_with (refine wpList_eq24 _ _ rfl A3 A4 rfl rfl _ H24B.out rfl ?_; refine Hid.out ?_)
    refine Lib.hid ?_
    go_wp2_with fail
    go_ret
    exact ⟨rfl, HA.out⟩
  cases b7
  · obtain rfl : z = false := by rw [HZ.out]; rfl
    go_wp2_with (refine wpList_load24r _ rfl gp 3 rfl p.sv p.sb A1 HC1.out (by exact HR1.out) hl1 rfl ?_; refine Hid.out ?_)
    refine Lib.hid ?_
    go_wp2_with (refine wpList_load24r _ rfl gq 3 rfl q.sv q.sb A2 HC2.out (by exact HR2.out) hl3 rfl ?_; refine Hid.out ?_)
    refine Lib.hid ?_
    go_wp2_with (refine wpList_eq24 _ _ rfl A1 A2 rfl rfl _ H24A.out rfl ?_; refine Hid.out ?_)
    refine Lib.hid ?_
    go_wp2_with (refine wpList_load24r _ rfl gp 20 rfl p.dv p.db A3 HC3.out (by exact HR3.out) hl2 rfl ?_; refine Hid.out ?_)
    refine Lib.hid ?_
    go_wp2_with (refine wpList_load24r _ rfl gq 20 rfl q.dv q.db A4 HC4.out (by exact HR4.out) hl4 rfl ?_; refine Hid.out ?_)
    refine Lib.hid ?_
    go_wp2_with (refine wpList_eq24 _ _ rfl A3 A4 rfl rfl _ H24B.out rfl ?_; refine Hid.out ?_)
    refine Lib.hid ?_
    go_wp2_with fail
    go_ret
    exact ⟨rfl, HA.out⟩
  cases b8
  · obtain rfl : z = false := by rw [HZ.out]; rfl
    go_wp2_with (refine wpList_load24r _ rfl gp 3 rfl p.sv p.sb A1 HC1.out (by exact HR1.out) hl1 rfl ?_; refine Hid.out ?_)
    refine Lib.hid ?_
    go_wp2_with (refine wpList_load24r _ rfl gq 3 rfl q.sv q.sb A2 HC2.out (by exact HR2.out) hl3 rfl ?_; refine Hid.out ?_)
    refine Lib.hid ?_
    go_wp2_with (refine wpList_eq24 _ _ rfl A1 A2 rfl rfl _ H24A.out rfl ?_; refine Hid.out ?_)
    refine Lib.hid ?_
    go_wp2_with (refine wpList_load24r _ rfl gp 20 rfl p.dv p.db A3 HC3.out (by exact HR3.out) hl2 rfl ?_; refine Hid.out ?_)
    refine Lib.hid ?_
    go_wp2_with (refine wpList_load24r _ rfl gq 20 rfl q.dv q.db A4 HC4.out (by exact HR4.out) hl4 rfl ?_; refine Hid.out ?_)
    refine Lib.hid ?_
    go_wp2_with (refine wpList_eq24 _ _ rfl A3 A4 rfl rfl _ H24B.out rfl ?_; refine Hid.out ?_)
    refine Lib.hid ?_
    go_wp2_with fail
    go_ret
    exact ⟨rfl, HA.out⟩
  cases b9
  · obtain rfl : z = false := by rw [HZ.out]; rfl
    go_wp2_with (refine wpList_load24r _ rfl gp 3 rfl p.sv p.sb A1 HC1.out (by exact HR1.out) hl1 rfl ?_; refine Hid.out ?_)
    refine Lib.hid ?_
    go_wp2_with (refine wpList_load24r _ rfl gq 3 rfl q.sv q.sb A2 HC2.out (by exact HR2.out) hl3 rfl ?_; refine Hid.out ?_)
    refine Lib.hid ?_
    go_wp2_with (refine wpList_eq24 _ _ rfl A1 A2 rfl rfl _ H24A.out rfl ?_; refine Hid.out ?_)
    refine Lib.hid ?_
    go_wp2_with (refine wpList_load24r _ rfl gp 20 rfl p.dv p.db A3 HC3.out (by exact HR3.out) hl2 rfl ?_; refine Hid.out ?_)
    refine Lib.hid ?_
    go_wp2_with (refine wpList_load24r _ rfl gq 20 rfl q.dv q.db A4 HC4.out (by exact HR4.out) hl4 rfl ?_; refine Hid.out ?_)
    refine Lib.hid ?_
    go_wp2_with (refine wpList_eq24 _ _ rfl A3 A4 rfl rfl _ H24B.out rfl ?_; refine Hid.out ?_)
    refine Lib.hid ?_
    go_wp2_with fail
    go_ret
    exact ⟨rfl, HA.out⟩
  cases b10
  · obtain rfl : z = false := by rw [HZ.out]; rfl
    go_wp2_with (refine wpList_load24r _ rfl gp 3 rfl p.sv p.sb A1 HC1.out (by exact HR1.out) hl1 rfl ?_; refine Hid.out ?_)
    refine Lib.hid ?_
    go_wp2_with (refine wpList_load24r _ rfl gq 3 rfl q.sv q.sb A2 HC2.out (by exact HR2.out) hl3 rfl ?_; refine Hid.out ?_)
    refine Lib.hid ?_
    go_wp2_with (refine wpList_eq24 _ _ rfl A1 A2 rfl rfl _ H24A.out rfl ?_; refine Hid.out ?_)
    refine Lib.hid ?_
    go_wp2_with (refine wpList_load24r _ rfl gp 20 rfl p.dv p.db A3 HC3.out (by exact HR3.out) hl2 rfl ?_; refine Hid.out ?_)
    refine Lib.hid ?_
    go_wp2_with (refine wpList_load24r _ rfl gq 20 rfl q.dv q.db A4 HC4.out (by exact HR4.out) hl4 rfl ?_; refine Hid.out ?_)
    refine Lib.hid ?_
    go_wp2_with (refine wpList_eq24 _ _ rfl A3 A4 rfl rfl _ H24B.out rfl ?_; refine Hid.out ?_)
    refine Lib.hid ?_
    go_wp2_with fail
    go_ret
    exact ⟨rfl, HA.out⟩
  cases b11
  · obtain rfl : z = false := by rw [HZ.out]; rfl
    go_wp2_with (refine wpList_load24r _ rfl gp 3 rfl p.sv p.sb A1 HC1.out (by exact HR1.out) hl1 rfl ?_; refine Hid.out ?_)
    refine Lib.hid ?_
    go_wp2_with (refine wpList_load24r _ rfl gq 3 rfl q.sv q.sb A2 HC2.out (by exact HR2.out) hl3 rfl ?_; refine Hid.out ?_)
    refine Lib.hid ?_
    go_wp2_with (refine wpList_eq24 _ _ rfl A1 A2 rfl rfl _ H24A.out rfl ?_; refine Hid.out ?_)
    refine Lib.hid ?_
    go_wp2_with (refine wpList_load24r _ rfl gp 20 rfl p.dv p.db A3 HC3.out (by exact HR3.out) hl2 rfl ?_; refine Hid.out ?_)
    refine Lib.hid ?_
    go_wp2_with (refine wpList_load24r _ rfl gq 20 rfl q.dv q.db A4 HC4.out (by exact HR4.out) hl4 rfl ?_; refine Hid.out ?_)
    refine Lib.hid ?_
    go_wp2_with (refine wpList_eq24 _ _ rfl A3 A4 rfl rfl _ H24B.out rfl ?_; refine Hid.out ?_)
    refine Lib.hid ?_
    go_wp2_with fail
    go_ret
    exact ⟨rfl, HA.out⟩
  cases b12
  · obtain rfl : z = false := by rw [HZ.out]; rfl
    go_wp2_with (refine wpList_load24r _ rfl gp 3 rfl p.sv p.sb A1 HC1.out (by exact HR1.out) hl1 rfl ?_; refine Hid.out ?_)
    refine Lib.hid ?_
    go_wp2_with (refine wpList_load24r _ rfl gq 3 rfl q.sv q.sb A2 HC2.out (by exact HR2.out) hl3 rfl ?_; refine Hid.out ?_)
    refine Lib.hid ?_
    go_wp2_with (refine wpList_eq24 _ _ rfl A1 A2 rfl rfl _ H24A.out rfl ?_; refine Hid.out ?_)
    refine Lib.hid ?_
    go_wp2_with (refine wpList_load24r _ rfl gp 20 rfl p.dv p.db A3 HC3.out (by exact HR3.out) hl2 rfl ?_; refine Hid.out ?_)
    refine Lib.hid ?_
    go_wp2_with (refine wpList_load24r _ rfl gq 20 rfl q.dv q.db A4 HC4.out (by exact HR4.out) hl4 rfl ?_; refine Hid.out ?_)
    refine Lib.hid ?_
    go_wp2_with (refine wpList_eq24 _ _ rfl A3 A4 rfl rfl _ H24B.out rfl ?_; refine Hid.out ?_)
    refine Lib.hid ?_
    go_wp2_with fail
    go_ret
    exact ⟨rfl, HA.out⟩
  go_wp2_with (refine wpList_load24r _ rfl gp 3 rfl p.sv p.sb A1 HC1.out (by exact HR1.out) hl1 rfl ?_; refine Hid.out ?_)
  refine Lib.hid ?_
  go_wp2_with (refine wpList_load24r _ rfl gq 3 rfl q.sv q.sb A2 HC2.out (by exact HR2.out) hl3 rfl ?_; refine Hid.out ?_)
  refine Lib.hid ?_
  go_wp2_with (refine wpList_eq24 _ _ rfl A1 A2 rfl rfl _ H24A.out rfl ?_; refine Hid.out ?_)
  refine Lib.hid ?_
  go_wp2_with (refine wpList_load24r _ rfl gp 20 rfl p.dv p.db A3 HC3.out (by exact HR3.out) hl2 rfl ?_; refine Hid.out ?_)
  refine Lib.hid ?_
  go_wp2_with (refine wpList_load24r _ rfl gq 20 rfl q.dv q.db A4 HC4.out (by exact HR4.out) hl4 rfl ?_; refine Hid.out ?_)
  refine Lib.hid ?_
  go_wp2_with (refine wpList_eq24 _ _ rfl A3 A4 rfl rfl _ H24B.out rfl ?_; refine Hid.out ?_)
  refine Lib.hid ?_
  go_wp2_with fail
  refine (KO.out _ HA.out).mono ?_
  rintro E w' ⟨rfl, rfl⟩
  cases b13
  · obtain rfl : z = false := by rw [HZ.out]; rfl
    go_wp2_with fail
    go_ret
    exact ⟨rfl, HA.out⟩
  go_wp2_with fail
  refine (KD.out _ HA.out).mono ?_
  rintro E w' ⟨rfl, rfl⟩
  obtain rfl : z = b14 := by rw [HZ.out]; rfl
  go_wp2_with fail
  go_ret
  exact ⟨rfl, HA.out⟩
end R
#print axioms R.equal_c
end Go.Proofs.YtaicckenpplceaaGreatDoor

namespace Go.Proofs.YtaicckenpplceaaGreatDoor
open Go.ChangeShapes Go.WideShapes Go.ChangeAt Go.RowKit Num S6
set_option linter.unusedVariables false
set_option maxHeartbeats 4000000
set_option maxRecDepth 100000

namespace R
def lastB : List Pk → Bool
  | [] => false
  | [q] => q.more
  | _ :: r :: s => lastB (r :: s)
theorem lastB_get : ∀ (xs : List X) (x : X), xs[xs.length - 1]? = some x → lastB (xs.map X.p) = x.p.more
  | [], x, h => by simp at h
  | [y], x, h => by simp at h; subst h; rfl
  | y :: z :: s, x, h => lastB_get (z :: s) x (by simpa using h)
def partR (p : Pk) (m : Int) (l : List Pk) : Bool := decide (lastB l = p.more) && isP (unP p) m (lastM false (l.map (shM p.off)))
def isR (p : Pk) (m : Int) : List Pk → Bool
  | [] => false
  | [q] => rgtP p && mtuP m 4 && (decide (longP p ≤ m) && dP q p)
  | q :: r :: s => rgtP p && mtuP m 4 && (decide (p.v = 4) && partR p m (q :: r :: s))
theorem ok_like {w : World} {x : X} {q : Pk} (h : x.ok w) (hw : Wf q) (ho : q.o = x.p.o) (hd : q.d = x.p.d) : X.ok w ⟨q, x.o, x.d⟩ := by
  refine ⟨hw, ?_, ?_⟩
  · show Sl w x.o q.o; rw [ho]; exact h.o
  · show Sl w x.d q.d; rw [hd]; exact h.d
set_option maxHeartbeats 8000000 in
theorem parted_c (p : Pk) (ov dv : Value) (m : Int) (a : Option Addr) (xs : List X) (n cap : Nat) (w : World) (hn : xs.length = n) (h1 : 1 ≤ n) (hp : Pkt w p ov dv) (hx : Pks w a xs) (hg : Glob w) :
    Calls Tryz.prog 43 #[.agg (csP p ov dv), .int .i64 m, .slice a n cap] w fun E w' => E = .returned (.bool (partR p m (xs.map X.p))) ∧ Away [] w w' := by
  have HAD := Lib.hid hp.wf.ad
  have HP := Lib.hid hp; have HG := Lib.hid hg; have HX := Lib.hid hx
  have hxl := hx.1
  have HN := Lib.hid hn
  rw [hn] at hxl
  obtain ⟨x, hxk, hxm⟩ := get_of (show n - 1 < xs.length by omega)
  obtain ⟨xb, xo, hxa, hrx, hokx⟩ := hx.at hxk
  subst hxa
  have hax := hokx.wf.ad
  have HC1 : Hid (w.cell? ⟨xb, xo + (n - 1) * 46 + 41, none⟩ = some (.bool x.p.more)) := hrx 41 _ (by
    have := (csP_get hax x.o x.d).2.2.2.2.2.2.2.2.2.1
    unfold csP at this; rw [List.getElem?_toArray] at this; exact this)
  have KC : Hid (∀ w', Away [] w w' → Calls Tryz.prog 10 #[.slice (some ⟨xb, xo, none⟩) n cap] w' fun E w'' => CloneOut w' xs n E w'') := fun w' h => clone_c _ xs n cap w' hn (by simp) (hx.on h)
  obtain ⟨z, hz⟩ : ∃ z, z = partR p m (xs.map X.p) := ⟨_, rfl⟩
  rw [← hz]
  have HZ : Hid (z = (decide (x.p.more = p.more) && isP (unP p) m (lastM false ((xs.map X.p).map (shM p.off))))) := by
    show _ = _
    rw [hz, partR, lastB_get xs x (by rw [hn]; exact hxk)]
  obtain ⟨xmo, hxmo⟩ : ∃ z, z = x.p.more := ⟨_, rfl⟩
  rw [← hxmo] at HC1 HZ
  clear hp hg hx hrx hokx hax hz hxk hxm hxmo hn x
  obtain ⟨pm, hpm⟩ : ∃ z, z = p.more := ⟨_, rfl⟩
  rw [← hpm] at HZ
  have HPM := Lib.hid hpm
  clear hpm
  go_enter Tryz.func43, Tryz.ntmps43
  go_wp2_with (refine wpList_box28 rfl _ rfl p _ _ rfl ?_; refine Hid.out ?_)
  refine Lib.hid ?_
  intro g w1 hg1 hb haw
  have HA : Hid (Away [] w w1) := haw
  have HB : Hid (BoxP w1 g p ov dv) := hb
  have hlg := hb.lt
  have hs1 := haw.size
  have c1 := haw.cell (by simp) HC1.out
  have c41 := (hb.cells HAD.out).more
  rw [← HPM.out] at c41
  clear hb haw HC1
  have i2 : 0 ≤ (n : Int) - 1 := by omega
  have i3 : (n : Int) - 1 < (n : Int) := by omega
  have i4 : ((n : Int) - 1).toNat = n - 1 := by omega
  by_cases hmo : xmo = pm
  · subst hmo
    have HZ2 : Hid (z = isP (unP p) m (lastM false ((xs.map X.p).map (shM p.off)))) := by show _ = _; rw [HZ.out]; simp
    clear HZ
    go_wp2_with fail
    go_region
    replace HB : Hid (BoxP w1.drew g p ov dv) := HB.out
    replace HA : Hid (Away [] w w1.drew) := HA.out.drew
    have hs1d : w1.drew.heap.size = w1.heap.size := rfl
    clear c1 c41
    generalize w1.drew = w2 at *
    go_wp2_with fail
    refine (KC.out _ HA.out).mono ?_
    rintro E w3 ⟨v, rfl, hl, hnew, haw, hv, -⟩
    obtain ⟨yb, yc, rfl⟩ := hv (by omega)
    have HL0 := Lib.hid hl
    have hyb : w2.heap.size ≤ yb := hnew yb rfl
    replace HB := Lib.hid (HB.out.on haw)
    replace HA := Lib.hid (HA.out.on haw)
    clear hl hnew haw hv KC
    have HOK0 : Hid (∀ x ∈ xs, x.ok w3) := fun x hx => (HX.out.2.1 x hx).on HA.out
    go_wp2_with fail
    go_loopw [25] (fun i wr => ∃ k : Nat, i = .int .i64 (k : Int) ∧ k ≤ n ∧ LstP wr (.slice (some ⟨yb, 0, none⟩) n yc) (upto (shM p.off) k xs) ∧ Away [yb] w3 wr) (fun i _ => n - (intOf i).toNat)
    case atStart => exact ⟨0, rfl, by omega, by rw [upto_zero]; exact HL0.out, Away.refl _ _⟩
    case round =>
      obtain ⟨k, rfl, hk, hl, haw⟩ := hrel
      have HL := Lib.hid hl; have HAW := Lib.hid haw
      clear hl haw
      have HBr := Lib.hid (HB.out.away HAW.out (by simp; omega))
      have HAX : Hid (∀ x ∈ upto (shM p.off) k xs, Ad x.p) := upto_mem _ _ _ Ad (fun x hx => (HOK0.out x hx).wf.ad) (fun x hx => (HOK0.out x hx).wf.ad)
      have HUL : Hid ((upto (shM p.off) k xs).length = n) := by show _ = _; rw [upto_len]; exact HN.out
      by_cases hlt : k < n
      · obtain ⟨x, hx, hxm⟩ := get_of (show k < xs.length by have := HN.out; omega)
        have HXK := Lib.hid (upto_get (shM p.off) k xs hx)
        have HXX := Lib.hid hx
        have hax := (HOK0.out x hxm).wf.ad
        have hc := lst_cell HL.out HUL.out HAX.out HXK.out ((csP_get hax x.o x.d).2.2.2.2.2.2.2.2.2.2.2.1)
        have c1 := hc.1; have f1 := hc.2
        have c43 := (HBr.out.cells HAD.out).off
        have HPUT := Lib.hid (fun u => lst_put HL.out HUL.out HAX.out HXK.out (y := upd (shM p.off) x) (f := 43) (u := u) (by omega))
        have HSET := Lib.hid ((csP_set hax x.o x.d).2.2.2.2.2.2.2.2.2.2.2.1)
        clear hc hx hxm i2 i3 i4
        obtain ⟨xoff, hxo⟩ : ∃ z, z = x.p.off := ⟨_, rfl⟩
        rw [← hxo] at c1
        have HXO := Lib.hid hxo
        clear hxo
        have i2 : 0 ≤ (k : Int) := by omega
        have i3 : (k : Int) < (n : Int) := by omega
        have i4 : ((k : Int)).toNat = k := by omega
        have HL2 : Hid (LstP (wr.setCell ⟨yb, k * 46 + 43, none⟩ (.int .i64 (wrap64 (xoff - p.off)))) (.slice (some ⟨yb, 0, none⟩) n yc) (upto (shM p.off) (k + 1) xs)) := by
          show LstP _ _ _
          rw [← upto_succ _ _ _ HXX.out]
          exact HPUT.out _ (by rw [HXO.out]; exact HSET.out _)
        have HA2 : Hid (Away [yb] w3 (wr.setCell ⟨yb, k * 46 + 43, none⟩ (.int .i64 (wrap64 (xoff - p.off))))) := HAW.out.setCell (.inl (by simp)) _
        clear HPUT HSET
        go_wp2_with fail
        go_region
        clear c1 f1 c43
        generalize wr.setCell ⟨yb, k * 46 + 43, none⟩ (.int .i64 (wrap64 (xoff - p.off))) = wz at *
        go_wp2_with fail
        go_roundw
        case rel => exact ⟨k + 1, by go_num, by omega, HL2.out, HA2.out.drew⟩
        case measure => simp [intOf]; omega
      · obtain rfl : k = n := by omega
        have HL3 : Hid (LstP wr (.slice (some ⟨yb, 0, none⟩) k yc) (xs.map (upd (shM p.off)))) := by
          have := HL.out; rw [← HN.out, upto_all, HN.out] at this; exact this
        have hml : (xs.map (upd (shM p.off))).length = k := by rw [List.length_map]; exact HN.out
        have hma : ∀ x ∈ xs.map (upd (shM p.off)), Ad x.p := fun x hx => by
          obtain ⟨y, hy, rfl⟩ := List.mem_map.1 hx
          exact (HOK0.out y hy).wf.ad
        obtain ⟨x, hx, hxm⟩ := get_of (show k - 1 < (xs.map (upd (shM p.off))).length by omega)
        have hax := hma x hxm
        have hc := lst_cell HL3.out hml hma hx ((csP_get hax x.o x.d).2.2.2.2.2.2.2.2.2.1)
        have c1 := hc.1; have f1 := hc.2
        have HL4 : Hid (LstP (wr.setCell ⟨yb, (k - 1) * 46 + 41, none⟩ (.bool false)) (.slice (some ⟨yb, 0, none⟩) k yc) ((xs.map (upd (shM p.off))).set (k - 1) (upd (moP false) x))) := lst_put HL3.out hml hma hx (by omega) ((csP_set hax x.o x.d).2.2.2.2.2.2.2.2.2.1 false)
        have hA3 : Away [yb] w3 (wr.setCell ⟨yb, (k - 1) * 46 + 41, none⟩ (.bool false)) := HAW.out.setCell (.inl (by simp)) _
        have HA3 : Hid (Away [] w (wr.setCell ⟨yb, (k - 1) * 46 + 41, none⟩ (.bool false))) := HA.out.next hA3 (fun x hx => .inr (by simp at hx; omega))
        have HB3 := Lib.hid (HB.out.away hA3 (by simp; omega))
        obtain ⟨ys, hys⟩ : ∃ ys, ys = (xs.map (upd (shM p.off))).set (k - 1) (upd (moP false) x) := ⟨_, rfl⟩
        rw [← hys] at HL4
        have HYM : Hid (ys.map X.p = lastM false ((xs.map X.p).map (shM p.off))) := by
          show _ = _
          have e := lastM_set false (xs.map (upd (shM p.off))) x (by rw [hml]; exact hx)
          rw [hml] at e
          rw [hys, e, List.map_map, List.map_map]
          rfl
        have HYL : Hid (ys.length = k) := by show _ = _; rw [hys, List.length_set, hml]
        have HYO : Hid (∀ y ∈ ys, y.ok w) := by
          intro y hy
          rw [hys] at hy
          rcases List.mem_or_eq_of_mem_set hy with h | h
          · obtain ⟨q, hq, rfl⟩ := List.mem_map.1 h
            exact ok_like (HX.out.2.1 q hq) (shM_wf (HX.out.2.1 q hq).wf _) rfl rfl
          · obtain ⟨q, hq, rfl⟩ := List.mem_map.1 (List.mem_of_getElem? hx)
            rw [h]
            exact ok_like (x := upd (shM p.off) q) (ok_like (HX.out.2.1 q hq) (shM_wf (HX.out.2.1 q hq).wf _) rfl rfl) (mo_wf (shM_wf (HX.out.2.1 q hq).wf _) _) rfl rfl
        obtain ⟨xmo2, hxmo2⟩ : ∃ z, z = x.p.more := ⟨_, rfl⟩
        rw [← hxmo2] at c1
        clear hc hx hxm hax hma hml hxmo2 hA3 hys HL HL3 HAX HUL HBr
        go_upto_region 11 with fail
        clear c1 f1
        generalize wr.setCell ⟨yb, (k - 1) * 46 + 41, none⟩ (.bool false) = wz at *
        go_wp2_with (refine wpList_load28 rfl _ rfl g rfl p _ _ (by exact HB3.out) HAD.out ?_)
        refine (unc_c p ov dv _ HAD.out HP.out.ov HP.out.dv).mono ?_
        rintro E w5 ⟨rfl, haw⟩
        have HA5 := Lib.hid (HA3.out.on haw)
        have HPK : Hid (Pks w5 (some ⟨yb, 0, none⟩) ys) := by
          obtain ⟨a', c', e, -, -, hpk, -⟩ := (HL4.out.on haw).pks (by rw [HYL.out]; exact hxl) (fun y hy => (HYO.out y hy).on HA5.out)
          simp only [Value.slice.injEq] at e
          rw [e.1]; exact hpk
        clear haw
        have HPU : Hid (Pkt w5 (unP p) ov dv) := ⟨un_wf HP.out.wf, (HP.out.on HA5.out).o, (HP.out.on HA5.out).d⟩
        go_wp2_with fail
        refine (is_c (unP p) ov dv m _ ys k yc _ HYL.out HPU.out HPK.out (HG.out.on HA5.out)).mono ?_
        rw [HYM.out, ← HZ2.out]
        rintro E w6 ⟨rfl, haw⟩
        have HA6 := Lib.hid (HA5.out.on haw)
        clear haw
        go_wp2_with fail
        go_ret
        exact ⟨rfl, HA6.out⟩
  · obtain rfl : z = false := by rw [HZ.out, decide_eq_false hmo]; rfl
    obtain rfl : xmo = !pm := by cases xmo <;> cases pm <;> simp_all
    clear hmo HZ HPM
    cases pm
    · go_wp2_with fail
      go_region
      replace HA : Hid (Away [] w w1.drew) := HA.out.drew
      clear c1 c41
      generalize w1.drew = w2 at *
      go_wp2_with fail
      go_ret
      exact ⟨rfl, HA.out⟩
    · go_wp2_with fail
      go_region
      replace HA : Hid (Away [] w w1.drew) := HA.out.drew
      clear c1 c41
      generalize w1.drew = w2 at *
      go_wp2_with fail
      go_ret
      exact ⟨rfl, HA.out⟩
theorem is_c (p : Pk) (ov dv : Value) (m : Int) (a : Option Addr) (xs : List X) (len cap : Nat) (w : World) (hlen : xs.length = len) (hp : Pkt w p ov dv) (hx : Pks w a xs) (hg : Glob w) :
    Calls Tryz.prog 25 #[.agg (csP p ov dv), .int .i64 m, .slice a len cap] w fun E w' => E = .returned (.bool (isR p m (xs.map X.p))) ∧ Away [] w w' := by
  have HAD := Lib.hid hp.wf.ad
  have HP := Lib.hid hp; have HG := Lib.hid hg
  have KL : Hid (∀ w', Away [] w w' → Calls Tryz.prog 17 #[.agg (csP p ov dv)] w' fun E w'' => E = .returned (.int .i64 (longP p)) ∧ Away [] w' w'') := fun w' h => length_c p ov dv w' (hp.on h) (hg.on h)
  have HX := Lib.hid hx
  have hxl := hx.1
  clear hp hg hx
  subst hlen
  obtain ⟨z, hz⟩ : ∃ z, z = isR p m (xs.map X.p) := ⟨_, rfl⟩
  rw [← hz]
  have HZ := Lib.hid hz
  clear hz
  go_enter Tryz.func25, Tryz.ntmps25
  go_wp2_with (refine wpList_box28 rfl _ rfl p _ _ rfl ?_; refine Hid.out ?_)
  refine Lib.hid ?_
  intro g w1 hg1 hb haw
  have HA : Hid (Away [] w w1) := haw
  have HB : Hid (BoxP w1 g p ov dv) := hb
  clear hb haw
  go_wp2_with (refine wpList_load28 rfl _ rfl g rfl p _ _ (by exact HB.out) HAD.out ?_)
  refine (KL.out _ HA.out).mono ?_
  rintro E w2 ⟨rfl, haw⟩
  replace HB := Lib.hid (HB.out.on haw)
  replace HA := Lib.hid (HA.out.on haw)
  clear haw KL
  obtain ⟨n, hn⟩ : ∃ n, n = longP p := ⟨_, rfl⟩
  rw [← hn]
  have HN := Lib.hid hn
  clear hn
  by_cases hz : n = 0
  · obtain rfl : z = false := by
      have := (long_zero p).1 (HN.out ▸ hz)
      rw [HZ.out]
      rcases xs with _ | ⟨x, _ | ⟨y, r⟩⟩ <;> simp [isR, this]
    subst hz
    go_wp2_with fail
    go_ret
    exact ⟨rfl, HA.out⟩
  have HR : Hid (rgtP p = true) := by
    show _ = _
    by_cases h : rgtP p = true
    · exact h
    · exact absurd ((long_zero p).2 (by simpa using h)) (HN.out ▸ hz)
  have dz : decide (n = 0) = false := by simp [hz]
  obtain ⟨bm, hbm⟩ : ∃ bm, bm = mtuP m 4 := ⟨_, rfl⟩
  have HBM := Lib.hid hbm
  have KM : Hid (∀ w', Calls Tryz.prog 39 #[.int .i64 m] w' fun E w'' => E = .returned (.bool bm) ∧ w'' = w') := fun w' => by rw [hbm]; exact mtu_c m w'
  clear hbm
  go_wp2_with fail
  refine (KM.out _).mono ?_
  rintro E w3 ⟨rfl, rfl⟩
  clear KM dz
  cases bm
  · obtain rfl : z = false := by
      rw [HZ.out]
      rcases xs with _ | ⟨x, _ | ⟨y, r⟩⟩ <;> simp [isR, ← HBM.out]
    go_wp2_with fail
    go_ret
    exact ⟨rfl, HA.out⟩
  match xs, HX, HZ with
  | [], HX, HZ =>
    obtain rfl : z = false := HZ.out
    simp only [List.length_nil] at *
    go_wp2_with fail
    go_ret
    exact ⟨rfl, HA.out⟩
  | [x], HX, HZ =>
    obtain ⟨q, qo, qd⟩ := x
    obtain ⟨xb, xo, hxa, hrx, hokx⟩ := HX.out.at (i := 0) rfl
    subst hxa
    replace hokx : Pkt w q qo qd := hokx
    have HOK := Lib.hid hokx
    have HAQ := Lib.hid hokx.wf.ad
    have hrx2 : w.rangeAt xb xo (listP q qo qd) := by simpa [X.cells] using hrx
    have HRX := Lib.hid hrx2
    clear hrx2
    have HZ3 : Hid (z = (decide (n ≤ m) && dP q p)) := by
      show _ = _
      rw [HZ.out]; simp only [List.map_cons, List.map_nil, isR, HR.out, ← HBM.out, ← HN.out, Bool.true_and]
    clear HZ hrx hokx HX
    obtain ⟨be, hbe⟩ : ∃ be, be = dP q p := ⟨_, rfl⟩
    rw [← hbe] at HZ3
    have K2 : Hid (∀ W, (Away [] w3 W ∧ BoxP W g p ov dv) → Calls Tryz.prog 42 #[.agg (csP q qo qd), .agg (csP p ov dv)] W fun E w'' => E = .returned (.bool be) ∧ (Away [] w3 w'' ∧ BoxP w'' g p ov dv)) := fun W hW => by
      rw [hbe]; exact (equal_c q p qo qd ov dv W ((HOK.out.on HA.out).on hW.1) ((HP.out.on HA.out).on hW.1)).mono fun E w'' h => ⟨h.1, hW.1.on h.2, hW.2.on h.2⟩
    have HC : Hid (Away [] w3 w3.drew ∧ BoxP w3.drew g p ov dv) := ⟨(Away.refl [] w3).drew, HB.out⟩
    clear hbe
    simp only [List.length_cons, List.length_nil] at *
    obtain ⟨bf, hbf⟩ : ∃ bf, bf = decide (n ≤ m) := ⟨_, rfl⟩
    rw [← hbf] at HZ3
    have dbf := hbf.symm
    clear hbf
    go_wp2_with fail
    refine wp_region_cls (C := fun w' => Away [] w3 w' ∧ BoxP w' g p ov dv) (by kernel_rfl) (by kernel_rfl) HC.out ?_
    go_big_quiet_want; (refine quiet_val ?_ ?_ ?_; rotate_left; (intro w; go_simp; rfl); go_simp; go_big_quiet_on)
    go_big_quiet_want; (refine quiet_val ?_ ?_ ?_; rotate_left; (intro w; go_simp; rfl); go_simp; go_big_quiet_on)
    go_big_quiet_want; (refine quiet_val ?_ ?_ ?_; rotate_left; (intro w; go_simp; rfl); go_simp; go_big_quiet_on)
    go_big_quiet_want; (refine quiet_val ?_ ?_ ?_; rotate_left; (intro w; go_simp; rfl); go_simp; go_big_quiet_on)
    cases bf
    · repeat (first | go_big_quiet_skip | (go_big_quiet_want; (refine quiet_val ?_ ?_ ?_; rotate_left; (intro w; go_simp; rfl); go_simp; go_big_quiet_on)))
      refine wpQuiet_nil ?_
      intro V hV
      have HV := Lib.hid (HA.out.on hV.1)
      clear hV
      obtain rfl : z = false := by rw [HZ3.out]; rfl
      go_wp2_with fail
      go_ret
      exact ⟨rfl, HV.out⟩
    go_big_quiet_want; (refine quiet_val ?_ ?_ ?_; rotate_left; (intro w; go_simp; rfl); go_simp; go_big_quiet_on)
    go_big_quiet_want; (refine quiet_val ?_ ?_ ?_; rotate_left; (intro w; go_simp; rfl); go_simp; go_big_quiet_on)
    go_big_quiet_want; refine quiet_ld _ rfl (ad := ⟨xb, xo, none⟩) rfl (fun w' h => load28m_run (by exact range_away (HA.out.on h.1) (by simp) HRX.out) HAQ.out) ?_; go_simp; go_big_quiet_on
    go_big_quiet_want; refine quiet_ld _ rfl (ad := ⟨g, 0, none⟩) rfl (fun w' h => load28_run h.2 HAD.out) ?_; go_simp; go_big_quiet_on
    go_big_quiet_want; refine quiet_call 42 #[.agg (csP q qo qd), .agg (csP p ov dv)] (.bool be) ?_ K2.out ?_
    · intro w; go_simp; all_goals (with_reducible rfl)
    go_simp; go_big_quiet_on
    go_big_quiet_want; (refine quiet_val ?_ ?_ ?_; rotate_left; (intro w; go_simp; rfl); go_simp; go_big_quiet_on)
    go_big_quiet_want; (refine quiet_val ?_ ?_ ?_; rotate_left; (intro w; go_simp; rfl); go_simp; go_big_quiet_on)
    refine wpQuiet_nil ?_
    intro V hV
    have HV := Lib.hid (HA.out.on hV.1)
    clear hV
    obtain rfl : z = be := by rw [HZ3.out]; rfl
    go_wp2_with fail
    go_ret
    exact ⟨rfl, HV.out⟩
  | x0 :: x1 :: r, HX, HZ =>
    have HZ3 : Hid (z = (decide (p.v = 4) && partR p m ((x0 :: x1 :: r).map X.p))) := by
      show _ = _
      rw [HZ.out]; simp only [List.map_cons, isR, HR.out, ← HBM.out, Bool.true_and]
    clear HZ
    obtain ⟨k, hk⟩ : ∃ k, k = (x0 :: x1 :: r).length := ⟨_, rfl⟩
    rw [← hk] at hxl ⊢
    have hk2 : 2 ≤ k := by rw [hk]; simp
    have c0 := (HB.out.cells HAD.out).v
    have hk0 : decide ((k : Int) = 0) = false := by simp; omega
    have hk1 : decide ((k : Int) = 1) = false := by simp; omega
    have hkb : ((k : Int) == 0) = false := by simp; omega
    have hkc : ((k : Int) == 1) = false := by simp; omega
    have hnb : (n == 0) = false := by simp [hz]
    obtain ⟨bp, hbp⟩ : ∃ bp, bp = partR p m ((x0 :: x1 :: r).map X.p) := ⟨_, rfl⟩
    rw [← hbp] at HZ3
    have KP : Hid (∀ w', Away [] w w' → Calls Tryz.prog 43 #[.agg (csP p ov dv), .int .i64 m, .slice a k cap] w' fun E w'' => E = .returned (.bool bp) ∧ Away [] w' w'') := fun w' h => by
      rw [hbp]; exact parted_c p ov dv m a (x0 :: x1 :: r) k cap w' hk.symm (by omega) (HP.out.on h) (HX.out.on h) (HG.out.on h)
    clear hbp hk
    obtain ⟨pv, hpv⟩ : ∃ z, z = p.v := ⟨_, rfl⟩
    rw [← hpv] at c0 HZ3
    clear hpv
    by_cases hv : pv = 4
    · subst hv
      go_wp2_with (refine wpList_load28 rfl _ rfl g rfl p _ _ (by exact HB.out) HAD.out ?_)
      refine (KP.out _ HA.out).mono ?_
      rintro E w4 ⟨rfl, haw⟩
      replace HA := Lib.hid (HA.out.on haw)
      clear haw KP
      obtain rfl : z = bp := by rw [HZ3.out]; rfl
      go_wp2_with fail
      go_ret
      exact ⟨rfl, HA.out⟩
    · have dv4 : decide (pv = 4) = false := by simp [hv]
      obtain rfl : z = false := by rw [HZ3.out, dv4]; rfl
      go_wp2_with fail
      go_ret
      exact ⟨rfl, HA.out⟩
end R
#print axioms R.is_c
end Go.Proofs.YtaicckenpplceaaGreatDoor
