/-
  lengthOf, uncut, isMTU, fits, share, placed of package cut.
-/
import Derived.Test.YtaicckenpplceaaGreatDoorLp
import Derived.Test.YtaicckenpplceaaGreatDoorCt2
namespace Go.Proofs.YtaicckenpplceaaGreatDoor
open Go.ChangeShapes Go.WideShapes Go.ChangeAt Go.RowKit Num
set_option linter.unusedVariables false
set_option maxHeartbeats 4000000
set_option maxRecDepth 100000

theorem head_bd (p : Pk) : 0 ≤ headP p ∧ headP p ≤ 20 + p.o.length := by unfold headP; split <;> omega
theorem head6_bd (p : Pk) : 0 ≤ S6.headP p ∧ S6.headP p ≤ 48 := by unfold S6.headP S6.hofP; split <;> (try split) <;> omega
theorem length_c (p : Pk) (ov dv : Value) (w : World) (hp : Pkt w p ov dv) (hg : Glob w) :
    Calls Tryz.prog 91 #[.agg (csP p ov dv)] w fun E w' => E = .returned (.int .i64 (longP p)) ∧ Away [] w w' := by
  have ha := hp.wf.ad
  have K4 : Hid (∀ w', Away [] w w' → Calls Tryz.prog 33 #[.agg (csP p ov dv)] w' fun E w'' => E = .returned (.int .i64 (headP p)) ∧ Away [] w' w'') := fun w' h => head_c p ov dv w' (hp.on h) (hg.on h)
  have K6 : Hid (∀ w', Away [] w w' → Calls Tryz.prog 34 #[.agg (csP p ov dv)] w' fun E w'' => E = .returned (.int .i64 (S6.headP p)) ∧ Away [] w' w'') := fun w' h => S6.head_c p ov dv w' (hp.on h).six
  have hol := hp.wf.ol; have hdn := hp.wf.dn
  have b4 := head_bd p; have b6 := head6_bd p
  obtain ⟨hwf, ho, ⟨ad, capd, rfl, q1, q2, q3⟩⟩ := hp
  clear hwf ho q1 q2 q3 hg
  obtain ⟨z, hz⟩ : ∃ z, z = longP p := ⟨_, rfl⟩
  rw [← hz]
  have HZ : Hid (z = if (if p.v = 6 then S6.headP p else headP p) = 0 then 0 else (if p.v = 6 then S6.headP p else headP p) + p.d.length) := hz
  clear hz
  have HAD : Hid (Ad p) := ha
  clear ha
  go_enter Tryz.func91, Tryz.ntmps91
  go_wp2_with (refine wpList_box28 rfl _ rfl p _ _ rfl ?_; refine Hid.out ?_)
  refine Lib.hid ?_
  intro g w1 hg hb haw
  have HA : Hid (Away [] w w1) := haw
  have HB : Hid (BoxP w1 g p ov (.slice ad p.d.length capd)) := hb
  clear hb haw hg
  go_wp2_with (refine wpList_load28 rfl _ rfl _ rfl p _ _ (by exact HB.out) HAD.out ?_)
  refine (K4.out _ HA.out).mono ?_
  rintro E w2 ⟨rfl, haw⟩
  replace HB := Lib.hid (HB.out.on haw)
  replace HA := Lib.hid (HA.out.next haw (by simp))
  clear haw K4
  have c0 := (HB.out.cells HAD.out).v
  have c45 := (HB.out.cells HAD.out).d
  generalize headP p = h4 at *
  generalize S6.headP p = h6 at *
  by_cases hv : p.v = 6
  · rw [hv] at c0
    go_wp2_with (refine wpList_load28 rfl _ rfl _ rfl p _ _ (by exact HB.out) HAD.out ?_)
    refine (K6.out _ HA.out).mono ?_
    rintro E w3 ⟨rfl, haw⟩
    replace HB := Lib.hid (HB.out.on haw)
    replace HA := Lib.hid (HA.out.next haw (by simp))
    clear haw K6 c0 c45
    have c45 := (HB.out.cells HAD.out).d
    have HZ2 : Hid (z = if h6 = 0 then 0 else h6 + p.d.length) := by show _ = _; rw [HZ.out]; simp only [hv, if_true]
    clear HZ
    by_cases h0 : h6 = 0
    · subst h0
      obtain rfl : z = 0 := HZ2.out
      go_wp2_with fail
      go_ret
      exact ⟨rfl, HA.out⟩
    · have hb0 : decide (h6 = 0) = false := by simp [h0]
      go_wp2_with fail
      go_ret
      refine ⟨?_, HA.out⟩
      have := HZ2.out
      rw [if_neg h0] at this
      apply ret_int; rw [this]
  · have HZ2 : Hid (z = if h4 = 0 then 0 else h4 + p.d.length) := by show _ = _; rw [HZ.out]; simp only [hv, if_false]
    clear HZ K6
    have hbv : decide (p.v = 6) = false := by simp [hv]
    by_cases h0 : h4 = 0
    · subst h0
      obtain rfl : z = 0 := HZ2.out
      go_wp2_with fail
      go_ret
      exact ⟨rfl, HA.out⟩
    · have hb0 : decide (h4 = 0) = false := by simp [h0]
      go_wp2_with fail
      go_ret
      refine ⟨?_, HA.out⟩
      have := HZ2.out
      rw [if_neg h0] at this
      apply ret_int; rw [this]
theorem uncut_c (p : Pk) (ov dv : Value) (w : World) (hp : Pkt w p ov dv) (hg : Glob w) :
    Calls Tryz.prog 78 #[.agg (csP p ov dv)] w fun E w' => E = .returned (.bool (uncutP p)) ∧ Away [] w w' := by
  have HAD := Lib.hid hp.wf.ad
  have K : Hid (∀ w', Away [] w w' → Calls Tryz.prog 91 #[.agg (csP p ov dv)] w' fun E w'' => E = .returned (.int .i64 (longP p)) ∧ Away [] w' w'') := fun w' h => length_c p ov dv w' (hp.on h) (hg.on h)
  clear hp hg
  obtain ⟨z, hz⟩ : ∃ z, z = uncutP p := ⟨_, rfl⟩
  rw [← hz]
  have HZ : Hid (z = (decide (0 < longP p) && decide (p.off = 0) && !p.more && !p.frag)) := hz
  clear hz
  go_enter Tryz.func78, Tryz.ntmps78
  go_wp2_with (refine wpList_box28 rfl _ rfl p _ _ rfl ?_; refine Hid.out ?_)
  refine Lib.hid ?_
  intro g w1 hg hb haw
  have HA : Hid (Away [] w w1) := haw
  have HB : Hid (BoxP w1 g p ov dv) := hb
  clear hb haw hg
  go_wp2_with (refine wpList_load28 rfl _ rfl _ rfl p _ _ (by exact HB.out) HAD.out ?_)
  refine (K.out _ HA.out).mono ?_
  rintro E w2 ⟨rfl, haw⟩
  replace HB := Lib.hid (HB.out.on haw)
  replace HA := Lib.hid (HA.out.next haw (by simp))
  clear haw K
  have c43 := (HB.out.cells HAD.out).off
  have c41 := (HB.out.cells HAD.out).more
  have c42 := (HB.out.cells HAD.out).frag
  generalize longP p = n at *
  generalize p.off = off at *
  generalize p.more = more at *
  generalize p.frag = frag at *
  by_cases h1 : 0 < n
  · have d1 : decide (0 < n) = true := by simp [h1]
    by_cases h2 : off = 0
    · subst h2
      obtain rfl : z = (!more && !frag) := by rw [HZ.out, d1]; rfl
      cases more
      · cases frag
        · go_wp2_with fail
          go_ret
          exact ⟨rfl, HA.out⟩
        · go_wp2_with fail
          go_ret
          exact ⟨rfl, HA.out⟩
      · go_wp2_with fail
        go_ret
        exact ⟨rfl, HA.out⟩
    · have d2 : decide (off = 0) = false := by simp [h2]
      obtain rfl : z = false := by rw [HZ.out, d1, d2]; rfl
      go_wp2_with fail
      go_ret
      exact ⟨rfl, HA.out⟩
  · have d1 : decide (0 < n) = false := by simp; omega
    obtain rfl : z = false := by rw [HZ.out, d1]; rfl
    go_wp2_with fail
    go_ret
    exact ⟨rfl, HA.out⟩
theorem mtu_c (m v : Int) (w : World) : Calls Tryz.prog 79 #[.int .i64 m, .int .i64 v] w fun E w' => E = .returned (.bool (mtuP m v)) ∧ w' = w := by
  obtain ⟨z, hz⟩ : ∃ z, z = mtuP m v := ⟨_, rfl⟩
  rw [← hz]
  unfold mtuP at hz
  have HZ := Lib.hid hz
  clear hz
  by_cases hv : v = 6
  · subst hv
    by_cases h1 : 1280 ≤ m
    · have d1 : decide (1280 ≤ m) = true := by simp [h1]
      obtain rfl : z = decide (m ≤ 65535) := by rw [HZ.out, if_pos rfl, d1]; rfl
      go_enter Tryz.func79, Tryz.ntmps79
      go_wp2
      go_ret
      exact ⟨rfl, rfl⟩
    · have d1 : decide (1280 ≤ m) = false := by simp; omega
      obtain rfl : z = false := by rw [HZ.out, if_pos rfl, d1]; rfl
      go_enter Tryz.func79, Tryz.ntmps79
      go_wp2
      go_ret
      exact ⟨rfl, rfl⟩
  · have dv : decide (v = 6) = false := by simp [hv]
    by_cases h1 : 68 ≤ m
    · have d1 : decide (68 ≤ m) = true := by simp [h1]
      obtain rfl : z = decide (m ≤ 65535) := by rw [HZ.out, if_neg hv, d1]; rfl
      go_enter Tryz.func79, Tryz.ntmps79
      go_wp2
      go_ret
      exact ⟨rfl, rfl⟩
    · have d1 : decide (68 ≤ m) = false := by simp; omega
      obtain rfl : z = false := by rw [HZ.out, if_neg hv, d1]; rfl
      go_enter Tryz.func79, Tryz.ntmps79
      go_wp2
      go_ret
      exact ⟨rfl, rfl⟩
theorem fits_c (p : Pk) (ov dv : Value) (m : Int) (w : World) (hp : Pkt w p ov dv) (hg : Glob w) :
    Calls Tryz.prog 80 #[.agg (csP p ov dv), .int .i64 m] w fun E w' => E = .returned (.bool (fitsP p m)) ∧ Away [] w w' := by
  have HAD := Lib.hid hp.wf.ad
  have K : Hid (∀ w', Away [] w w' → Calls Tryz.prog 91 #[.agg (csP p ov dv)] w' fun E w'' => E = .returned (.int .i64 (longP p)) ∧ Away [] w' w'') := fun w' h => length_c p ov dv w' (hp.on h) (hg.on h)
  clear hp hg
  obtain ⟨z, hz⟩ : ∃ z, z = fitsP p m := ⟨_, rfl⟩
  rw [← hz]
  have HZ : Hid (z = (decide (0 < longP p) && decide (longP p ≤ m))) := hz
  clear hz
  go_enter Tryz.func80, Tryz.ntmps80
  go_wp2_with (refine wpList_box28 rfl _ rfl p _ _ rfl ?_; refine Hid.out ?_)
  refine Lib.hid ?_
  intro g w1 hg hb haw
  have HA : Hid (Away [] w w1) := haw
  have HB : Hid (BoxP w1 g p ov dv) := hb
  clear hb haw hg
  go_wp2_with (refine wpList_load28 rfl _ rfl _ rfl p _ _ (by exact HB.out) HAD.out ?_)
  refine (K.out _ HA.out).mono ?_
  rintro E w2 ⟨rfl, haw⟩
  replace HA := Lib.hid (HA.out.next haw (by simp))
  clear haw K HB
  generalize longP p = n at *
  by_cases h1 : 0 < n
  · have d1 : decide (0 < n) = true := by simp [h1]
    obtain rfl : z = decide (n ≤ m) := by rw [HZ.out, d1]; rfl
    go_wp2_with fail
    go_ret
    exact ⟨rfl, HA.out⟩
  · have d1 : decide (0 < n) = false := by simp; omega
    obtain rfl : z = false := by rw [HZ.out, d1]; rfl
    go_wp2_with fail
    go_ret
    exact ⟨rfl, HA.out⟩
theorem share_c (l r : Nat) (lz rz v : Int) (hl : lz = l) (hr : rz = r) (hb : r ≤ 140737488355328) (w : World) : Calls Tryz.prog 93 #[.int .i64 lz, .int .i64 rz, .int .i64 v] w fun E w' => E = .returned (.int .i64 (shareP l r v)) ∧ w' = w := by
  subst hl; subst hr
  have e : (r : Int).tdiv 8 = ((r / 8 : Nat) : Int) := by rw [Int.tdiv_eq_ediv_of_nonneg (by omega)]; omega
  obtain ⟨z, hz⟩ : ∃ z, z = shareP l r v := ⟨_, rfl⟩
  rw [← hz]
  unfold shareP at hz
  have HZ := Lib.hid hz
  clear hz
  by_cases hv : v = 6
  · subst hv
    by_cases h1 : l ≤ r / 8 * 8
    · obtain rfl : z = l := by rw [HZ.out, if_pos rfl, if_pos h1]
      go_enter Tryz.func93, Tryz.ntmps93
      go_wp2
      go_ret
      exact ⟨rfl, rfl⟩
    · obtain rfl : z = r / 8 * 8 := by rw [HZ.out, if_pos rfl, if_neg h1]
      go_enter Tryz.func93, Tryz.ntmps93
      go_wp2
      go_ret
      exact ⟨by apply ret_int; go_num, rfl⟩
  · have dv : decide (v = 6) = false := by simp [hv]
    by_cases h1 : l ≤ r
    · obtain rfl : z = l := by rw [HZ.out, if_neg hv, if_pos h1]
      go_enter Tryz.func93, Tryz.ntmps93
      go_wp2
      go_ret
      exact ⟨rfl, rfl⟩
    · obtain rfl : z = r / 8 * 8 := by rw [HZ.out, if_neg hv, if_neg h1]
      go_enter Tryz.func93, Tryz.ntmps93
      go_wp2
      go_ret
      exact ⟨by apply ret_int; go_num, rfl⟩
theorem plc_c (f : Pk) (ov dv : Value) (n : Nat) (a : Option Addr) (l : List Int) (k cap : Nat) (m : Bool) (w : World) (ha : Ad f) (ho : ov.oneCell' = true) (hd : dv.oneCell' = true) :
    Calls Tryz.prog 94 #[.agg (csP f ov dv), .int .i64 n, .slice a k cap, .bool m] w fun E w' => E = .returned (.agg (csP (plcP f n l m) ov (.slice a k cap))) ∧ Away [] w w' := by
  have HAD := Lib.hid ha
  have HO := Lib.hid ho
  clear ha ho hd
  go_enter Tryz.func94, Tryz.ntmps94
  go_wp2_with (refine wpList_box28 rfl _ rfl f _ _ rfl ?_; refine Hid.out ?_)
  refine Lib.hid ?_
  intro g1 w1 hg1 hb1 haw1
  have HB1 := Lib.hid hb1; have HA1 := Lib.hid haw1
  have hl1 := hb1.lt
  clear hb1 haw1
  go_wp2_with (refine wpList_alloc28 rfl rfl ?_; refine Hid.out ?_)
  refine Lib.hid ?_
  intro g2 w2 hg2 hb2 haw2
  have HB2 := Lib.hid hb2
  replace HB1 := Lib.hid (HB1.out.on haw2)
  replace HA1 := Lib.hid (HA1.out.next haw2 (by simp))
  have hl2 := hb2.lt
  have hs2 := haw2.size
  clear hb2 haw2
  have cs := csP_set (p := f) HAD.out ov dv
  have HB3 := Lib.hid (HB1.out.put 43 (.int .i64 n) (cs.2.2.2.2.2.2.2.2.2.2.2.1 n))
  have HB4 := Lib.hid (HB3.out.put 45 (.slice a k cap) ((csP_set (p := { f with off := n }) HAD.out ov dv).2.2.2.2.2.2.2.2.2.2.2.2.2 l (.slice a k cap)))
  have HB5 := Lib.hid (HB4.out.put 41 (.bool m) ((csP_set (p := { f with off := n, d := l }) HAD.out ov (.slice a k cap)).2.2.2.2.2.2.2.2.2.1 m))
  have hA3 := away_put (w := w2) (g := g1) 43 (.int .i64 n)
  have hA4 := away_put (w := w2.setCell ⟨g1, 43, none⟩ (.int .i64 n)) (g := g1) 45 (.slice a k cap)
  have hA5 := away_put (w := (w2.setCell ⟨g1, 43, none⟩ (.int .i64 n)).setCell ⟨g1, 45, none⟩ (.slice a k cap)) (g := g1) 41 (.bool m)
  have hA6 := (hA3.trans hA4).trans hA5
  have HB6 := Lib.hid (HB2.out.away hA6 (by simp; omega))
  have HA6 := Lib.hid (HA1.out.next hA6 (fun x hx => .inr (by simp at hx; omega)))
  have s43 := (HB1.out.cells HAD.out).off
  have s45 := (HB1.out.cells HAD.out).d
  have s41 := (HB1.out.cells HAD.out).more
  have f43 := HB1.out.free 43
  have f45 := HB1.out.free 45
  have f41 := HB1.out.free 41
  clear hA3 hA4 hA5 hA6 cs HB3 HB4 HA1 HB1 HB2
  go_upto_region 2 with fail
  clear s43 s45 s41 f43 f45 f41
  generalize ((w2.setCell ⟨g1, 43, none⟩ (.int .i64 n)).setCell ⟨g1, 45, none⟩ (.slice a k cap)).setCell ⟨g1, 41, none⟩ (.bool m) = w6 at *
  go_wp2_with (first
    | (refine wpList_load28 rfl _ rfl _ rfl (plcP f n l m) _ _ (by exact HB5.out) HAD.out ?_)
    | (refine wpList_store28 rfl _ _ rfl _ rfl (plcP f n l m) ov (.slice a k cap) rfl zeroPk (.slice none 0 0) (.slice none 0 0) (by exact HB6.out) HAD.out ⟨rfl, rfl⟩ HO.out rfl ?_; refine Hid.out ?_))
  refine Lib.hid ?_
  intro w7 hb7 haw7
  have HB7 := Lib.hid hb7
  have HA7 : Hid (Away [] w w7) := HA6.out.next haw7 (fun x hx => .inr (by simp at hx; omega))
  clear hb7 haw7
  go_wp2_with fail
  exact bodyPost_ret (result28 rfl _ _ _ _ _ _ rfl HB7.out HAD.out) rfl ⟨rfl, HA7.out⟩
#print axioms plc_c
end Go.Proofs.YtaicckenpplceaaGreatDoor
