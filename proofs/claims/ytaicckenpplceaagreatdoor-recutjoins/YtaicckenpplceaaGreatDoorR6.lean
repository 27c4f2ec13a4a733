/-
  The document's own: between, Valid, six, Right.
-/
import Derived.Test.YtaicckenpplceaaGreatDoorRgt6
import Derived.Test.YtaicckenpplceaaGreatDoorStp
import Derived.WalkMore
import Derived.Deep.CutBlock
import Derived.Deep.DeepCutAuto
namespace Go.Proofs.YtaicckenpplceaaGreatDoor.S6
open Go.ChangeShapes Go.WideShapes Go.ChangeAt Go.RowKit Num
set_option linter.unusedVariables false
set_option maxHeartbeats 4000000
set_option maxRecDepth 100000

theorem rowAt_bytes {w : World} {g : Nat} {v : Int} {l : List Int} (h : rowAt w g = some (csA v l)) (j : Nat) (x : Int) (hj : l[j]? = some x) : w.cell? ⟨g, 1 + j, none⟩ = some (.int .u8 x) := by
  obtain ⟨t, hh, hs⟩ := rowAt_some h
  simp [World.cell?, hh, csA, cellsA, Nat.add_comm 1 j, hj]
theorem rowAt_cell {w : World} {g : Nat} {c : Array Value} (h : rowAt w g = some c) (i : Nat) (x : Value) (hx : c[i]? = some x) : w.cell? ⟨g, i, none⟩ = some x := by
  obtain ⟨t, ht, _⟩ := rowAt_some h
  simp [World.cell?, ht, hx]
theorem between_c (n a b : Int) (w : World) : Calls Tryz.prog 60 #[.int .i64 n, .int .i64 a, .int .i64 b] w fun E w' => E = .returned (.bool (decide (a ≤ n ∧ n ≤ b))) ∧ w' = w := by
  by_cases h0 : a ≤ n
  · obtain ⟨z, hz⟩ : ∃ z, z = decide (a ≤ n ∧ n ≤ b) := ⟨_, rfl⟩
    rw [← hz]
    have HZ : Hid (z = decide (n ≤ b)) := by show _ = _; rw [hz]; simp [h0]
    clear hz
    go_enter Tryz.func60, Tryz.ntmps60
    go_wp2
    go_ret
    exact ⟨by rw [HZ.out]; simp, rfl⟩
  · rw [show decide (a ≤ n ∧ n ≤ b) = false from decide_eq_false (fun h => h0 h.1)]
    go_enter Tryz.func60, Tryz.ntmps60
    go_wp2
    go_ret
    exact ⟨rfl, rfl⟩
theorem rvalid_c (v : Int) (l : List Int) (hl : l.length = 16) (w : World) :
    Calls Tryz.prog 77 #[.agg (csA v l)] w fun e w' => ∃ b : Bool, e = .returned (.bool b) ∧ (v = 6 → b = true) ∧ Below w.heap.size w w' := by
  obtain ⟨cs, hcs⟩ : ∃ c, c = csA v l := ⟨_, rfl⟩
  have r1 : rowAt (w.alloc (.cells cs 25)) w.heap.size = some cs := rowAt_new w cs 25 (by rw [hcs]; exact csA_size hl)
  have c0 := rowAt_cell r1 0 (.int .i64 v) (by rw [hcs]; exact csA_zero v l)
  have HB : Hid (Below w.heap.size w (w.alloc (.cells cs 25))) := Lib.hid ((Below.refl _ _).alloc (Nat.le_refl _) _)
  have HR : Hid (rowAt (w.alloc (.cells cs 25)) w.heap.size = some (csA v l)) := Lib.hid (by rw [← hcs]; exact r1)
  rw [← hcs]
  clear hcs r1
  by_cases hv : v = 6
  · have fv : decide (v = 6) = true := by simp [hv]
    have fv2 : (v == 6) = true := by simp [hv]
    go_enter Tryz.func77, Tryz.ntmps77
    go_wp2_with fail
    go_ret
    exact ⟨true, rfl, fun _ => rfl, HB.out⟩
  · have fv : decide (v = 6) = false := by simp [hv]
    have fv2 : (v == 6) = false := by simp [hv]
    have HNV := Lib.hid hv
    clear hv
    go_enter Tryz.func77, Tryz.ntmps77
    go_wp2_with fail
    generalize w.alloc (.cells cs 25) = W at *
    go_loopw [3] (fun i wr => ∃ k : Nat, 4 ≤ k ∧ k ≤ 16 ∧ i = .int .i64 (k : Int) ∧ wr = W) (fun i _ => 16 - (intOf i).toNat)
    case atStart => exact ⟨4, by omega, by omega, rfl, rfl⟩
    case round =>
      obtain ⟨k, hk4, hk, rfl, hW⟩ := hrel
      subst hW
      by_cases hlt : k < 16
      · obtain ⟨b, hbk⟩ : ∃ b, l[k]? = some b := ⟨_, List.getElem?_eq_getElem (by omega)⟩
        have cx := rowAt_bytes HR.out k b hbk
        have b1 : decide ((k : Int) < 16) = true := by simp; omega
        have b2 : 0 ≤ (k : Int) := by omega
        have b3 : (k : Int) < 16 := by omega
        have b4 : ((k : Int)).toNat = k := by omega
        clear hbk
        by_cases hb0 : b = 0
        · subst hb0
          go_wp2_with fail
          go_roundw
          all_goals first | exact ⟨k + 1, by omega, by omega, by go_num, trivial⟩ | exact ⟨k + 1, by omega, by omega, by go_num, rfl⟩ | (simp [intOf]; omega)
        · have fb : decide (b = 0) = false := by simp [hb0]
          have fb2 : (b != 0) = true := by simp [hb0]
          go_wp2_with fail
          go_ret
          exact ⟨false, rfl, fun h => absurd h HNV.out, HB.out⟩
      · have b1 : decide ((k : Int) < 16) = false := by simp; omega
        clear hk hlt hk4
        go_wp2_with fail
        go_ret
        exact ⟨_, rfl, fun h => absurd h HNV.out, HB.out⟩
theorem six_c (v : Int) (l : List Int) (hl : l.length = 16) (w : World) : Calls Tryz.prog 59 #[.agg (csA v l)] w fun E w' => E = .returned (.bool (decide (v = 6))) ∧ Away [] w w' := by
  obtain ⟨cs, hcs⟩ : ∃ c, c = csA v l := ⟨_, rfl⟩
  have r1 : rowAt (w.alloc (.cells cs 25)) w.heap.size = some (csA v l) := by rw [hcs]; exact rowAt_new w _ 25 (csA_size hl)
  have HA : Hid (Away [] w (w.alloc (.cells cs 25))) := (Away.refl [] w).alloc _
  have HCE : Hid (∀ w', Below (w.alloc (.cells cs 25)).heap.size (w.alloc (.cells cs 25)) w' → w'.cell? ⟨w.heap.size, 0, none⟩ = some (.int .i64 v)) := fun w' h => by
    have hb : BoxA (w.alloc (.cells cs 25)) w.heap.size v l := by rw [hcs]; exact BoxA.new w v l _ rfl
    exact (hb.below h (by simp)).v
  rw [← hcs]
  clear hcs
  have KEY : Hid (∀ w, Calls Tryz.prog 77 #[.agg (csA v l)] w fun e w' => ∃ b : Bool, e = .returned (.bool b) ∧ (v = 6 → b = true) ∧ Below w.heap.size w w') := fun w => rvalid_c v l hl w
  obtain ⟨z, hz⟩ : ∃ z, z = decide (v = 6) := ⟨_, rfl⟩
  rw [← hz]
  have HZ := Lib.hid hz
  clear hz
  go_enter Tryz.func59, Tryz.ntmps59
  go_wp2_with (refine wpList_load24 rfl _ rfl _ rfl _ (by assumption) ?_)
  refine (KEY.out _).mono ?_
  rintro E w' ⟨b, rfl, hb6, hb⟩
  have HB : Hid (Away [] w w') := HA.out.next (Away.of_below hb) (by simp)
  have c0 := HCE.out w' hb
  clear hb HA r1
  cases b
  · obtain rfl : z = false := by
      rw [HZ.out]; cases hq : decide (v = 6)
      · rfl
      · have := hb6 (by simpa using hq); simp at this
    clear hb6
    go_wp2_with fail
    go_ret
    exact ⟨rfl, HB.out⟩
  · clear hb6
    go_wp2_with fail
    go_ret
    exact ⟨by rw [HZ.out]; rfl, HB.out⟩
theorem rright_c (p : Pk) (ov dv : Value) (w : World) (hp : Pkt w p ov dv) :
    Calls Tryz.prog 38 #[.agg (csP p ov dv)] w fun E w' => E = .returned (.bool (rightP p)) ∧ Away [] w w' := by
  have ha := hp.wf.ad
  have hoff := hp.wf.off
  unfold i64ok at hoff
  have KS : Hid (∀ w', Calls Tryz.prog 59 #[.agg (csA p.sv p.sb)] w' fun E w'' => E = .returned (.bool (decide (p.sv = 6))) ∧ Away [] w' w'') := fun w' => six_c p.sv p.sb hp.wf.sl w'
  have KD : Hid (∀ w', Calls Tryz.prog 59 #[.agg (csA p.dv p.db)] w' fun E w'' => E = .returned (.bool (decide (p.dv = 6))) ∧ Away [] w' w'') := fun w' => six_c p.dv p.db hp.wf.dl w'
  obtain ⟨hw, ⟨ao, capo, hov, -⟩, ⟨ad, capd, hdv, -⟩⟩ := hp
  subst hov; subst hdv
  have hn := hw.dn
  have hm := hw.ol
  have hl1 := hw.sl
  have hl2 := hw.dl
  clear hw
  obtain ⟨z, hz⟩ : ∃ z, z = rightP p := ⟨_, rfl⟩
  rw [← hz]
  have HNO : Hid ((Rgt p → False) → z = false) := fun h => by
    rw [hz]; cases hq : rightP p
    · rfl
    · exact (h ((right_iff p).1 hq)).elim
  have HYES : Hid (Rgt p → z = true) := fun h => by rw [hz]; exact (right_iff p).2 h
  clear hz
  have HAD : Hid (Ad p) := ha
  go_enter Tryz.func38, Tryz.ntmps38
  go_wp2_with (refine wpList_box28 rfl _ rfl p _ _ rfl ?_; refine Hid.out ?_)
  refine Lib.hid ?_
  intro g w1 hg hb haw
  have HA : Hid (Away [] w w1) := haw
  have HB : Hid (BoxP w1 g p (.slice ao p.o.length capo) (.slice ad p.d.length capd)) := hb
  have HR1 : Hid (w1.rangeAt g 3 (cellsA p.sv p.sb)) := hb.srow
  have c13 := (hb.cells ha).d
  clear hb haw hg ha
  go_wp2_with (first | (refine wpList_load24m rfl _ rfl _ _ rfl p.sv p.sb (by exact HR1.out) hl1 ?_))
  refine (KS.out _).mono ?_
  rintro E w2 ⟨rfl, haw⟩
  replace HA := Lib.hid (HA.out.next haw (by simp)); replace HB := Lib.hid (HB.out.on haw)
  clear haw c13 HR1
  have HR2 : Hid (w2.rangeAt g 20 (cellsA p.dv p.db)) := HB.out.drow HAD.out
  go_wp2_with (first | (refine wpList_load24m rfl _ rfl _ _ rfl p.dv p.db (by exact HR2.out) hl2 ?_))
  refine (KD.out _).mono ?_
  rintro E w3 ⟨rfl, haw⟩
  replace HA := Lib.hid (HA.out.next haw (by simp)); replace HB := Lib.hid (HB.out.on haw)
  clear haw HR2
  have hc := HB.out.cells HAD.out
  have c0 := hc.v; have c1 := hc.tos; have c2 := hc.flow; have c3 := hc.df; have c4 := hc.o; have c5 := hc.ttl; have c6 := hc.proto; have c7 := hc.off; have c8 := hc.more; have c9 := hc.frag; have c10 := hc.id
  clear hc
  generalize hsv : decide (p.sv = 6) = bs1
  generalize hdv : decide (p.dv = 6) = bd1
  have HSV := Lib.hid hsv; have HDV := Lib.hid hdv
  clear hsv hdv
  by_cases h1 : p.v = 6
  rotate_left
  · have k1 : (p.v != 6) = true := by simp [h1]
    have H1 := Lib.hid h1
    clear h1
    obtain rfl : z = false := HNO.out (fun h => H1.out h.v)
    go_wp2_with fail
    go_ret
    exact ⟨rfl, HA.out⟩
  have k1 : (p.v != 6) = false := by simp [h1]
  have H1 := Lib.hid h1
  clear h1
  cases bs1
  · obtain rfl : z = false := HNO.out (fun h => absurd h.sv (of_decide_eq_false HSV.out))
    go_wp2_with fail
    go_ret
    exact ⟨rfl, HA.out⟩
  cases bd1
  · obtain rfl : z = false := HNO.out (fun h => absurd h.dv (of_decide_eq_false HDV.out))
    go_wp2_with fail
    go_ret
    exact ⟨rfl, HA.out⟩
  generalize hdf : p.df = df at c3
  cases df
  rotate_left
  · obtain rfl : z = false := HNO.out (fun h => by have := h.df; rw [hdf] at this; simp at this)
    go_wp2_with fail
    go_ret
    exact ⟨rfl, HA.out⟩
  by_cases h5 : 0 < (p.o.length : Int)
  · have k5 : decide (0 < (p.o.length : Int)) = true := decide_eq_true h5
    obtain rfl : z = false := HNO.out (fun h => by have := h.o; rw [this] at h5; simp at h5)
    go_wp2_with fail
    all_goals first | (go_ret; exact ⟨rfl, HA.out⟩) | (exfalso; omega) | (exfalso; simp_all; done)
  have k5 : decide (0 < (p.o.length : Int)) = false := decide_eq_false h5
  have H5 : Hid (p.o = []) := List.length_eq_zero_iff.1 (by omega)
  by_cases h6 : p.proto = 44
  · have k6 : (p.proto == 44) = true := by simp [h6]
    have H6 := Lib.hid h6
    clear h6
    obtain rfl : z = false := HNO.out (fun h => h.r44 H6.out)
    go_wp2_with fail
    go_ret
    exact ⟨rfl, HA.out⟩
  have k6 : (p.proto == 44) = false := by simp [h6]
  have H6 := Lib.hid h6
  clear h6
  go_upto_region 6 with fail
  go_wp2_with fail
  refine (between_c p.tos 0 255 _).mono ?_
  rintro E w' ⟨rfl, rfl⟩
  generalize hb11 : decide (0 ≤ p.tos ∧ p.tos ≤ 255) = bb11
  have HB11 := Lib.hid hb11
  clear hb11
  cases bb11
  · obtain rfl : z = false := HNO.out (fun h => absurd (show 0 ≤ p.tos ∧ p.tos ≤ 255 from ⟨h.t0, h.t1⟩) (of_decide_eq_false HB11.out))
    go_wp2_with fail
    go_ret
    exact ⟨rfl, HA.out⟩
  go_wp2_with fail
  refine (between_c p.flow 0 1048575 _).mono ?_
  rintro E w' ⟨rfl, rfl⟩
  generalize hb12 : decide (0 ≤ p.flow ∧ p.flow ≤ 1048575) = bb12
  have HB12 := Lib.hid hb12
  clear hb12
  cases bb12
  · obtain rfl : z = false := HNO.out (fun h => absurd (show 0 ≤ p.flow ∧ p.flow ≤ 1048575 from ⟨h.f0, by have := h.f1; omega⟩) (of_decide_eq_false HB12.out))
    go_wp2_with fail
    go_ret
    exact ⟨rfl, HA.out⟩
  go_wp2_with fail
  refine (between_c p.proto 0 255 _).mono ?_
  rintro E w' ⟨rfl, rfl⟩
  generalize hb13 : decide (0 ≤ p.proto ∧ p.proto ≤ 255) = bb13
  have HB13 := Lib.hid hb13
  clear hb13
  cases bb13
  · obtain rfl : z = false := HNO.out (fun h => absurd (show 0 ≤ p.proto ∧ p.proto ≤ 255 from ⟨h.r0, h.r1⟩) (of_decide_eq_false HB13.out))
    go_wp2_with fail
    go_ret
    exact ⟨rfl, HA.out⟩
  go_wp2_with fail
  refine (between_c p.ttl 0 255 _).mono ?_
  rintro E w' ⟨rfl, rfl⟩
  generalize hb14 : decide (0 ≤ p.ttl ∧ p.ttl ≤ 255) = bb14
  have HB14 := Lib.hid hb14
  clear hb14
  cases bb14
  · obtain rfl : z = false := HNO.out (fun h => absurd (show 0 ≤ p.ttl ∧ p.ttl ≤ 255 from ⟨h.l0, h.l1⟩) (of_decide_eq_false HB14.out))
    go_wp2_with fail
    go_ret
    exact ⟨rfl, HA.out⟩
  go_wp2_with fail
  refine (between_c p.off 0 65535 _).mono ?_
  rintro E w' ⟨rfl, rfl⟩
  generalize hb15 : decide (0 ≤ p.off ∧ p.off ≤ 65535) = bb15
  have HB15 := Lib.hid hb15
  clear hb15
  cases bb15
  · obtain rfl : z = false := HNO.out (fun h => absurd (show 0 ≤ p.off ∧ p.off ≤ 65535 from ⟨h.o0, by have := h.o1; omega⟩) (of_decide_eq_false HB15.out))
    go_wp2_with fail
    go_ret
    exact ⟨rfl, HA.out⟩
  have o1 := (of_decide_eq_true HB15.out).1; have o2 := (of_decide_eq_true HB15.out).2
  go_upto_region 8 with fail
  by_cases h8 : p.off % 8 = 0
  rotate_left
  · have k8 : (p.off % 8 != 0) = true := by simp [h8]
    have H8 := Lib.hid h8
    clear h8
    obtain rfl : z = false := HNO.out (fun h => H8.out h.o8)
    go_wp2_with fail
    go_ret
    exact ⟨rfl, HA.out⟩
  have k8 : (p.off % 8 != 0) = false := by simp [h8]
  have H8 := Lib.hid h8
  clear h8
  by_cases h9 : 65535 < p.off + (p.d.length : Int)
  · have k9 : decide (65535 < p.off + (p.d.length : Int)) = true := decide_eq_true h9
    obtain rfl : z = false := HNO.out (fun h => by have := h.reach; omega)
    go_wp2_with fail
    go_ret
    exact ⟨rfl, HA.out⟩
  have k9 : decide (65535 < p.off + (p.d.length : Int)) = false := decide_eq_false h9
  by_cases hn0 : p.d.length = 0
  · have kn : ((p.d.length : Int) == 0) = true := by simp; exact List.length_eq_zero_iff.1 hn0
    have HN0 := Lib.hid hn0
    by_cases h10 : 0 < p.off
    · have k10 : decide (0 < p.off) = true := decide_eq_true h10
      clear hn0
      obtain rfl : z = false := HNO.out (fun h => h.mn (.inr h10) HN0.out)
      go_wp2_with fail
      go_ret
      exact ⟨rfl, HA.out⟩
    have k10 : decide (0 < p.off) = false := decide_eq_false h10
    generalize hmr : p.more = mr at c8
    cases mr
    rotate_left
    · clear hn0
      obtain rfl : z = false := HNO.out (fun h => h.mn (.inl hmr) HN0.out)
      go_wp2_with fail
      go_ret
      exact ⟨rfl, HA.out⟩
    clear hn0
    generalize hfr : p.frag = fr at c9
    cases fr
    rotate_left
    · by_cases hq : (p.d.length : Int) + 8 ≤ 65535
      · obtain rfl : z = true := HYES.out ⟨H1.out, hdf, H5.out, (of_decide_eq_true HB12.out).1, (by have := (of_decide_eq_true HB12.out).2; omega), (of_decide_eq_true HB11.out).1, (of_decide_eq_true HB11.out).2, (of_decide_eq_true HB14.out).1, (of_decide_eq_true HB14.out).2, (of_decide_eq_true HB13.out).1, (of_decide_eq_true HB13.out).2, H6.out, of_decide_eq_true HSV.out, of_decide_eq_true HDV.out, o1, (by have := H8.out; omega), H8.out, (fun h => by rw [hmr] at h; simp at h), (fun h => by rcases h with h | h <;> first | exact absurd h h10 | (rw [hmr] at h; simp at h)), by omega, (fun h => by rw [hfr] at h; simp at h), (by unfold hofP; rw [hfr]; simp only [if_true]; omega)⟩
        go_wp2_with fail
        go_ret
        exact ⟨by first | rfl | (simp; omega), HA.out⟩
      · obtain rfl : z = false := HNO.out (fun h => by have := h.all; unfold hofP at this; rw [hfr] at this; simp only [if_true] at this; omega)
        go_wp2_with fail
        go_ret
        exact ⟨by first | rfl | (simp; omega), HA.out⟩
    by_cases hid : p.id = 0
    rotate_left
    · have ki : (p.id == 0) = false := by simp [hid]
      obtain rfl : z = false := HNO.out (fun h => hid (h.bare hfr).1)
      clear hid
      go_wp2_with fail
      go_ret
      exact ⟨rfl, HA.out⟩
    have ki : (p.id == 0) = true := by simp [hid]
    have HID := Lib.hid hid
    clear hid
    by_cases hof : p.off = 0
    rotate_left
    · have ko : (p.off == 0) = false := by simp [hof]
      obtain rfl : z = false := HNO.out (fun h => hof (h.bare hfr).2.1)
      clear hof
      go_wp2_with fail
      go_ret
      exact ⟨rfl, HA.out⟩
    have ko : (p.off == 0) = true := by simp [hof]
    have HOF := Lib.hid hof
    clear hof
    obtain rfl : z = true := HYES.out ⟨H1.out, hdf, H5.out, (of_decide_eq_true HB12.out).1, (by have := (of_decide_eq_true HB12.out).2; omega), (of_decide_eq_true HB11.out).1, (of_decide_eq_true HB11.out).2, (of_decide_eq_true HB14.out).1, (of_decide_eq_true HB14.out).2, (of_decide_eq_true HB13.out).1, (of_decide_eq_true HB13.out).2, H6.out, of_decide_eq_true HSV.out, of_decide_eq_true HDV.out, o1, (by have := H8.out; omega), H8.out, (fun h => by rw [hmr] at h; simp at h), (fun h => by rcases h with h | h <;> first | exact absurd h h10 | (rw [hmr] at h; simp at h)), by omega, (fun _ => ⟨HID.out, HOF.out, hmr⟩), (by unfold hofP; rw [hfr]; simp only [Bool.false_eq_true, if_false]; omega)⟩
    go_wp2_with fail
    go_ret
    exact ⟨by first | rfl | (simp; omega), HA.out⟩
  · have kn : ((p.d.length : Int) == 0) = false := beq_eq_false_iff_ne.2 (by omega)
    have HN0 := Lib.hid hn0
    clear hn0
    generalize hmr : p.more = mr at c8
    have hdec : (0 < p.off) ∨ ¬ (0 < p.off) := by omega
    cases mr
    · rcases hdec with h10 | h10
      · have k10 : decide (0 < p.off) = true := decide_eq_true h10
        generalize hfr : p.frag = fr at c9
        cases fr
        rotate_left
        · by_cases hq : (p.d.length : Int) + 8 ≤ 65535
          · obtain rfl : z = true := HYES.out ⟨H1.out, hdf, H5.out, (of_decide_eq_true HB12.out).1, (by have := (of_decide_eq_true HB12.out).2; omega), (of_decide_eq_true HB11.out).1, (of_decide_eq_true HB11.out).2, (of_decide_eq_true HB14.out).1, (of_decide_eq_true HB14.out).2, (of_decide_eq_true HB13.out).1, (of_decide_eq_true HB13.out).2, H6.out, of_decide_eq_true HSV.out, of_decide_eq_true HDV.out, o1, (by have := H8.out; omega), H8.out, (fun h => by rw [hmr] at h; simp at h), (fun _ => HN0.out), by omega, (fun h => by rw [hfr] at h; simp at h), (by unfold hofP; rw [hfr]; simp only [if_true]; omega)⟩
            go_wp2_with fail
            go_ret
            exact ⟨by first | rfl | (simp; omega), HA.out⟩
          · obtain rfl : z = false := HNO.out (fun h => by have := h.all; unfold hofP at this; rw [hfr] at this; simp only [if_true] at this; omega)
            go_wp2_with fail
            go_ret
            exact ⟨by first | rfl | (simp; omega), HA.out⟩
        by_cases hid : p.id = 0
        rotate_left
        · have ki : (p.id == 0) = false := by simp [hid]
          obtain rfl : z = false := HNO.out (fun h => hid (h.bare hfr).1)
          clear hid
          go_wp2_with fail
          go_ret
          exact ⟨rfl, HA.out⟩
        have ki : (p.id == 0) = true := by simp [hid]
        have HID := Lib.hid hid
        clear hid
        by_cases hof : p.off = 0
        rotate_left
        · have ko : (p.off == 0) = false := by simp [hof]
          obtain rfl : z = false := HNO.out (fun h => hof (h.bare hfr).2.1)
          clear hof
          go_wp2_with fail
          go_ret
          exact ⟨rfl, HA.out⟩
        have ko : (p.off == 0) = true := by simp [hof]
        have HOF := Lib.hid hof
        clear hof
        obtain rfl : z = true := HYES.out ⟨H1.out, hdf, H5.out, (of_decide_eq_true HB12.out).1, (by have := (of_decide_eq_true HB12.out).2; omega), (of_decide_eq_true HB11.out).1, (of_decide_eq_true HB11.out).2, (of_decide_eq_true HB14.out).1, (of_decide_eq_true HB14.out).2, (of_decide_eq_true HB13.out).1, (of_decide_eq_true HB13.out).2, H6.out, of_decide_eq_true HSV.out, of_decide_eq_true HDV.out, o1, (by have := H8.out; omega), H8.out, (fun h => by rw [hmr] at h; simp at h), (fun _ => HN0.out), by omega, (fun _ => ⟨HID.out, HOF.out, hmr⟩), (by unfold hofP; rw [hfr]; simp only [Bool.false_eq_true, if_false]; omega)⟩
        go_wp2_with fail
        go_ret
        exact ⟨by first | rfl | (simp; omega), HA.out⟩
      · have k10 : decide (0 < p.off) = false := decide_eq_false h10
        generalize hfr : p.frag = fr at c9
        cases fr
        rotate_left
        · by_cases hq : (p.d.length : Int) + 8 ≤ 65535
          · obtain rfl : z = true := HYES.out ⟨H1.out, hdf, H5.out, (of_decide_eq_true HB12.out).1, (by have := (of_decide_eq_true HB12.out).2; omega), (of_decide_eq_true HB11.out).1, (of_decide_eq_true HB11.out).2, (of_decide_eq_true HB14.out).1, (of_decide_eq_true HB14.out).2, (of_decide_eq_true HB13.out).1, (of_decide_eq_true HB13.out).2, H6.out, of_decide_eq_true HSV.out, of_decide_eq_true HDV.out, o1, (by have := H8.out; omega), H8.out, (fun h => by rw [hmr] at h; simp at h), (fun _ => HN0.out), by omega, (fun h => by rw [hfr] at h; simp at h), (by unfold hofP; rw [hfr]; simp only [if_true]; omega)⟩
            go_wp2_with fail
            go_ret
            exact ⟨by first | rfl | (simp; omega), HA.out⟩
          · obtain rfl : z = false := HNO.out (fun h => by have := h.all; unfold hofP at this; rw [hfr] at this; simp only [if_true] at this; omega)
            go_wp2_with fail
            go_ret
            exact ⟨by first | rfl | (simp; omega), HA.out⟩
        by_cases hid : p.id = 0
        rotate_left
        · have ki : (p.id == 0) = false := by simp [hid]
          obtain rfl : z = false := HNO.out (fun h => hid (h.bare hfr).1)
          clear hid
          go_wp2_with fail
          go_ret
          exact ⟨rfl, HA.out⟩
        have ki : (p.id == 0) = true := by simp [hid]
        have HID := Lib.hid hid
        clear hid
        by_cases hof : p.off = 0
        rotate_left
        · have ko : (p.off == 0) = false := by simp [hof]
          obtain rfl : z = false := HNO.out (fun h => hof (h.bare hfr).2.1)
          clear hof
          go_wp2_with fail
          go_ret
          exact ⟨rfl, HA.out⟩
        have ko : (p.off == 0) = true := by simp [hof]
        have HOF := Lib.hid hof
        clear hof
        obtain rfl : z = true := HYES.out ⟨H1.out, hdf, H5.out, (of_decide_eq_true HB12.out).1, (by have := (of_decide_eq_true HB12.out).2; omega), (of_decide_eq_true HB11.out).1, (of_decide_eq_true HB11.out).2, (of_decide_eq_true HB14.out).1, (of_decide_eq_true HB14.out).2, (of_decide_eq_true HB13.out).1, (of_decide_eq_true HB13.out).2, H6.out, of_decide_eq_true HSV.out, of_decide_eq_true HDV.out, o1, (by have := H8.out; omega), H8.out, (fun h => by rw [hmr] at h; simp at h), (fun _ => HN0.out), by omega, (fun _ => ⟨HID.out, HOF.out, hmr⟩), (by unfold hofP; rw [hfr]; simp only [Bool.false_eq_true, if_false]; omega)⟩
        go_wp2_with fail
        go_ret
        exact ⟨by first | rfl | (simp; omega), HA.out⟩
    · by_cases h11 : p.d.length % 8 = 0
      rotate_left
      · have k11 : ((p.d.length : Int) % 8 != 0) = true := by simp; omega
        have H11 := Lib.hid h11
        clear h11
        rcases hdec with h10 | h10
        · have k10 : decide (0 < p.off) = true := decide_eq_true h10
          obtain rfl : z = false := HNO.out (fun h => H11.out (h.m8 hmr))
          go_wp2_with fail
          go_ret
          exact ⟨rfl, HA.out⟩
        · have k10 : decide (0 < p.off) = false := decide_eq_false h10
          obtain rfl : z = false := HNO.out (fun h => H11.out (h.m8 hmr))
          go_wp2_with fail
          go_ret
          exact ⟨rfl, HA.out⟩
      have k11 : ((p.d.length : Int) % 8 != 0) = false := by simp; omega
      have H11 := Lib.hid h11
      clear h11
      rcases hdec with h10 | h10
      · have k10 : decide (0 < p.off) = true := decide_eq_true h10
        generalize hfr : p.frag = fr at c9
        cases fr
        rotate_left
        · by_cases hq : (p.d.length : Int) + 8 ≤ 65535
          · obtain rfl : z = true := HYES.out ⟨H1.out, hdf, H5.out, (of_decide_eq_true HB12.out).1, (by have := (of_decide_eq_true HB12.out).2; omega), (of_decide_eq_true HB11.out).1, (of_decide_eq_true HB11.out).2, (of_decide_eq_true HB14.out).1, (of_decide_eq_true HB14.out).2, (of_decide_eq_true HB13.out).1, (of_decide_eq_true HB13.out).2, H6.out, of_decide_eq_true HSV.out, of_decide_eq_true HDV.out, o1, (by have := H8.out; omega), H8.out, (fun _ => H11.out), (fun _ => HN0.out), by omega, (fun h => by rw [hfr] at h; simp at h), (by unfold hofP; rw [hfr]; simp only [if_true]; omega)⟩
            go_wp2_with fail
            go_ret
            exact ⟨by first | rfl | (simp; omega), HA.out⟩
          · obtain rfl : z = false := HNO.out (fun h => by have := h.all; unfold hofP at this; rw [hfr] at this; simp only [if_true] at this; omega)
            go_wp2_with fail
            go_ret
            exact ⟨by first | rfl | (simp; omega), HA.out⟩
        by_cases hid : p.id = 0
        rotate_left
        · have ki : (p.id == 0) = false := by simp [hid]
          obtain rfl : z = false := HNO.out (fun h => hid (h.bare hfr).1)
          clear hid
          go_wp2_with fail
          go_ret
          exact ⟨rfl, HA.out⟩
        have ki : (p.id == 0) = true := by simp [hid]
        have HID := Lib.hid hid
        clear hid
        by_cases hof : p.off = 0
        rotate_left
        · have ko : (p.off == 0) = false := by simp [hof]
          obtain rfl : z = false := HNO.out (fun h => hof (h.bare hfr).2.1)
          clear hof
          go_wp2_with fail
          go_ret
          exact ⟨rfl, HA.out⟩
        have ko : (p.off == 0) = true := by simp [hof]
        have HOF := Lib.hid hof
        clear hof
        obtain rfl : z = false := HNO.out (fun h => by have := (h.bare hfr).2.2; rw [hmr] at this; simp at this)
        go_wp2_with fail
        go_ret
        exact ⟨rfl, HA.out⟩
      · have k10 : decide (0 < p.off) = false := decide_eq_false h10
        generalize hfr : p.frag = fr at c9
        cases fr
        rotate_left
        · by_cases hq : (p.d.length : Int) + 8 ≤ 65535
          · obtain rfl : z = true := HYES.out ⟨H1.out, hdf, H5.out, (of_decide_eq_true HB12.out).1, (by have := (of_decide_eq_true HB12.out).2; omega), (of_decide_eq_true HB11.out).1, (of_decide_eq_true HB11.out).2, (of_decide_eq_true HB14.out).1, (of_decide_eq_true HB14.out).2, (of_decide_eq_true HB13.out).1, (of_decide_eq_true HB13.out).2, H6.out, of_decide_eq_true HSV.out, of_decide_eq_true HDV.out, o1, (by have := H8.out; omega), H8.out, (fun _ => H11.out), (fun _ => HN0.out), by omega, (fun h => by rw [hfr] at h; simp at h), (by unfold hofP; rw [hfr]; simp only [if_true]; omega)⟩
            go_wp2_with fail
            go_ret
            exact ⟨by first | rfl | (simp; omega), HA.out⟩
          · obtain rfl : z = false := HNO.out (fun h => by have := h.all; unfold hofP at this; rw [hfr] at this; simp only [if_true] at this; omega)
            go_wp2_with fail
            go_ret
            exact ⟨by first | rfl | (simp; omega), HA.out⟩
        by_cases hid : p.id = 0
        rotate_left
        · have ki : (p.id == 0) = false := by simp [hid]
          obtain rfl : z = false := HNO.out (fun h => hid (h.bare hfr).1)
          clear hid
          go_wp2_with fail
          go_ret
          exact ⟨rfl, HA.out⟩
        have ki : (p.id == 0) = true := by simp [hid]
        have HID := Lib.hid hid
        clear hid
        by_cases hof : p.off = 0
        rotate_left
        · have ko : (p.off == 0) = false := by simp [hof]
          obtain rfl : z = false := HNO.out (fun h => hof (h.bare hfr).2.1)
          clear hof
          go_wp2_with fail
          go_ret
          exact ⟨rfl, HA.out⟩
        have ko : (p.off == 0) = true := by simp [hof]
        have HOF := Lib.hid hof
        clear hof
        obtain rfl : z = false := HNO.out (fun h => by have := (h.bare hfr).2.2; rw [hmr] at this; simp at this)
        go_wp2_with fail
        go_ret
        exact ⟨rfl, HA.out⟩
#print axioms rright_c
end Go.Proofs.YtaicckenpplceaaGreatDoor.S6
