/-
  Right, Head, flagsOf.
-/
import Derived.Test.YtkccpidgeecemaaGreatDoorPktA
import Derived.Test.YtkccpidgeecemaaGreatDoorOpA
namespace Go.Proofs.YtkccpidgeecemaaGreatDoor
open Go.ChangeShapes Go.WideShapes Go.ChangeAt Go.RowKit Num
set_option linter.unusedVariables false
set_option maxHeartbeats 4000000
set_option maxRecDepth 100000
theorem octet_c (n : Int) (w : World) : Calls Tryz.prog 61 #[.int .i64 n] w fun E w' => E = .returned (.bool (octP n)) ∧ w' = w := by
  unfold octP
  by_cases h0 : 0 ≤ n
  · have e0 : decide (0 ≤ n) = true := by simp [h0]
    go_enter Tryz.func61, Tryz.ntmps61
    go_wp2
    go_ret
    exact ⟨by rw [e0]; rfl, rfl⟩
  · have e0 : decide (0 ≤ n) = false := by simp [h0]
    go_enter Tryz.func61, Tryz.ntmps61
    go_wp2
    go_ret
    exact ⟨rfl, rfl⟩
theorem avalid4 (l : List Int) : avalidP 4 l = decide (l.drop 4 = z12) := by unfold avalidP eqL; rw [if_pos rfl]
theorem address_c (v : Int) (l : List Int) (hl : l.length = 16) (w : World) : Calls Tryz.prog 62 #[.agg (csA v l)] w fun E w' => E = .returned (.bool (adrP v l)) ∧ Away [] w w' := by
  obtain ⟨cs, hcs⟩ : ∃ c, c = csA v l := ⟨_, rfl⟩
  have r1 : rowAt (w.alloc (.cells cs 35)) w.heap.size = some (csA v l) := by rw [hcs]; exact rowAt_new w _ 35 (csA_size hl)
  have c1 : cs[0]? = some (.int .i64 v) := by rw [hcs]; exact csA_zero v l
  have HA : Hid (Away [] w (w.alloc (.cells cs 35))) := (Away.refl [] w).alloc _
  rw [← hcs]
  clear hcs
  have key := avalid_c v l hl
  have KEY : Hid (∀ w, Calls Tryz.prog 65 #[.agg (csA v l)] w fun e w' => e = .returned (.bool (avalidP v l)) ∧ Below w.heap.size w w') := key
  clear key
  by_cases hv : v = 4
  · subst hv
    rw [avalid4] at KEY
    have HE : Hid (adrP 4 l = decide (l.drop 4 = z12)) := by show _ = _; unfold adrP; simp
    go_enter Tryz.func62, Tryz.ntmps62
    go_wp2_with (refine wpList_load24 rfl _ rfl _ rfl _ (by assumption) ?_)
    refine (KEY.out _).mono ?_
    rintro E w' ⟨rfl, hb⟩
    have HB : Hid (Away [] w w') := HA.out.next (Away.of_below hb) (by simp)
    clear hb
    generalize decide (l.drop 4 = z12) = z at *
    go_wp2_with fail
    go_ret
    exact ⟨by rw [HE.out]; rfl, HB.out⟩
  · have h1 : decide (v = 4) = false := by simp [hv]
    have h2 : (v == 4) = false := by simp [hv]
    have HE : Hid (adrP v l = false) := by show _ = _; unfold adrP; simp [hv]
    go_enter Tryz.func62, Tryz.ntmps62
    go_wp2_with fail
    go_ret
    exact ⟨by rw [HE.out]; rfl, HA.out⟩
theorem placed_c (p : Pk) (ov dv : Value) (w : World) (hw : Wf p) (ho : Sl w ov p.o) (hd : Sl w dv p.d) :
    Calls Tryz.prog 63 #[.agg (csP p ov dv)] w fun E w' => E = .returned (.bool (placedP p.off p.more p.d.length)) ∧ Away [] w w' := by
  have ha := hw.ad
  obtain ⟨a, cap, rfl, -⟩ := hd
  have hn := hw.dn
  have hi := hw.off
  unfold i64ok at hi
  clear ho hw
  obtain ⟨z, hz⟩ : ∃ z, z = placedP p.off p.more p.d.length := ⟨_, rfl⟩
  rw [← hz]
  have HZ : Hid (z = placedP p.off p.more p.d.length) := hz
  clear hz
  go_enter Tryz.func63, Tryz.ntmps63
  go_wp2_with (refine wpList_box28 rfl _ rfl p _ _ rfl ?_; refine Hid.out ?_)
  refine Lib.hid ?_
  intro g w1 hg hb haw
  have hc := hb.cells ha
  have c1 := hc.off
  have c2 := hc.more
  have c3 := hc.d
  have HA : Hid (Away [] w w1) := haw
  clear hc hb haw hg ha
  generalize p.off = off at *
  generalize p.more = more at *
  generalize p.d.length = n at *
  have hdec : off < 0 ∨ (0 ≤ off ∧ 65528 < off) ∨ (0 ≤ off ∧ off ≤ 65528 ∧ off % 8 ≠ 0) ∨ (0 ≤ off ∧ off ≤ 65528 ∧ off % 8 = 0) := by omega
  rcases hdec with h | ⟨h1, h2⟩ | ⟨h1, h2, h3⟩ | ⟨h1, h2, h3⟩
  · obtain rfl : z = false := by rw [HZ.out]; unfold placedP; rw [show decide (0 ≤ off) = false from by simp; omega]; rfl
    go_wp2_with fail
    go_ret
    exact ⟨rfl, HA.out⟩
  · obtain rfl : z = false := by rw [HZ.out]; unfold placedP; rw [show decide (off ≤ 65528) = false from by simp; omega]; simp
    go_wp2_with fail
    go_ret
    exact ⟨rfl, HA.out⟩
  · obtain rfl : z = false := by rw [HZ.out]; unfold placedP; rw [show decide (off % 8 = 0) = false from by simp; omega]; simp
    have h4 : (off % 8 == 0) = false := by simp [h3]
    have h5 : (off % 8 != 0) = true := by simp [h3]
    clear h3
    go_wp2_with fail
    go_ret
    exact ⟨rfl, HA.out⟩
  · have h4 : (off % 8 == 0) = true := by simp [h3]
    have h5 : (off % 8 != 0) = false := by simp [h3]
    clear h3
    have HP : Hid (z = ((!more || decide (n % 8 = 0)) && (!(more || decide (0 < off)) || decide (n ≠ 0)) && decide (off + n ≤ 65535))) := by
      show _ = _
      rw [HZ.out]; unfold placedP; rw [show decide (0 ≤ off) = true from by simp; omega, show decide (off ≤ 65528) = true from by simp; omega, show decide (off % 8 = 0) = true from by simpa using h4]; simp
    clear HZ
    cases more
    · by_cases h6 : 0 < off
      · by_cases h7 : n = 0
        · subst h7
          obtain rfl : z = false := by rw [HP.out]; simp [h6]
          go_wp2_with fail
          go_ret
          exact ⟨rfl, HA.out⟩
        · have HQ : Hid (z = decide (off + n ≤ 65535)) := by show _ = _; rw [HP.out]; simp [h6, h7]
          have h8 : ((n : Int) == 0) = false := by simp; omega
          have h9 : decide ((n : Int) = 0) = false := by simp; omega
          clear HP h7
          go_wp2_with fail
          go_ret
          exact ⟨by rw [HQ.out]; rfl, HA.out⟩
      · have HQ : Hid (z = decide (off + n ≤ 65535)) := by show _ = _; rw [HP.out]; simp [h6]
        obtain rfl : off = 0 := by omega
        clear HP h6 h1 h2 h4 h5
        go_wp2_with fail
        go_ret
        exact ⟨by rw [HQ.out]; simp, HA.out⟩
    · by_cases h6 : n % 8 = 0
      · have h10 : ((n : Int) % 8 == 0) = true := by simp; omega
        have h11 : ((n : Int) % 8 != 0) = false := by simp; omega
        by_cases h7 : n = 0
        · subst h7
          obtain rfl : z = false := by rw [HP.out]; simp
          go_wp2_with fail
          go_ret
          exact ⟨rfl, HA.out⟩
        · have HQ : Hid (z = decide (off + n ≤ 65535)) := by show _ = _; rw [HP.out]; simp [h6, h7]
          have h8 : ((n : Int) == 0) = false := by simp; omega
          have h9 : decide ((n : Int) = 0) = false := by simp; omega
          clear HP h7 h6
          go_wp2_with fail
          go_ret
          exact ⟨by rw [HQ.out]; rfl, HA.out⟩
      · have h10 : ((n : Int) % 8 == 0) = false := by simp; omega
        have h11 : ((n : Int) % 8 != 0) = true := by simp; omega
        obtain rfl : z = false := by rw [HP.out]; simp [h6]
        clear h6
        go_wp2_with fail
        go_ret
        exact ⟨rfl, HA.out⟩
theorem formed_c (p : Pk) (ov dv : Value) (w : World) (hw : Wf p) (ho : Sl w ov p.o) (hd : Sl w dv p.d) :
    Calls Tryz.prog 41 #[.agg (csP p ov dv)] w fun E w' => E = .returned (.bool (formedP p)) ∧ Away [] w w' := by
  have ha := hw.ad
  have KP : Hid (∀ w', Away [] w w' → Calls Tryz.prog 63 #[.agg (csP p ov dv)] w' fun E w'' => E = .returned (.bool (placedP p.off p.more p.d.length)) ∧ Away [] w' w'') := fun w' h => placed_c p ov dv w' hw (ho.on h) (hd.on h)
  obtain ⟨ao, capo, rfl, -⟩ := ho
  obtain ⟨ad, capd, rfl, -⟩ := hd
  have hn := hw.dn
  have hm := hw.ol
  have hl1 := hw.sl
  have hl2 := hw.dl
  clear hw
  obtain ⟨z, hz⟩ : ∃ z, z = formedP p := ⟨_, rfl⟩
  rw [← hz]
  have HZ : Hid (z = formedP p) := hz
  unfold formedP at HZ
  clear hz
  go_enter Tryz.func41, Tryz.ntmps41
  go_wp2_with (refine wpList_box28 rfl _ rfl p _ _ rfl ?_; refine Hid.out ?_)
  refine Lib.hid ?_
  intro g w1 hg hb haw
  have HB : Hid (BoxP w1 g p (.slice ao p.o.length capo) (.slice ad p.d.length capd)) := hb
  have hc := hb.cells ha
  have c0 := hc.v; have c1 := hc.tos; have c2 := hc.flow; have c3 := hc.frag; have c4 := hc.id; have c5 := hc.ttl; have c6 := hc.proto
  have HR1 : Hid (w1.rangeAt g 3 (cellsA p.sv p.sb)) := hb.srow
  have HA : Hid (Away [] w w1) := haw
  have HAD : Hid (Ad p) := ha
  clear hc hb haw hg ha
  by_cases h1 : p.v = 4
  rotate_left
  · obtain rfl : z = false := by rw [HZ.out]; rw [show decide (p.v = 4) = false from by simp [h1]]; simp
    have h1' : (p.v == 4) = false := by simp [h1]
    have h1'' : decide (p.v = 4) = false := by simp [h1]
    go_wp2_with fail
    go_ret
    exact ⟨rfl, HA.out⟩
  have h1' : (p.v == 4) = true := by simp [h1]
  have h1'' : decide (p.v = 4) = true := by simp [h1]
  by_cases h2 : p.flow = 0
  rotate_left
  · obtain rfl : z = false := by rw [HZ.out]; rw [show decide (p.flow = 0) = false from by simp [h2]]; simp
    have h2' : (p.flow == 0) = false := by simp [h2]
    have h2'' : decide (p.flow = 0) = false := by simp [h2]
    clear h1 h2
    go_wp2_with fail
    go_ret
    exact ⟨rfl, HA.out⟩
  have h2' : (p.flow == 0) = true := by simp [h2]
  have h2'' : decide (p.flow = 0) = true := by simp [h2]
  clear h1 h2
  generalize p.frag = fr at *
  cases fr
  rotate_left
  · obtain rfl : z = false := by rw [HZ.out]; simp
    go_wp2_with fail
    go_ret
    exact ⟨rfl, HA.out⟩
  by_cases h4 : p.id ≤ 65535
  rotate_left
  · obtain rfl : z = false := by rw [HZ.out]; rw [show decide (p.id ≤ 65535) = false from by simp; omega]; simp
    have h4' : decide (p.id ≤ 65535) = false := by simp; omega
    go_wp2_with fail
    go_ret
    exact ⟨rfl, HA.out⟩
  have h4' : decide (p.id ≤ 65535) = true := by simp [h4]
  rw [h1'', h2'', h4'] at HZ
  simp only [Bool.true_and, Bool.not_false] at HZ
  go_wp2_with fail
  refine (octet_c p.tos _).mono ?_
  rintro E w' ⟨rfl, rfl⟩
  generalize octP p.tos = b5 at *
  cases b5
  · obtain rfl : z = false := by rw [HZ.out]; simp
    go_wp2_with fail
    go_ret
    exact ⟨rfl, HA.out⟩
  go_wp2_with (refine wpList_load24m rfl _ rfl _ _ rfl p.sv p.sb (by exact HR1.out) hl1 ?_)
  refine (octet_c p.ttl _).mono ?_
  rintro E w' ⟨rfl, rfl⟩
  generalize octP p.ttl = b6 at *
  cases b6
  · obtain rfl : z = false := by rw [HZ.out]; simp
    go_wp2_with fail
    go_ret
    exact ⟨rfl, HA.out⟩
  go_wp2_with (refine wpList_load24m rfl _ rfl _ _ rfl p.sv p.sb (by exact HR1.out) hl1 ?_)
  refine (octet_c p.proto _).mono ?_
  rintro E w' ⟨rfl, rfl⟩
  generalize octP p.proto = b7 at *
  cases b7
  · obtain rfl : z = false := by rw [HZ.out]; simp
    go_wp2_with fail
    go_ret
    exact ⟨rfl, HA.out⟩
  go_wp2_with (refine wpList_load24m rfl _ rfl _ _ rfl p.sv p.sb (by exact HR1.out) hl1 ?_)
  refine (address_c p.sv p.sb (by assumption) _).mono ?_
  rintro E w8 ⟨rfl, haw⟩
  have HA2 : Hid (Away [] w w8) := HA.out.next haw (by simp)
  have HB2 : Hid (BoxP w8 g p (.slice ao p.o.length capo) (.slice ad p.d.length capd)) := HB.out.on haw
  clear HA HB haw c0 c1 c2 c3 c4 c5 c6 HR1
  have HA := HA2; have HB := HB2; clear HA2 HB2
  have HR2 : Hid (w8.rangeAt g 20 (cellsA p.dv p.db)) := HB.out.drow HAD.out
  have c7 := (HB.out.cells HAD.out).o
  have c8 := (HB.out.cells HAD.out).d
  generalize adrP p.sv p.sb = b8 at *
  cases b8
  · obtain rfl : z = false := by rw [HZ.out]; simp
    go_wp2_with fail
    go_ret
    exact ⟨rfl, HA.out⟩
  go_wp2_with (first | (refine wpList_load24m rfl _ rfl _ _ rfl p.dv p.db (by exact HR2.out) hl2 ?_) | (refine wpList_load28 rfl _ rfl _ rfl p _ _ (by exact HB.out) HAD.out ?_))
  refine (address_c p.dv p.db (by assumption) _).mono ?_
  rintro E w9 ⟨rfl, haw⟩
  have HA2 : Hid (Away [] w w9) := HA.out.next haw (by simp)
  have HB2 : Hid (BoxP w9 g p (.slice ao p.o.length capo) (.slice ad p.d.length capd)) := HB.out.on haw
  clear HA HB haw HR2
  have HA := HA2; have HB := HB2; clear HA2 HB2
  have HR2 : Hid (w9.rangeAt g 20 (cellsA p.dv p.db)) := HB.out.drow HAD.out
  have c7 := (HB.out.cells HAD.out).o
  have c8 := (HB.out.cells HAD.out).d
  generalize adrP p.dv p.db = b9 at *
  cases b9
  · obtain rfl : z = false := by rw [HZ.out]; simp
    go_wp2_with fail
    go_ret
    exact ⟨rfl, HA.out⟩
  go_wp2_with (first | (refine wpList_load24m rfl _ rfl _ _ rfl p.dv p.db (by exact HR2.out) hl2 ?_) | (refine wpList_load28 rfl _ rfl _ rfl p _ _ (by exact HB.out) HAD.out ?_))
  refine (KP.out _ HA.out).mono ?_
  rintro E w10 ⟨rfl, haw⟩
  have HA2 : Hid (Away [] w w10) := HA.out.next haw (by simp)
  have HB2 : Hid (BoxP w10 g p (.slice ao p.o.length capo) (.slice ad p.d.length capd)) := HB.out.on haw
  clear HA HB haw c7 c8 HR2 KP
  have HA := HA2; have HB := HB2; clear HA2 HB2
  have c7 := (HB.out.cells HAD.out).o
  have c8 := (HB.out.cells HAD.out).d
  generalize placedP p.off p.more p.d.length = b10 at *
  cases b10
  · obtain rfl : z = false := by rw [HZ.out]; simp
    go_wp2_with fail
    go_ret
    exact ⟨rfl, HA.out⟩
  simp only [Bool.true_and, Bool.and_true] at HZ
  by_cases h11 : 20 + p.o.length + p.d.length ≤ 65535
  · obtain rfl : z = true := by rw [HZ.out]; simpa using h11
    go_wp2_with fail
    go_ret
    exact ⟨by simp; omega, HA.out⟩
  · obtain rfl : z = false := by rw [HZ.out]; simpa using h11
    go_wp2_with fail
    go_ret
    exact ⟨by simp; omega, HA.out⟩
structure Pkt (w : World) (p : Pk) (ov dv : Value) : Prop where
  wf : Wf p
  o : Sl w ov p.o
  d : Sl w dv p.d
theorem Pkt.on {w w' : World} {p : Pk} {ov dv : Value} (h : Pkt w p ov dv) (hw : Away [] w w') : Pkt w' p ov dv := ⟨h.wf, h.o.on hw, h.d.on hw⟩
theorem right_c (p : Pk) (ov dv : Value) (w : World) (hp : Pkt w p ov dv) (hg : Glob w) :
    Calls Tryz.prog 30 #[.agg (csP p ov dv)] w fun E w' => E = .returned (.bool (rightP p)) ∧ Away [] w w' := by
  have ha := hp.wf.ad
  have KF : Hid (∀ w', Away [] w w' → Calls Tryz.prog 41 #[.agg (csP p ov dv)] w' fun E w'' => E = .returned (.bool (formedP p)) ∧ Away [] w' w'') := fun w' h => formed_c p ov dv w' hp.wf (hp.o.on h) (hp.d.on h)
  obtain ⟨hwf, ⟨ao, capo, rfl, q1, q2, q3⟩, hd⟩ := hp
  have KV : Hid (∀ w', Away [] w w' → Calls Tryz.prog 42 #[.slice ao p.o.length capo] w' fun E w'' => E = .returned (.bool (validP p.o)) ∧ Away [] w' w'') := fun w' h => ovalid_c ao p.o _ capo w' rfl q1 (q3.away h (by simp)) (hg.on h)
  clear hwf hd q1 q2 q3 hg
  obtain ⟨z, hz⟩ : ∃ z, z = rightP p := ⟨_, rfl⟩
  rw [← hz]
  have HZ : Hid (z = (formedP p && validP p.o)) := hz
  clear hz
  go_enter Tryz.func30, Tryz.ntmps30
  go_wp2_with (refine wpList_box28 rfl _ rfl p _ _ rfl ?_; refine Hid.out ?_)
  refine Lib.hid ?_
  intro g w1 hg hb haw
  have HA : Hid (Away [] w w1) := haw
  have HB : Hid (BoxP w1 g p (.slice ao p.o.length capo) dv) := hb
  have HAD : Hid (Ad p) := ha
  clear hb haw hg ha
  go_wp2_with (refine wpList_load28 rfl _ rfl _ rfl p _ _ (by exact HB.out) HAD.out ?_)
  refine (KF.out _ HA.out).mono ?_
  rintro E w2 ⟨rfl, haw⟩
  have c7 := ((HB.out.on haw).cells HAD.out).o
  have HA2 : Hid (Away [] w w2) := HA.out.next haw (by simp)
  clear HA HB haw
  generalize formedP p = y at *
  cases y
  · obtain rfl : z = false := by rw [HZ.out]; rfl
    go_wp2_with fail
    go_ret
    exact ⟨rfl, HA2.out⟩
  · go_wp2_with fail
    refine (KV.out _ HA2.out).mono ?_
    rintro E w3 ⟨rfl, haw⟩
    have HA3 : Hid (Away [] w w3) := HA2.out.next haw (by simp)
    clear haw c7
    generalize validP p.o = x at *
    obtain rfl : z = x := by rw [HZ.out]; simp
    go_wp2_with fail
    go_ret
    exact ⟨rfl, HA3.out⟩
def headP (p : Pk) : Int := if rightP p = true then 20 + p.o.length else 0
theorem head_c (p : Pk) (ov dv : Value) (w : World) (hp : Pkt w p ov dv) (hg : Glob w) :
    Calls Tryz.prog 88 #[.agg (csP p ov dv)] w fun E w' => E = .returned (.int .i64 (headP p)) ∧ Away [] w w' := by
  have ha := hp.wf.ad
  have hol := hp.wf.ol
  have KF : Hid (∀ w', Away [] w w' → Calls Tryz.prog 30 #[.agg (csP p ov dv)] w' fun E w'' => E = .returned (.bool (rightP p)) ∧ Away [] w' w'') := fun w' h => right_c p ov dv w' (hp.on h) (hg.on h)
  obtain ⟨hwf, ⟨ao, capo, rfl, q1, q2, q3⟩, hd⟩ := hp
  clear hwf hd q1 q2 q3 hg
  obtain ⟨z, hz⟩ : ∃ z, z = headP p := ⟨_, rfl⟩
  rw [← hz]
  have HZ : Hid (z = if rightP p = true then 20 + (p.o.length : Int) else 0) := hz
  clear hz
  go_enter Tryz.func88, Tryz.ntmps88
  go_wp2_with (refine wpList_box28 rfl _ rfl p _ _ rfl ?_; refine Hid.out ?_)
  refine Lib.hid ?_
  intro g w1 hg hb haw
  have HA : Hid (Away [] w w1) := haw
  have HB : Hid (BoxP w1 g p (.slice ao p.o.length capo) dv) := hb
  have HAD : Hid (Ad p) := ha
  clear hb haw hg ha
  go_wp2_with (refine wpList_load28 rfl _ rfl _ rfl p _ _ (by exact HB.out) HAD.out ?_)
  refine (KF.out _ HA.out).mono ?_
  rintro E w2 ⟨rfl, haw⟩
  have c7 := ((HB.out.on haw).cells HAD.out).o
  have HA2 : Hid (Away [] w w2) := HA.out.next haw (by simp)
  clear HA HB haw
  generalize rightP p = y at *
  cases y
  · obtain rfl : z = 0 := by rw [HZ.out]; rfl
    go_wp2_with fail
    go_ret
    exact ⟨rfl, HA2.out⟩
  · go_wp2_with fail
    go_ret
    exact ⟨by rw [HZ.out]; rfl, HA2.out⟩
end Go.Proofs.YtkccpidgeecemaaGreatDoor
