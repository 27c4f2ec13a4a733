/-
  formed, Right, Head, flagsOf.
-/
import Derived.Test.YtbkeilboneaejaaGreatDoorFld
namespace Go.Proofs.YtbkeilboneaejaaGreatDoor
open Go.ChangeShapes Go.WideShapes Go.ChangeAt Go.RowKit Num
set_option linter.unusedVariables false
set_option maxHeartbeats 4000000
set_option maxRecDepth 100000

theorem formed_c (p : Pk) (ov dv : Value) (w : World) (hw : Wf p) (ho : Sl w ov p.o) (hd : Sl w dv p.d) :
    Calls Tryz.prog 88 #[.agg (csP p ov dv)] w fun E w' => E = .returned (.bool (formedP p)) ∧ Away [] w w' := by
  have ha := hw.ad
  have KP : Hid (∀ w', Away [] w w' → Calls Tryz.prog 110 #[.agg (csP p ov dv)] w' fun E w'' => E = .returned (.bool (placedP p.off p.more p.d.length)) ∧ Away [] w' w'') := fun w' h => placed_c p ov dv w' hw (ho.on h) (hd.on h)
  obtain ⟨ao, capo, rfl, -⟩ := ho
  obtain ⟨ad, capd, rfl, -⟩ := hd
  have hn := hw.dn
  have hm := hw.ol
  have hl1 := hw.sl
  have hl2 := hw.dl
  clear hw
  obtain ⟨z, hz⟩ : ∃ z, z = formedP p := ⟨_, rfl⟩
  rw [← hz]
  have HZ : Hid (z = formedP p) := hz
  unfold formedP at HZ
  clear hz
  go_enter Tryz.func88, Tryz.ntmps88
  go_wp2_with (refine wpList_box28 rfl _ rfl p _ _ rfl ?_; refine Hid.out ?_)
  refine Lib.hid ?_
  intro g w1 hg hb haw
  have HB : Hid (BoxP w1 g p (.slice ao p.o.length capo) (.slice ad p.d.length capd)) := hb
  have hc := hb.cells ha
  have c0 := hc.v; have c1 := hc.tos; have c2 := hc.flow; have c3 := hc.frag; have c4 := hc.id; have c5 := hc.ttl; have c6 := hc.proto
  have HR1 : Hid (w1.rangeAt g 3 (cellsA p.sv p.sb)) := hb.srow
  have HA : Hid (Away [] w w1) := haw
  have HAD : Hid (Ad p) := ha
  clear hc hb haw hg ha
  by_cases h1 : p.v = 4
  rotate_left
  · obtain rfl : z = false := by rw [HZ.out]; rw [show decide (p.v = 4) = false from by simp [h1]]; simp
    have h1' : (p.v == 4) = false := by simp [h1]
    have h1'' : decide (p.v = 4) = false := by simp [h1]
    go_wp2_with fail
    go_ret
    exact ⟨rfl, HA.out⟩
  have h1' : (p.v == 4) = true := by simp [h1]
  have h1'' : decide (p.v = 4) = true := by simp [h1]
  by_cases h2 : p.flow = 0
  rotate_left
  · obtain rfl : z = false := by rw [HZ.out]; rw [show decide (p.flow = 0) = false from by simp [h2]]; simp
    have h2' : (p.flow == 0) = false := by simp [h2]
    have h2'' : decide (p.flow = 0) = false := by simp [h2]
    clear h1 h2
    go_wp2_with fail
    go_ret
    exact ⟨rfl, HA.out⟩
  have h2' : (p.flow == 0) = true := by simp [h2]
  have h2'' : decide (p.flow = 0) = true := by simp [h2]
  clear h1 h2
  generalize p.frag = fr at *
  cases fr
  rotate_left
  · obtain rfl : z = false := by rw [HZ.out]; simp
    go_wp2_with fail
    go_ret
    exact ⟨rfl, HA.out⟩
  by_cases h4 : p.id ≤ 65535
  rotate_left
  · obtain rfl : z = false := by rw [HZ.out]; rw [show decide (p.id ≤ 65535) = false from by simp; omega]; simp
    have h4' : decide (p.id ≤ 65535) = false := by simp; omega
    go_wp2_with fail
    go_ret
    exact ⟨rfl, HA.out⟩
  have h4' : decide (p.id ≤ 65535) = true := by simp [h4]
  rw [h1'', h2'', h4'] at HZ
  simp only [Bool.true_and, Bool.not_false] at HZ
  go_wp2_with fail
  refine (octet_c p.tos _).mono ?_
  rintro E w' ⟨rfl, rfl⟩
  generalize octP p.tos = b5 at *
  cases b5
  · obtain rfl : z = false := by rw [HZ.out]; simp
    go_wp2_with fail
    go_ret
    exact ⟨rfl, HA.out⟩
  go_wp2_with (refine wpList_load24m rfl _ rfl _ _ rfl p.sv p.sb (by exact HR1.out) hl1 ?_)
  refine (octet_c p.ttl _).mono ?_
  rintro E w' ⟨rfl, rfl⟩
  generalize octP p.ttl = b6 at *
  cases b6
  · obtain rfl : z = false := by rw [HZ.out]; simp
    go_wp2_with fail
    go_ret
    exact ⟨rfl, HA.out⟩
  go_wp2_with (refine wpList_load24m rfl _ rfl _ _ rfl p.sv p.sb (by exact HR1.out) hl1 ?_)
  refine (octet_c p.proto _).mono ?_
  rintro E w' ⟨rfl, rfl⟩
  generalize octP p.proto = b7 at *
  cases b7
  · obtain rfl : z = false := by rw [HZ.out]; simp
    go_wp2_with fail
    go_ret
    exact ⟨rfl, HA.out⟩
  go_wp2_with (refine wpList_load24m rfl _ rfl _ _ rfl p.sv p.sb (by exact HR1.out) hl1 ?_)
  refine (address_c p.sv p.sb (by assumption) _).mono ?_
  rintro E w8 ⟨rfl, haw⟩
  have HA2 : Hid (Away [] w w8) := HA.out.next haw (by simp)
  have HB2 : Hid (BoxP w8 g p (.slice ao p.o.length capo) (.slice ad p.d.length capd)) := HB.out.on haw
  clear HA HB haw c0 c1 c2 c3 c4 c5 c6 HR1
  have HA := HA2; have HB := HB2; clear HA2 HB2
  have HR2 : Hid (w8.rangeAt g 20 (cellsA p.dv p.db)) := HB.out.drow HAD.out
  have c7 := (HB.out.cells HAD.out).o
  have c8 := (HB.out.cells HAD.out).d
  generalize adrP p.sv p.sb = b8 at *
  cases b8
  · obtain rfl : z = false := by rw [HZ.out]; simp
    go_wp2_with fail
    go_ret
    exact ⟨rfl, HA.out⟩
  go_wp2_with (first | (refine wpList_load24m rfl _ rfl _ _ rfl p.dv p.db (by exact HR2.out) hl2 ?_) | (refine wpList_load28 rfl _ rfl _ rfl p _ _ (by exact HB.out) HAD.out ?_))
  refine (address_c p.dv p.db (by assumption) _).mono ?_
  rintro E w9 ⟨rfl, haw⟩
  have HA2 : Hid (Away [] w w9) := HA.out.next haw (by simp)
  have HB2 : Hid (BoxP w9 g p (.slice ao p.o.length capo) (.slice ad p.d.length capd)) := HB.out.on haw
  clear HA HB haw HR2
  have HA := HA2; have HB := HB2; clear HA2 HB2
  have HR2 : Hid (w9.rangeAt g 20 (cellsA p.dv p.db)) := HB.out.drow HAD.out
  have c7 := (HB.out.cells HAD.out).o
  have c8 := (HB.out.cells HAD.out).d
  generalize adrP p.dv p.db = b9 at *
  cases b9
  · obtain rfl : z = false := by rw [HZ.out]; simp
    go_wp2_with fail
    go_ret
    exact ⟨rfl, HA.out⟩
  go_wp2_with (first | (refine wpList_load24m rfl _ rfl _ _ rfl p.dv p.db (by exact HR2.out) hl2 ?_) | (refine wpList_load28 rfl _ rfl _ rfl p _ _ (by exact HB.out) HAD.out ?_))
  refine (KP.out _ HA.out).mono ?_
  rintro E w10 ⟨rfl, haw⟩
  have HA2 : Hid (Away [] w w10) := HA.out.next haw (by simp)
  have HB2 : Hid (BoxP w10 g p (.slice ao p.o.length capo) (.slice ad p.d.length capd)) := HB.out.on haw
  clear HA HB haw c7 c8 HR2 KP
  have HA := HA2; have HB := HB2; clear HA2 HB2
  have c7 := (HB.out.cells HAD.out).o
  have c8 := (HB.out.cells HAD.out).d
  generalize placedP p.off p.more p.d.length = b10 at *
  cases b10
  · obtain rfl : z = false := by rw [HZ.out]; simp
    go_wp2_with fail
    go_ret
    exact ⟨rfl, HA.out⟩
  simp only [Bool.true_and, Bool.and_true] at HZ
  by_cases h11 : 20 + p.o.length + p.d.length ≤ 65535
  · obtain rfl : z = true := by rw [HZ.out]; simpa using h11
    go_wp2_with fail
    go_ret
    exact ⟨by simp; omega, HA.out⟩
  · obtain rfl : z = false := by rw [HZ.out]; simpa using h11
    go_wp2_with fail
    go_ret
    exact ⟨by simp; omega, HA.out⟩
#print axioms formed_c
end Go.Proofs.YtbkeilboneaejaaGreatDoor
