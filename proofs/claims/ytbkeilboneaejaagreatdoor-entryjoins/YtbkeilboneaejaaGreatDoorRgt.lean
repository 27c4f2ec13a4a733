/-
  Right, Head, flagsOf.
-/
import Derived.Test.YtbkeilboneaejaaGreatDoorFld2
namespace Go.Proofs.YtbkeilboneaejaaGreatDoor
open Go.ChangeShapes Go.WideShapes Go.ChangeAt Go.RowKit Num
set_option linter.unusedVariables false
set_option maxHeartbeats 4000000
set_option maxRecDepth 100000

/-- A packet that can be read. -/
structure Pkt (w : World) (p : Pk) (ov dv : Value) : Prop where
  wf : Wf p
  o : Sl w ov p.o
  d : Sl w dv p.d
theorem Pkt.on {w w' : World} {p : Pk} {ov dv : Value} (h : Pkt w p ov dv) (hw : Away [] w w') : Pkt w' p ov dv := ⟨h.wf, h.o.on hw, h.d.on hw⟩

theorem right_c (p : Pk) (ov dv : Value) (w : World) (hp : Pkt w p ov dv) (hg : Glob w) :
    Calls Tryz.prog 70 #[.agg (csP p ov dv)] w fun E w' => E = .returned (.bool (rightP p)) ∧ Away [] w w' := by
  have ha := hp.wf.ad
  have KF : Hid (∀ w', Away [] w w' → Calls Tryz.prog 88 #[.agg (csP p ov dv)] w' fun E w'' => E = .returned (.bool (formedP p)) ∧ Away [] w' w'') := fun w' h => formed_c p ov dv w' hp.wf (hp.o.on h) (hp.d.on h)
  obtain ⟨hwf, ⟨ao, capo, rfl, q1, q2, q3⟩, hd⟩ := hp
  have KV : Hid (∀ w', Away [] w w' → Calls Tryz.prog 89 #[.slice ao p.o.length capo] w' fun E w'' => E = .returned (.bool (validP p.o)) ∧ Away [] w' w'') := fun w' h => ovalid_c ao p.o _ capo w' rfl q1 (q3.away h (by simp)) (hg.on h)
  clear hwf hd q1 q2 q3 hg
  obtain ⟨z, hz⟩ : ∃ z, z = rightP p := ⟨_, rfl⟩
  rw [← hz]
  have HZ : Hid (z = (formedP p && validP p.o)) := hz
  clear hz
  go_enter Tryz.func70, Tryz.ntmps70
  go_wp2_with (refine wpList_box28 rfl _ rfl p _ _ rfl ?_; refine Hid.out ?_)
  refine Lib.hid ?_
  intro g w1 hg hb haw
  have HA : Hid (Away [] w w1) := haw
  have HB : Hid (BoxP w1 g p (.slice ao p.o.length capo) dv) := hb
  have HAD : Hid (Ad p) := ha
  clear hb haw hg ha
  go_wp2_with (refine wpList_load28 rfl _ rfl _ rfl p _ _ (by exact HB.out) HAD.out ?_)
  refine (KF.out _ HA.out).mono ?_
  rintro E w2 ⟨rfl, haw⟩
  have c7 := ((HB.out.on haw).cells HAD.out).o
  have HA2 : Hid (Away [] w w2) := HA.out.next haw (by simp)
  clear HA HB haw
  generalize formedP p = y at *
  cases y
  · obtain rfl : z = false := by rw [HZ.out]; rfl
    go_wp2_with fail
    go_ret
    exact ⟨rfl, HA2.out⟩
  · go_wp2_with fail
    refine (KV.out _ HA2.out).mono ?_
    rintro E w3 ⟨rfl, haw⟩
    have HA3 : Hid (Away [] w w3) := HA2.out.next haw (by simp)
    clear haw c7
    generalize validP p.o = x at *
    obtain rfl : z = x := by rw [HZ.out]; simp
    go_wp2_with fail
    go_ret
    exact ⟨rfl, HA3.out⟩
def headP (p : Pk) : Int := if rightP p = true then 20 + p.o.length else 0
theorem head_c (p : Pk) (ov dv : Value) (w : World) (hp : Pkt w p ov dv) (hg : Glob w) :
    Calls Tryz.prog 85 #[.agg (csP p ov dv)] w fun E w' => E = .returned (.int .i64 (headP p)) ∧ Away [] w w' := by
  have ha := hp.wf.ad
  have hol := hp.wf.ol
  have KF : Hid (∀ w', Away [] w w' → Calls Tryz.prog 70 #[.agg (csP p ov dv)] w' fun E w'' => E = .returned (.bool (rightP p)) ∧ Away [] w' w'') := fun w' h => right_c p ov dv w' (hp.on h) (hg.on h)
  obtain ⟨hwf, ⟨ao, capo, rfl, q1, q2, q3⟩, hd⟩ := hp
  clear hwf hd q1 q2 q3 hg
  obtain ⟨z, hz⟩ : ∃ z, z = headP p := ⟨_, rfl⟩
  rw [← hz]
  have HZ : Hid (z = if rightP p = true then 20 + (p.o.length : Int) else 0) := hz
  clear hz
  go_enter Tryz.func85, Tryz.ntmps85
  go_wp2_with (refine wpList_box28 rfl _ rfl p _ _ rfl ?_; refine Hid.out ?_)
  refine Lib.hid ?_
  intro g w1 hg hb haw
  have HA : Hid (Away [] w w1) := haw
  have HB : Hid (BoxP w1 g p (.slice ao p.o.length capo) dv) := hb
  have HAD : Hid (Ad p) := ha
  clear hb haw hg ha
  go_wp2_with (refine wpList_load28 rfl _ rfl _ rfl p _ _ (by exact HB.out) HAD.out ?_)
  refine (KF.out _ HA.out).mono ?_
  rintro E w2 ⟨rfl, haw⟩
  have c7 := ((HB.out.on haw).cells HAD.out).o
  have HA2 : Hid (Away [] w w2) := HA.out.next haw (by simp)
  clear HA HB haw
  generalize rightP p = y at *
  cases y
  · obtain rfl : z = 0 := by rw [HZ.out]; rfl
    go_wp2_with fail
    go_ret
    exact ⟨rfl, HA2.out⟩
  · go_wp2_with fail
    go_ret
    exact ⟨by rw [HZ.out]; rfl, HA2.out⟩

theorem or14 (a : Int) (h0 : 0 ≤ a) (h1 : a < 8192) : bits .or .u16 a 16384 = a + 16384 := by
  rw [u16_or _ _ h0 (by omega) (by omega) (by omega)]
  obtain ⟨n, rfl⟩ := Int.eq_ofNat_of_zero_le h0
  rw [Int.toNat_natCast, show (16384 : Int).toNat = 2 ^ 14 * 1 from rfl, Nat.or_comm, ← Nat.two_pow_add_eq_or_of_lt (by omega)]
  omega
theorem or13 (a : Int) (h0 : 0 ≤ a) (h1 : a < 8192) : bits .or .u16 a 8192 = a + 8192 := by
  rw [u16_or _ _ h0 (by omega) (by omega) (by omega)]
  obtain ⟨n, rfl⟩ := Int.eq_ofNat_of_zero_le h0
  rw [Int.toNat_natCast, show (8192 : Int).toNat = 2 ^ 13 * 1 from rfl, Nat.or_comm, ← Nat.two_pow_add_eq_or_of_lt (by omega)]
  omega
theorem or1413 (a : Int) (h0 : 0 ≤ a) (h1 : a < 8192) : bits .or .u16 (a + 16384) 8192 = a + 16384 + 8192 := by
  rw [u16_or _ _ (by omega) (by omega) (by omega) (by omega)]
  obtain ⟨n, rfl⟩ := Int.eq_ofNat_of_zero_le h0
  have e : ((n : Int) + 16384).toNat = 2 ^ 13 * 2 + n := by omega
  rw [e, Nat.two_pow_add_eq_or_of_lt (by omega), show (8192 : Int).toNat = 2 ^ 13 from rfl, Nat.or_assoc, Nat.or_comm n, ← Nat.or_assoc, show 2 ^ 13 * 2 ||| 2 ^ 13 = 2 ^ 13 * 3 from by decide, ← Nat.two_pow_add_eq_or_of_lt (by omega)]
  omega
#print axioms head_c
end Go.Proofs.YtbkeilboneaejaaGreatDoor
