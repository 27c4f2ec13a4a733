/-
  The functions of ip4 that only ask a packet.
-/
import Derived.Test.YtbkeilboneaejaaGreatDoorPkt
import Derived.Test.YtbkeilboneaejaaGreatDoorOParse
namespace Go.Proofs.YtbkeilboneaejaaGreatDoor
open Go.ChangeShapes Go.WideShapes Go.ChangeAt Go.RowKit Num
set_option linter.unusedVariables false
set_option maxHeartbeats 4000000
set_option maxRecDepth 100000

theorem octet_c (n : Int) (w : World) : Calls Tryz.prog 108 #[.int .i64 n] w fun E w' => E = .returned (.bool (octP n)) ∧ w' = w := by
  unfold octP
  by_cases h0 : 0 ≤ n
  · have e0 : decide (0 ≤ n) = true := by simp [h0]
    go_enter Tryz.func108, Tryz.ntmps108
    go_wp2
    go_ret
    exact ⟨by rw [e0]; rfl, rfl⟩
  · have e0 : decide (0 ≤ n) = false := by simp [h0]
    go_enter Tryz.func108, Tryz.ntmps108
    go_wp2
    go_ret
    exact ⟨rfl, rfl⟩
theorem avalid4 (l : List Int) : avalidP 4 l = decide (l.drop 4 = z12) := by unfold avalidP eqL; rw [if_pos rfl]
theorem address_c (v : Int) (l : List Int) (hl : l.length = 16) (w : World) : Calls Tryz.prog 109 #[.agg (csA v l)] w fun E w' => E = .returned (.bool (adrP v l)) ∧ Away [] w w' := by
  obtain ⟨cs, hcs⟩ : ∃ c, c = csA v l := ⟨_, rfl⟩
  have r1 : rowAt (w.alloc (.cells cs 24)) w.heap.size = some (csA v l) := by rw [hcs]; exact rowAt_new w _ 24 (csA_size hl)
  have c1 : cs[0]? = some (.int .i64 v) := by rw [hcs]; exact csA_zero v l
  have HA : Hid (Away [] w (w.alloc (.cells cs 24))) := (Away.refl [] w).alloc _
  rw [← hcs]
  clear hcs
  have key := avalid_c v l hl
  have KEY : Hid (∀ w, Calls Tryz.prog 112 #[.agg (csA v l)] w fun e w' => e = .returned (.bool (avalidP v l)) ∧ Below w.heap.size w w') := key
  clear key
  by_cases hv : v = 4
  · subst hv
    rw [avalid4] at KEY
    have HE : Hid (adrP 4 l = decide (l.drop 4 = z12)) := by show _ = _; unfold adrP; simp
    go_enter Tryz.func109, Tryz.ntmps109
    go_wp2_with (refine wpList_load24 rfl _ rfl _ rfl _ (by assumption) ?_)
    refine (KEY.out _).mono ?_
    rintro E w' ⟨rfl, hb⟩
    have HB : Hid (Away [] w w') := HA.out.next (Away.of_below hb) (by simp)
    clear hb
    generalize decide (l.drop 4 = z12) = z at *
    go_wp2_with fail
    go_ret
    exact ⟨by rw [HE.out]; rfl, HB.out⟩
  · have h1 : decide (v = 4) = false := by simp [hv]
    have h2 : (v == 4) = false := by simp [hv]
    have HE : Hid (adrP v l = false) := by show _ = _; unfold adrP; simp [hv]
    go_enter Tryz.func109, Tryz.ntmps109
    go_wp2_with fail
    go_ret
    exact ⟨by rw [HE.out]; rfl, HA.out⟩
theorem placed_c (p : Pk) (ov dv : Value) (w : World) (hw : Wf p) (ho : Sl w ov p.o) (hd : Sl w dv p.d) :
    Calls Tryz.prog 110 #[.agg (csP p ov dv)] w fun E w' => E = .returned (.bool (placedP p.off p.more p.d.length)) ∧ Away [] w w' := by
  have ha := hw.ad
  obtain ⟨a, cap, rfl, -⟩ := hd
  have hn := hw.dn
  have hi := hw.off
  unfold i64ok at hi
  clear ho hw
  obtain ⟨z, hz⟩ : ∃ z, z = placedP p.off p.more p.d.length := ⟨_, rfl⟩
  rw [← hz]
  have HZ : Hid (z = placedP p.off p.more p.d.length) := hz
  clear hz
  go_enter Tryz.func110, Tryz.ntmps110
  go_wp2_with (refine wpList_box28 rfl _ rfl p _ _ rfl ?_; refine Hid.out ?_)
  refine Lib.hid ?_
  intro g w1 hg hb haw
  have hc := hb.cells ha
  have c1 := hc.off
  have c2 := hc.more
  have c3 := hc.d
  have HA : Hid (Away [] w w1) := haw
  clear hc hb haw hg ha
  generalize p.off = off at *
  generalize p.more = more at *
  generalize p.d.length = n at *
  have hdec : off < 0 ∨ (0 ≤ off ∧ 65528 < off) ∨ (0 ≤ off ∧ off ≤ 65528 ∧ off % 8 ≠ 0) ∨ (0 ≤ off ∧ off ≤ 65528 ∧ off % 8 = 0) := by omega
  rcases hdec with h | ⟨h1, h2⟩ | ⟨h1, h2, h3⟩ | ⟨h1, h2, h3⟩
  · obtain rfl : z = false := by rw [HZ.out]; unfold placedP; rw [show decide (0 ≤ off) = false from by simp; omega]; rfl
    go_wp2_with fail
    go_ret
    exact ⟨rfl, HA.out⟩
  · obtain rfl : z = false := by rw [HZ.out]; unfold placedP; rw [show decide (off ≤ 65528) = false from by simp; omega]; simp
    go_wp2_with fail
    go_ret
    exact ⟨rfl, HA.out⟩
  · obtain rfl : z = false := by rw [HZ.out]; unfold placedP; rw [show decide (off % 8 = 0) = false from by simp; omega]; simp
    have h4 : (off % 8 == 0) = false := by simp [h3]
    have h5 : (off % 8 != 0) = true := by simp [h3]
    clear h3
    go_wp2_with fail
    go_ret
    exact ⟨rfl, HA.out⟩
  · have h4 : (off % 8 == 0) = true := by simp [h3]
    have h5 : (off % 8 != 0) = false := by simp [h3]
    clear h3
    have HP : Hid (z = ((!more || decide (n % 8 = 0)) && (!(more || decide (0 < off)) || decide (n ≠ 0)) && decide (off + n ≤ 65535))) := by
      show _ = _
      rw [HZ.out]; unfold placedP; rw [show decide (0 ≤ off) = true from by simp; omega, show decide (off ≤ 65528) = true from by simp; omega, show decide (off % 8 = 0) = true from by simpa using h4]; simp
    clear HZ
    cases more
    · by_cases h6 : 0 < off
      · by_cases h7 : n = 0
        · subst h7
          obtain rfl : z = false := by rw [HP.out]; simp [h6]
          go_wp2_with fail
          go_ret
          exact ⟨rfl, HA.out⟩
        · have HQ : Hid (z = decide (off + n ≤ 65535)) := by show _ = _; rw [HP.out]; simp [h6, h7]
          have h8 : ((n : Int) == 0) = false := by simp; omega
          have h9 : decide ((n : Int) = 0) = false := by simp; omega
          clear HP h7
          go_wp2_with fail
          go_ret
          exact ⟨by rw [HQ.out]; rfl, HA.out⟩
      · have HQ : Hid (z = decide (off + n ≤ 65535)) := by show _ = _; rw [HP.out]; simp [h6]
        obtain rfl : off = 0 := by omega
        clear HP h6 h1 h2 h4 h5
        go_wp2_with fail
        go_ret
        exact ⟨by rw [HQ.out]; simp, HA.out⟩
    · by_cases h6 : n % 8 = 0
      · have h10 : ((n : Int) % 8 == 0) = true := by simp; omega
        have h11 : ((n : Int) % 8 != 0) = false := by simp; omega
        by_cases h7 : n = 0
        · subst h7
          obtain rfl : z = false := by rw [HP.out]; simp
          go_wp2_with fail
          go_ret
          exact ⟨rfl, HA.out⟩
        · have HQ : Hid (z = decide (off + n ≤ 65535)) := by show _ = _; rw [HP.out]; simp [h6, h7]
          have h8 : ((n : Int) == 0) = false := by simp; omega
          have h9 : decide ((n : Int) = 0) = false := by simp; omega
          clear HP h7 h6
          go_wp2_with fail
          go_ret
          exact ⟨by rw [HQ.out]; rfl, HA.out⟩
      · have h10 : ((n : Int) % 8 == 0) = false := by simp; omega
        have h11 : ((n : Int) % 8 != 0) = true := by simp; omega
        obtain rfl : z = false := by rw [HP.out]; simp [h6]
        clear h6
        go_wp2_with fail
        go_ret
        exact ⟨rfl, HA.out⟩
#print axioms placed_c
end Go.Proofs.YtbkeilboneaejaaGreatDoor
