/-
  The functions of ip6 that only ask a packet.
-/
import Derived.Test.YtkccpidgeecemaaGreatDoorPkt
import Derived.Test.YtkccpidgeecemaaGreatDoorPk6
namespace Go.Proofs.YtkccpidgeecemaaGreatDoor.S6
open Go.ChangeShapes Go.WideShapes Go.ChangeAt Go.RowKit Num
set_option linter.unusedVariables false
set_option maxHeartbeats 4000000
set_option maxRecDepth 100000

theorem octet_c (n : Int) (w : World) : Calls Tryz.prog 43 #[.int .i64 n] w fun E w' => E = .returned (.bool (octP n)) ∧ w' = w := by
  unfold octP
  by_cases h0 : 0 ≤ n
  · have e0 : decide (0 ≤ n) = true := by simp [h0]
    go_enter Tryz.func43, Tryz.ntmps43
    go_wp2
    go_ret
    exact ⟨by rw [e0]; rfl, rfl⟩
  · have e0 : decide (0 ≤ n) = false := by simp [h0]
    go_enter Tryz.func43, Tryz.ntmps43
    go_wp2
    go_ret
    exact ⟨rfl, rfl⟩
theorem avalid6 (l : List Int) : avalidP 6 l = true := by unfold avalidP; rw [if_neg (by decide)]; rfl
theorem address_c (v : Int) (l : List Int) (hl : l.length = 16) (w : World) : Calls Tryz.prog 44 #[.agg (csA v l)] w fun E w' => E = .returned (.bool (decide (v = 6))) ∧ Away [] w w' := by
  obtain ⟨cs, hcs⟩ : ∃ c, c = csA v l := ⟨_, rfl⟩
  have r1 : rowAt (w.alloc (.cells cs 35)) w.heap.size = some (csA v l) := by rw [hcs]; exact rowAt_new w _ 35 (csA_size hl)
  have c1 : cs[0]? = some (.int .i64 v) := by rw [hcs]; exact csA_zero v l
  have HA : Hid (Away [] w (w.alloc (.cells cs 35))) := (Away.refl [] w).alloc _
  rw [← hcs]
  clear hcs
  have key := avalid_c v l hl
  have KEY : Hid (∀ w, Calls Tryz.prog 65 #[.agg (csA v l)] w fun e w' => e = .returned (.bool (avalidP v l)) ∧ Below w.heap.size w w') := key
  clear key
  by_cases hv : v = 6
  · subst hv
    rw [avalid6] at KEY
    go_enter Tryz.func44, Tryz.ntmps44
    go_wp2_with (refine wpList_load24 rfl _ rfl _ rfl _ (by assumption) ?_)
    refine (KEY.out _).mono ?_
    rintro E w' ⟨rfl, hb⟩
    have HB : Hid (Away [] w w') := HA.out.next (Away.of_below hb) (by simp)
    clear hb
    go_wp2_with fail
    go_ret
    exact ⟨rfl, HB.out⟩
  · have h1 : decide (v = 6) = false := by simp [hv]
    have h2 : (v == 6) = false := by simp [hv]
    rw [h1]
    go_enter Tryz.func44, Tryz.ntmps44
    go_wp2_with fail
    go_ret
    exact ⟨rfl, HA.out⟩
theorem placed_c (p : Pk) (ov dv : Value) (w : World) (hw : Wf p) (ho : Sl w ov p.o) (hd : Sl w dv p.d) :
    Calls Tryz.prog 45 #[.agg (csP p ov dv)] w fun E w' => E = .returned (.bool (placedP p.off p.more p.d.length)) ∧ Away [] w w' := by
  have ha := hw.ad
  obtain ⟨a, cap, rfl, -⟩ := hd
  have hn := hw.dn
  have hi := hw.off
  unfold i64ok at hi
  clear ho hw
  obtain ⟨z, hz⟩ : ∃ z, z = placedP p.off p.more p.d.length := ⟨_, rfl⟩
  rw [← hz]
  have HZ : Hid (z = placedP p.off p.more p.d.length) := hz
  clear hz
  go_enter Tryz.func45, Tryz.ntmps45
  go_wp2_with (refine wpList_box28 rfl _ rfl p _ _ rfl ?_; refine Hid.out ?_)
  refine Lib.hid ?_
  intro g w1 hg hb haw
  have hc := hb.cells ha
  have c1 := hc.off
  have c2 := hc.more
  have c3 := hc.d
  have HA : Hid (Away [] w w1) := haw
  clear hc hb haw hg ha
  generalize p.off = off at *
  generalize p.more = more at *
  generalize p.d.length = n at *
  have hdec : off < 0 ∨ (0 ≤ off ∧ 65528 < off) ∨ (0 ≤ off ∧ off ≤ 65528 ∧ off % 8 ≠ 0) ∨ (0 ≤ off ∧ off ≤ 65528 ∧ off % 8 = 0) := by omega
  rcases hdec with h | ⟨h1, h2⟩ | ⟨h1, h2, h3⟩ | ⟨h1, h2, h3⟩
  · obtain rfl : z = false := by rw [HZ.out]; unfold placedP; rw [show decide (0 ≤ off) = false from by simp; omega]; rfl
    go_wp2_with fail
    go_ret
    exact ⟨rfl, HA.out⟩
  · obtain rfl : z = false := by rw [HZ.out]; unfold placedP; rw [show decide (off ≤ 65528) = false from by simp; omega]; simp
    go_wp2_with fail
    go_ret
    exact ⟨rfl, HA.out⟩
  · obtain rfl : z = false := by rw [HZ.out]; unfold placedP; rw [show decide (off % 8 = 0) = false from by simp; omega]; simp
    have h4 : (off % 8 == 0) = false := by simp [h3]
    have h5 : (off % 8 != 0) = true := by simp [h3]
    clear h3
    go_wp2_with fail
    go_ret
    exact ⟨rfl, HA.out⟩
  · have h4 : (off % 8 == 0) = true := by simp [h3]
    have h5 : (off % 8 != 0) = false := by simp [h3]
    clear h3
    have HP : Hid (z = ((!more || decide (n % 8 = 0)) && (!(more || decide (0 < off)) || decide (n ≠ 0)) && decide (off + n ≤ 65535))) := by
      show _ = _
      rw [HZ.out]; unfold placedP; rw [show decide (0 ≤ off) = true from by simp; omega, show decide (off ≤ 65528) = true from by simp; omega, show decide (off % 8 = 0) = true from by simpa using h4]; simp
    clear HZ
    cases more
    · by_cases h6 : 0 < off
      · by_cases h7 : n = 0
        · subst h7
          obtain rfl : z = false := by rw [HP.out]; simp [h6]
          go_wp2_with fail
          go_ret
          exact ⟨rfl, HA.out⟩
        · have HQ : Hid (z = decide (off + n ≤ 65535)) := by show _ = _; rw [HP.out]; simp [h6, h7]
          have h8 : ((n : Int) == 0) = false := by simp; omega
          have h9 : decide ((n : Int) = 0) = false := by simp; omega
          clear HP h7
          go_wp2_with fail
          go_ret
          exact ⟨by rw [HQ.out]; rfl, HA.out⟩
      · have HQ : Hid (z = decide (off + n ≤ 65535)) := by show _ = _; rw [HP.out]; simp [h6]
        obtain rfl : off = 0 := by omega
        clear HP h6 h1 h2 h4 h5
        go_wp2_with fail
        go_ret
        exact ⟨by rw [HQ.out]; simp, HA.out⟩
    · by_cases h6 : n % 8 = 0
      · have h10 : ((n : Int) % 8 == 0) = true := by simp; omega
        have h11 : ((n : Int) % 8 != 0) = false := by simp; omega
        by_cases h7 : n = 0
        · subst h7
          obtain rfl : z = false := by rw [HP.out]; simp
          go_wp2_with fail
          go_ret
          exact ⟨rfl, HA.out⟩
        · have HQ : Hid (z = decide (off + n ≤ 65535)) := by show _ = _; rw [HP.out]; simp [h6, h7]
          have h8 : ((n : Int) == 0) = false := by simp; omega
          have h9 : decide ((n : Int) = 0) = false := by simp; omega
          clear HP h7 h6
          go_wp2_with fail
          go_ret
          exact ⟨by rw [HQ.out]; rfl, HA.out⟩
      · have h10 : ((n : Int) % 8 == 0) = false := by simp; omega
        have h11 : ((n : Int) % 8 != 0) = true := by simp; omega
        obtain rfl : z = false := by rw [HP.out]; simp [h6]
        clear h6
        go_wp2_with fail
        go_ret
        exact ⟨rfl, HA.out⟩

theorem bare_c (p : Pk) (ov dv : Value) (w : World) (ha : Ad p) :
    Calls Tryz.prog 46 #[.agg (csP p ov dv)] w fun E w' => E = .returned (.bool (bareP p)) ∧ Away [] w w' := by
  obtain ⟨z, hz⟩ : ∃ z, z = bareP p := ⟨_, rfl⟩
  rw [← hz]
  have HZ : Hid (z = bareP p) := hz
  unfold bareP at HZ
  clear hz
  go_enter Tryz.func46, Tryz.ntmps46
  go_wp2_with (refine wpList_box28 rfl _ rfl p _ _ rfl ?_; refine Hid.out ?_)
  refine Lib.hid ?_
  intro g w1 hg hb haw
  have hc := hb.cells ha
  have c1 := hc.off; have c2 := hc.more; have c3 := hc.id
  have HA : Hid (Away [] w w1) := haw
  clear hc hb haw hg ha
  generalize p.off = off at *
  generalize p.more = more at *
  generalize p.id = id at *
  by_cases h1 : id = 0
  · subst h1
    by_cases h2 : off = 0
    · subst h2
      obtain rfl : z = !more := by rw [HZ.out]; simp
      cases more
      · go_wp2_with fail
        go_ret
        exact ⟨rfl, HA.out⟩
      · go_wp2_with fail
        go_ret
        exact ⟨rfl, HA.out⟩
    · obtain rfl : z = false := by rw [HZ.out]; simp [h2]
      have h3 : (off == 0) = false := by simp [h2]
      clear h2
      go_wp2_with fail
      go_ret
      exact ⟨rfl, HA.out⟩
  · obtain rfl : z = false := by rw [HZ.out]; simp [h1]
    have h3 : (id == 0) = false := by simp [h1]
    clear h1
    go_wp2_with fail
    go_ret
    exact ⟨rfl, HA.out⟩
theorem headOf_c (p : Pk) (ov dv : Value) (w : World) (ha : Ad p) :
    Calls Tryz.prog 47 #[.agg (csP p ov dv)] w fun E w' => E = .returned (.int .i64 (hofP p)) ∧ Away [] w w' := by
  obtain ⟨z, hz⟩ : ∃ z : Int, z = hofP p := ⟨_, rfl⟩
  rw [← hz]
  have HZ : Hid (z = hofP p) := hz
  unfold hofP at HZ
  clear hz
  go_enter Tryz.func47, Tryz.ntmps47
  go_wp2_with (refine wpList_box28 rfl _ rfl p _ _ rfl ?_; refine Hid.out ?_)
  refine Lib.hid ?_
  intro g w1 hg hb haw
  have hc := hb.cells ha
  have c1 := hc.frag
  have HA : Hid (Away [] w w1) := haw
  clear hc hb haw hg ha
  generalize p.frag = fr at *
  cases fr
  · obtain rfl : z = 40 := by rw [HZ.out]; rfl
    go_wp2_with fail
    go_ret
    exact ⟨rfl, HA.out⟩
  · obtain rfl : z = 48 := by rw [HZ.out]; rfl
    go_wp2_with fail
    go_ret
    exact ⟨rfl, HA.out⟩
end Go.Proofs.YtkccpidgeecemaaGreatDoor.S6
