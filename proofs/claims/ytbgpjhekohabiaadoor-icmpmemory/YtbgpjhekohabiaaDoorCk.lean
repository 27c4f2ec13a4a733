/-
  pair, octet, most, checksum of icmp.
-/
import Derived.Test.YtbgpjhekohabiaaDoorPs
import Derived.Test.YtbgpjhekohabiaaDoorMsg
namespace Go.Proofs.YtbgpjhekohabiaaDoor
open Go.ChangeShapes Go.WideShapes Go.ChangeAt Go.RowKit Num
set_option linter.unusedVariables false
set_option maxHeartbeats 4000000
set_option maxRecDepth 100000

theorem pair_c (s t : Ax) (w : World) (hs : WfA s) (ht : WfA t) : Calls Tryd.prog 27 #[.agg (csA s.v s.l), .agg (csA t.v t.l)] w fun e w' => e = .returned (.bool (pairP s t)) ∧ Away [] w w' := by
  have K1 : Hid (∀ w, Calls Tryd.prog 62 #[.agg (csA s.v s.l)] w fun e w' => e = .returned (.bool (avalidP s.v s.l)) ∧ Below w.heap.size w w') := fun w => avalid_c s.v s.l hs.n w
  have K2 : Hid (∀ w, Calls Tryd.prog 62 #[.agg (csA t.v t.l)] w fun e w' => e = .returned (.bool (avalidP t.v t.l)) ∧ Below w.heap.size w w') := fun w => avalid_c t.v t.l ht.n w
  have HS := Lib.hid hs
  have HT := Lib.hid ht
  obtain ⟨z3, hz⟩ : ∃ z, z = decide (s.v = t.v) := ⟨_, rfl⟩
  unfold pairP
  rw [← hz]
  have HZ := Lib.hid hz
  clear hz
  generalize avalidP s.v s.l = z1 at *
  generalize avalidP t.v t.l = z2 at *
  clear hs ht
  go_enter Tryd.func27, Tryd.ntmps27
  go_wp2_with (refine wpList_boxX rfl _ rfl s rfl ?_; refine Hid.out ?_)
  refine Lib.hid ?_
  intro g1 w1 hg1 hb haw
  have HA := Lib.hid haw; have HB := Lib.hid hb
  clear hb haw
  go_wp2_with (refine wpList_boxX rfl _ rfl t rfl ?_; refine Hid.out ?_)
  refine Lib.hid ?_
  intro g2 w2 hg2 hb haw
  replace HA := Lib.hid (HA.out.on haw); replace HB := Lib.hid (HB.out.on haw); have HC := Lib.hid hb
  clear hb haw
  go_wp2_with (first | (refine wpList_loadX rfl _ rfl g1 rfl s (by exact HB.out) HS.out ?_) | (refine wpList_loadX rfl _ rfl g2 rfl t (by exact HC.out) HT.out ?_))
  refine (K1.out _).mono ?_
  rintro E w3 ⟨rfl, hbl⟩
  have haw := Away.of_below hbl
  replace HA := Lib.hid (HA.out.on haw); replace HB := Lib.hid (HB.out.on haw); replace HC := Lib.hid (HC.out.on haw)
  clear haw hbl K1
  cases z1
  · go_wp2_with fail
    go_ret
    exact ⟨rfl, HA.out⟩
  · go_wp2_with (first | (refine wpList_loadX rfl _ rfl g1 rfl s (by exact HB.out) HS.out ?_) | (refine wpList_loadX rfl _ rfl g2 rfl t (by exact HC.out) HT.out ?_))
    refine (K2.out _).mono ?_
    rintro E w4 ⟨rfl, hbl⟩
    have haw := Away.of_below hbl
    replace HA := Lib.hid (HA.out.on haw); replace HB := Lib.hid (HB.out.on haw); replace HC := Lib.hid (HC.out.on haw)
    clear haw hbl K2
    cases z2
    · go_wp2_with fail
      go_ret
      exact ⟨rfl, HA.out⟩
    · have c1 := HB.out.cell
      have c2 := HC.out.cell
      go_wp2_with fail
      go_ret
      exact ⟨ret_bool (by rw [HZ.out]; rfl), HA.out⟩

theorem moctet_c (n : Int) (w : World) : Calls Tryd.prog 28 #[.int .i64 n] w fun e w' => e = .returned (.bool (octP n)) ∧ w' = w := by
  by_cases h0 : 0 ≤ n
  · by_cases h1 : n ≤ 255
    · rw [show octP n = true from oct_iff.2 ⟨h0, h1⟩]
      go_enter Tryd.func28, Tryd.ntmps28
      go_wp2
      go_ret
      exact ⟨rfl, rfl⟩
    · rw [show octP n = false from by simp [octP, h1]]
      go_enter Tryd.func28, Tryd.ntmps28
      go_wp2
      go_ret
      exact ⟨rfl, rfl⟩
  · rw [show octP n = false from by simp [octP, h0]]
    have h2 : n < 0 := by omega
    clear h0
    go_enter Tryd.func28, Tryd.ntmps28
    go_wp2
    go_ret
    exact ⟨rfl, rfl⟩
theorem most_c (v : Int) (w : World) : Calls Tryd.prog 29 #[.int .i64 v] w fun e w' => e = .returned (.int .i64 (mostP v)) ∧ w' = w := by
  by_cases h4 : v = 4
  · subst h4
    go_enter Tryd.func29, Tryd.ntmps29
    go_wp2
    go_ret
    exact ⟨rfl, rfl⟩
  · rw [show mostP v = 65535 from by unfold mostP; rw [if_neg h4]]
    have b1 : (v == 4) = false := by simpa using h4
    go_enter Tryd.func29, Tryd.ntmps29
    go_wp2
    go_ret
    exact ⟨rfl, rfl⟩
theorem checksum_c (s t : Ax) (a : Option Addr) (b : List Int) (cap : Nat) (w : World) (hs : WfA s) (ht : WfA t) (hz : pairP s t = true) (hr : Row w a b) (ha : a = none → cap = 0) (h8 : 4 ≤ b.length) (hl : b.length ≤ 65535) :
    Calls Tryd.prog 37 #[.agg (csA s.v s.l), .agg (csA t.v t.l), .slice a b.length cap] w fun E w' => E = .returned (.int .u16 (mckP s t b)) ∧ Away [] w w' := by
  obtain ⟨z, hzz⟩ : ∃ z, z = mckP s t b := ⟨_, rfl⟩
  rw [← hzz]
  have HZ := Lib.hid hzz
  clear hzz
  have hlen := hr.1
  have hb := hr.2.1
  have KP : Hid (∀ w, Calls Tryd.prog 65 #[.agg (csA s.v s.l), .agg (csA t.v t.l), .int .i64 58, .int .i64 b.length] w fun E w' => PsOut w (pt (psb s t 58 b.length), 0) E w') := fun w => by
    have := pseudo_c s t 58 b.length w hs ht
    unfold psP at this
    rw [if_pos (by simp [psOk, hz, wordP]; omega)] at this
    exact this
  have hpb := pt_bd (mlen hs ht hl)
  have hv := (pair_v hz).2
  have HS := Lib.hid hs
  have HT := Lib.hid ht
  have HR := Lib.hid hr
  clear hs ht hr hz
  generalize hP : pt (psb s t 58 b.length) = P at *
  have HP := Lib.hid hP
  clear hP
  go_enter Tryd.func37, Tryd.ntmps37
  go_wp2_with (refine wpList_boxX rfl _ rfl s rfl ?_; refine Hid.out ?_)
  refine Lib.hid ?_
  intro g1 w1 hg1 hb1 haw
  have HA := Lib.hid haw; have HB := Lib.hid hb1
  clear hb1 haw
  go_wp2_with (refine wpList_boxX rfl _ rfl t rfl ?_; refine Hid.out ?_)
  refine Lib.hid ?_
  intro g2 w2 hg2 hb1 haw
  replace HA := Lib.hid (HA.out.on haw); replace HB := Lib.hid (HB.out.on haw); have HC := Lib.hid hb1
  clear hb1 haw
  go_wp2_with fail
  refine (clone_any a b cap _ ha (by exact HR.out.on HA.out)).mono ?_
  rintro E w3 ⟨v, rfl, hown, hnew, haw⟩
  have hl1 := HB.out.lt; have hl2 := HC.out.lt
  have hsz := HA.out.size
  replace HA := Lib.hid (HA.out.on haw); replace HB := Lib.hid (HB.out.on haw); replace HC := Lib.hid (HC.out.on haw)
  clear haw
  obtain ⟨a1, cap1, rfl, hcap1, -, hrow1, hblk, hsp⟩ := hown.row hlen hb
  rcases a1 with _ | ⟨g, o, sp⟩
  · rcases hrow1.2.2 with h0 | ⟨_, _, h0, _⟩
    · rw [h0] at h8; simp at h8
    · simp at h0
  obtain ⟨h1, h2⟩ := hsp _ rfl
  simp only at h1 h2
  subst h1 h2
  obtain ⟨c0, f0⟩ := hown.cells 2 (by omega)
  obtain ⟨c1, f1⟩ := hown.cells 3 (by omega)
  have hs1 := (hown.set rfl 2 0).set (by simp) 3 0
  have hl2' : ((b.set 2 0).set 3 0).length = b.length := by simp
  have hb2 : Bytes ((b.set 2 0).set 3 0) := bare_bytes hb
  have HR2 := Lib.hid (hs1.row' (by rw [hl2']; exact hlen) hb2)
  have hg : w2.heap.size ≤ g := hnew g rfl
  have haw : Away [g] w3 ((w3.setCell ⟨g, 2, none⟩ (.int .u8 0)).setCell ⟨g, 3, none⟩ (.int .u8 0)) := (((Away.refl [g] w3).setCell (.inl (by simp)) _)).setCell (.inl (by simp)) _
  replace HA := Lib.hid (HA.out.next haw (fun x hx => .inr (by simp at hx; omega)))
  replace HB := Lib.hid (HB.out.away haw (by simp; omega)); replace HC := Lib.hid (HC.out.away haw (by simp; omega))
  clear hown hrow1 hblk hsp hs1 hnew haw HR
  have HL2 := Lib.hid hl2'
  have HB2 : Hid (mckP s t b = 65535 - (if s.v = 4 then pt ((b.set 2 0).set 3 0) else add (pt (psb s t 58 b.length)) (pt ((b.set 2 0).set 3 0)))) := rfl
  have hbd := pt_bd hb2
  clear hl2' hb2 hb
  generalize (b.set 2 0).set 3 0 = m at *
  go_upto_region 3 with fail
  clear c0 c1 f0 f1
  generalize (w3.setCell ⟨g, 2, none⟩ (.int .u8 0)).setCell ⟨g, 3, none⟩ (.int .u8 0) = W at *
  have cv := HB.out.cell
  rcases hv with hv | hv
  · rw [hv] at cv
    rw [if_pos hv] at HB2
    clear hv
    go_wp2_with fail
    rw [← HL2.out]
    refine (of_any (some ⟨g, 0, none⟩) m cap1 (by rw [HL2.out]; exact hcap1) _ (by exact HR2.out)).mono ?_
    rintro E w4 ⟨rfl, q, rfl⟩
    rw [← HB2.out, ← HZ.out]
    go_wp2_with fail
    go_ret
    exact ⟨rfl, HA.out.drewN q⟩
  · rw [hv] at cv
    rw [if_neg (by omega), HP.out] at HB2
    clear hv
    go_wp2_with (first | (refine wpList_loadX rfl _ rfl g1 rfl s (by exact HB.out) HS.out ?_) | (refine wpList_loadX rfl _ rfl g2 rfl t (by exact HC.out) HT.out ?_))
    refine (KP.out _).mono ?_
    rintro E w4 ⟨rfl, haw⟩
    replace HA := Lib.hid (HA.out.on haw); replace HR2 := Lib.hid (HR2.out.on haw)
    clear haw KP cv
    go_wp2_with fail
    rw [← HL2.out]
    refine (part_any (some ⟨g, 0, none⟩) m cap1 (by rw [HL2.out]; exact hcap1) _ (by exact HR2.out)).mono ?_
    rintro E w5 ⟨rfl, q, rfl⟩
    replace HA := Lib.hid (HA.out.drewN q)
    clear HR2
    generalize pt m = M at *
    have hab := add_bd (a := P) (b := M) (by omega) (by omega)
    go_wp2_with (go_at_call 66; refine (add_any P M (by omega) (by omega) (by omega) (by omega) _).mono ?_; rintro E w6 ⟨rfl, rfl⟩)
    go_ret
    exact ⟨ret_int (by rw [HZ.out, HB2.out]), HA.out⟩
#print axioms checksum_c
end Go.Proofs.YtbgpjhekohabiaaDoor
