/-
  Look of icmp.
-/
import Derived.Test.YtbgpjhekohabiaaDoorLk6
import Derived.Test.YtbgpjhekohabiaaDoorMsg
namespace Go.Proofs.YtbgpjhekohabiaaDoor
open Go.ChangeShapes Go.WideShapes Go.ChangeAt Go.RowKit Num
set_option linter.unusedVariables false
set_option maxHeartbeats 4000000
set_option maxRecDepth 100000

theorem look4_ad {b : List Int} (hb : Bytes b) (hn : b.length ≤ 140737488355328) : Ad (look4P b).1 := by
  unfold look4P
  split
  · exact ⟨rfl, rfl⟩
  rename_i h20
  split
  · exact ⟨rfl, rfl⟩
  split
  · exact ⟨rfl, rfl⟩
  split
  · exact ⟨rfl, rfl⟩
  unfold rest4P
  split
  · exact ⟨rfl, rfl⟩
  split
  · exact ⟨rfl, rfl⟩
  have h := (read_wf hb hn (headN b) (by omega)).ad
  exact ⟨h.1, h.2⟩
theorem look6_ad {b : List Int} : Ad (S6.look6P b).1 := by
  unfold S6.look6P
  split
  · exact ⟨rfl, rfl⟩
  rename_i h40
  have h : Ad (S6.fixR b) := ⟨by show ((b.drop 8).take 16).length = 16; simp; omega, by show ((b.drop 24).take 16).length = 16; simp; omega⟩
  split
  · exact ⟨rfl, rfl⟩
  split
  · split
    · exact ⟨rfl, rfl⟩
    split
    · exact ⟨rfl, rfl⟩
    exact ⟨h.1, h.2⟩
  · exact ⟨h.1, h.2⟩
/-- What a message's quote tells. -/
def lookP (g : Mg) : Pk × Int × Int := if g.v = 4 then look4P g.d else if g.v = 6 then S6.look6P g.d else (zeroPk, 0, 1)
theorem look_four (g : Mg) (dv : Value) (w : World) (hg : Dam w g dv) (hG : Glob w) (h4 : g.v = 4) :
    Calls Tryd.prog 7 #[.agg (csM g dv)] w fun E w' => L4Out w (look4P g.d) E w' := by
  obtain ⟨a, cap, rfl, hcap, hnone, hrow⟩ := hg.d
  have HR := Lib.hid hrow
  have HG := Lib.hid hG
  have hlen := hrow.1
  have b4 : (g.v == 4) = true := by simp [h4]
  clear h4
  obtain ⟨R, hR⟩ : ∃ R, R = look4P g.d := ⟨_, rfl⟩
  rw [← hR]
  have HCA : Hid (∀ W, Away [] w W → Calls Tryd.prog 23 #[.slice a g.d.length cap] W fun E w' => L4Out W R E w') := fun W hW => by rw [hR]; exact look4_c a g.d cap W (hrow.away hW (by simp)) hcap hnone (hG.on hW)
  have HAD : Hid (Ad R.1) := by rw [hR]; exact look4_ad hrow.2.1 hlen
  clear hR
  obtain ⟨P, T, Z⟩ := R
  clear hg hG hrow
  go_enter Tryd.func7, Tryd.ntmps7
  go_wp2_with (refine wpList_boxM rfl _ rfl g _ rfl ?_; refine Hid.out ?_)
  refine Lib.hid ?_
  intro g1 w1 hg1 hb haw
  have HM := Lib.hid hb; have HA := Lib.hid haw
  have hs1 := haw.size
  clear hb haw
  go_wp2_with (first | (refine wpList_alloc28 rfl rfl ?_; refine Hid.out ?_))
  refine Lib.hid ?_
  intro g2 w2 hg2 hb haw
  have hs2 := haw.size
  replace HA := Lib.hid (HA.out.on haw); replace HM := Lib.hid (HM.out.on haw); have HB := Lib.hid hb
  have hl2 := hb.lt
  clear hb haw
  have c0 := HM.out.c0
  have c4 := HM.out.c4
  go_wp2_with fail
  refine (HCA.out _ HA.out).mono ?_
  rintro E w3 ⟨ov, dv, rfl, ho, hd, hno, hnd, hap, haw⟩
  have hs3 := haw.size
  replace HA := Lib.hid (HA.out.on haw); replace HB := Lib.hid (HB.out.on haw)
  have HO := Lib.hid ho; have HD := Lib.hid hd
  have HOV : Hid (∀ k, ov.ownBlock = some k → k ≠ g2) := fun k hk => by have := hno k hk; omega
  have HDV : Hid (∀ k, dv.ownBlock = some k → k ≠ g2) := fun k hk => by have := hnd k hk; omega
  have HNO : Hid (New w.heap.size ov) := hno.mono (by omega)
  have HND : Hid (New w.heap.size dv) := hnd.mono (by omega)
  have HAP := Lib.hid hap
  have k1 : ov.oneCell' = true := by rcases ho.shape' with ⟨_, _, _, rfl⟩; rfl
  have k2 : dv.oneCell' = true := by rcases hd.shape' with ⟨_, _, _, rfl⟩; rfl
  clear ho hd hno hnd hap haw c0 c4
  dsimp only at HO HD HAD ⊢
  go_wp2_with (first | (refine wpList_store28 rfl _ _ rfl g2 rfl P ov dv rfl zeroPk (.slice none 0 0) (.slice none 0 0) (by exact HB.out) HAD.out ⟨rfl, rfl⟩ k1 k2 ?_; refine Hid.out ?_))
  refine Lib.hid ?_
  intro wz hb haw
  have HZ := Lib.hid hb
  replace HA : Hid (Away [] w wz) := HA.out.next haw (fun x hx => .inr (by simp at hx; omega))
  replace HO := Lib.hid (HO.out.away haw (fun k hk => by simpa using HOV.out k hk))
  replace HD := Lib.hid (HD.out.away haw (fun k hk => by simpa using HDV.out k hk))
  clear hb haw
  go_wp2_with fail
  refine bodyPost_ret (result28tt rfl _ _ _ _ _ _ _ _ rfl rfl rfl HZ.out HAD.out) rfl ⟨ov, dv, rfl, HO.out, HD.out, HNO.out, HND.out, HAP.out, HA.out⟩
theorem look_six (g : Mg) (dv : Value) (w : World) (hg : Dam w g dv) (hG : Glob w) (h6 : g.v = 6) :
    Calls Tryd.prog 7 #[.agg (csM g dv)] w fun E w' => L4Out w (S6.look6P g.d) E w' := by
  obtain ⟨a, cap, rfl, hcap, hnone, hrow⟩ := hg.d
  have HR := Lib.hid hrow
  have HG := Lib.hid hG
  have hlen := hrow.1
  have b4 : (g.v == 4) = false := by simp [h6]
  have b6 : (g.v == 6) = true := by simp [h6]
  clear h6
  obtain ⟨R, hR⟩ : ∃ R, R = S6.look6P g.d := ⟨_, rfl⟩
  rw [← hR]
  have HCA : Hid (∀ W, Away [] w W → Calls Tryd.prog 24 #[.slice a g.d.length cap] W fun E w' => L4Out W R E w') := fun W hW => by rw [hR]; exact S6.look6_c a g.d cap W (hrow.away hW (by simp)) hcap hnone
  have HAD : Hid (Ad R.1) := by rw [hR]; exact look6_ad
  clear hR
  obtain ⟨P, T, Z⟩ := R
  clear hg hG hrow
  go_enter Tryd.func7, Tryd.ntmps7
  go_wp2_with (refine wpList_boxM rfl _ rfl g _ rfl ?_; refine Hid.out ?_)
  refine Lib.hid ?_
  intro g1 w1 hg1 hb haw
  have HM := Lib.hid hb; have HA := Lib.hid haw
  have hs1 := haw.size
  clear hb haw
  go_wp2_with (first | (refine wpList_alloc28 rfl rfl ?_; refine Hid.out ?_))
  refine Lib.hid ?_
  intro g2 w2 hg2 hb haw
  have hs2 := haw.size
  replace HA := Lib.hid (HA.out.on haw); replace HM := Lib.hid (HM.out.on haw); have HB := Lib.hid hb
  have hl2 := hb.lt
  clear hb haw
  have c0 := HM.out.c0
  have c4 := HM.out.c4
  go_wp2_with fail
  refine (HCA.out _ HA.out).mono ?_
  rintro E w3 ⟨ov, dv, rfl, ho, hd, hno, hnd, hap, haw⟩
  have hs3 := haw.size
  replace HA := Lib.hid (HA.out.on haw); replace HB := Lib.hid (HB.out.on haw)
  have HO := Lib.hid ho; have HD := Lib.hid hd
  have HOV : Hid (∀ k, ov.ownBlock = some k → k ≠ g2) := fun k hk => by have := hno k hk; omega
  have HDV : Hid (∀ k, dv.ownBlock = some k → k ≠ g2) := fun k hk => by have := hnd k hk; omega
  have HNO : Hid (New w.heap.size ov) := hno.mono (by omega)
  have HND : Hid (New w.heap.size dv) := hnd.mono (by omega)
  have HAP := Lib.hid hap
  have k1 : ov.oneCell' = true := by rcases ho.shape' with ⟨_, _, _, rfl⟩; rfl
  have k2 : dv.oneCell' = true := by rcases hd.shape' with ⟨_, _, _, rfl⟩; rfl
  clear ho hd hno hnd hap haw c0 c4
  dsimp only at HO HD HAD ⊢
  go_wp2_with (first | (refine wpList_store28 rfl _ _ rfl g2 rfl P ov dv rfl zeroPk (.slice none 0 0) (.slice none 0 0) (by exact HB.out) HAD.out ⟨rfl, rfl⟩ k1 k2 ?_; refine Hid.out ?_))
  refine Lib.hid ?_
  intro wz hb haw
  have HZ := Lib.hid hb
  replace HA : Hid (Away [] w wz) := HA.out.next haw (fun x hx => .inr (by simp at hx; omega))
  replace HO := Lib.hid (HO.out.away haw (fun k hk => by simpa using HOV.out k hk))
  replace HD := Lib.hid (HD.out.away haw (fun k hk => by simpa using HDV.out k hk))
  clear hb haw
  go_wp2_with fail
  refine bodyPost_ret (result28tt rfl _ _ _ _ _ _ _ _ rfl rfl rfl HZ.out HAD.out) rfl ⟨ov, dv, rfl, HO.out, HD.out, HNO.out, HND.out, HAP.out, HA.out⟩
theorem look_arg (g : Mg) (dv : Value) (w : World) (hg : Dam w g dv) (hG : Glob w) (h4 : g.v ≠ 4) (h6 : g.v ≠ 6) :
    Calls Tryd.prog 7 #[.agg (csM g dv)] w fun E w' => L4Out w (zeroPk, 0, 1) E w' := by
  obtain ⟨a, cap, rfl, hcap, hnone, hrow⟩ := hg.d
  have HR := Lib.hid hrow
  have HG := Lib.hid hG
  have hlen := hrow.1
  have b4 : (g.v == 4) = false := by simp [h4]
  have b6 : (g.v == 6) = false := by simp [h6]
  clear h4 h6
  clear hg hG hrow
  go_enter Tryd.func7, Tryd.ntmps7
  go_wp2_with (refine wpList_boxM rfl _ rfl g _ rfl ?_; refine Hid.out ?_)
  refine Lib.hid ?_
  intro g1 w1 hg1 hb haw
  have HM := Lib.hid hb; have HA := Lib.hid haw
  have hs1 := haw.size
  clear hb haw
  go_wp2_with (first | (refine wpList_alloc28 rfl rfl ?_; refine Hid.out ?_))
  refine Lib.hid ?_
  intro g2 w2 hg2 hb haw
  have hs2 := haw.size
  replace HA := Lib.hid (HA.out.on haw); replace HM := Lib.hid (HM.out.on haw); have HB := Lib.hid hb
  have hl2 := hb.lt
  clear hb haw
  have c0 := HM.out.c0
  have c4 := HM.out.c4
  go_wp2_with (refine wpList_store28 rfl _ _ rfl g2 rfl zeroPk (.slice none 0 0) (.slice none 0 0) rfl zeroPk (.slice none 0 0) (.slice none 0 0) (by exact HB.out) ⟨rfl, rfl⟩ ⟨rfl, rfl⟩ rfl rfl ?_; refine Hid.out ?_)
  refine Lib.hid ?_
  intro wz hb haw
  have HZ := Lib.hid hb
  replace HA : Hid (Away [] w wz) := HA.out.next haw (fun x hx => .inr (by simp at hx; omega))
  clear hb haw
  go_wp2_with fail
  refine bodyPost_ret (result28tt rfl _ _ _ _ _ _ _ _ rfl rfl rfl HZ.out ⟨rfl, rfl⟩) rfl (L4Out.no _ HA.out)
theorem look_c (g : Mg) (dv : Value) (w : World) (hg : Dam w g dv) (hG : Glob w) :
    Calls Tryd.prog 7 #[.agg (csM g dv)] w fun E w' => L4Out w (lookP g) E w' := by
  unfold lookP
  split
  · rename_i h; exact look_four g dv w hg hG h
  rename_i h4
  split
  · rename_i h; exact look_six g dv w hg hG h
  · rename_i h; exact look_arg g dv w hg hG h4 h
#print axioms look_c
end Go.Proofs.YtbgpjhekohabiaaDoor
