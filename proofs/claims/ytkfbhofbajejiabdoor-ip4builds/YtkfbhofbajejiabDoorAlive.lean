/-
  alive of the law.
-/
import Derived.Test.YtkfbhofbajejiabDoorFirst
import Derived.Test.YtkfbhofbajejiabDoorSameP
namespace Go.Proofs.YtkfbhofbajejiabDoor
open Go.ChangeShapes Go.WideShapes Go.ChangeAt Go.RowKit Num
set_option linter.unusedVariables false
set_option maxHeartbeats 4000000
set_option maxRecDepth 100000

theorem alive_c (w : World) (hg : Glob w) : Calls Tryd.prog 5 #[] w fun E w' => E = .returned (.bool true) ∧ Away [] w w' := by
  have HG := Lib.hid hg
  clear hg
  go_enter Tryd.func5, Tryd.ntmps5
  go_wp2_with fail
  refine (first_c w).mono ?_
  rintro E w1 ⟨dv, bv, rfl, hdv, hbv, haw1⟩
  have HA1 := Lib.hid haw1
  have HD1 := Lib.hid hdv; have HV1 := Lib.hid hbv
  have h1 : dv.oneCell' = true := hdv.one
  clear haw1 hdv hbv
  go_wp2_with (first | (refine wpList_alloc28 rfl rfl ?_; refine Hid.out ?_))
  refine Lib.hid ?_
  intro g1 w2 hg1 hb1 haw2
  have HB1 := Lib.hid hb1
  have hl1 := hb1.lt
  have HA2 := Lib.hid (HA1.out.next haw2 (by simp))
  have hs1 := HA1.out.size
  have HD2 := Lib.hid (HD1.out.on haw2); have HV2 := Lib.hid (HV1.out.on haw2)
  have hod := HD1.out.old; have hov := HV1.out.old
  clear hb1 haw2 HA1 HD1 HV1
  go_wp2_with (first | (refine wpList_store28 rfl _ _ rfl _ rfl exP (.slice none 0 0) dv rfl zeroPk (.slice none 0 0) (.slice none 0 0) (by exact HB1.out) ⟨rfl, rfl⟩ ⟨rfl, rfl⟩ rfl h1 ?_; refine Hid.out ?_))
  refine Lib.hid ?_
  intro w3 hb3 haw3
  have HB3 := Lib.hid hb3
  have HA3 := Lib.hid (HA2.out.next haw3 (fun x hx => .inr (by simp at hx; omega)))
  have HD3 := Lib.hid (HD2.out.away haw3 (fun hl k hk => by have := hod hl k hk; simp; omega))
  have HV3 := Lib.hid (HV2.out.away haw3 (fun hl k hk => by have := hov hl k hk; simp; omega))
  have hs3 := haw3.size
  clear hb3 haw3 HB1 HA2 HD2 HV2
  have HPK : Hid (∀ w', Away [] w3 w' → Pkt w' exP (.slice none 0 0) dv) := fun w' h => ⟨ex_wf, Sl.nil _, HD3.out.on h⟩
  go_wp2_with (first | (refine wpList_load28 rfl _ rfl _ rfl exP _ _ (by exact HB3.out) ⟨rfl, rfl⟩ ?_))
  refine (build_c exP (.slice none 0 0) dv w3 (HPK.out _ (Away.refl _ _)) (by exact HG.out.on HA3.out)).mono ?_
  rintro E w4 ⟨bb, rfl, hown4, hnew4, haw4⟩
  rw [ex_build]
  rw [ex_build] at hown4
  obtain ⟨ab, cb, rfl, hcb, hnb, hrb, -⟩ := hown4.row (by simp [exB]) ex_bytes
  have HRB := Lib.hid hrb
  have HA4 := Lib.hid (HA3.out.next haw4 (by simp))
  have HB4 := Lib.hid (HB3.out.on haw4)
  have HS4 := Lib.hid haw4
  have HV4 := Lib.hid (HV3.out.on haw4)
  clear haw4 hown4 hnew4 hrb HB3 HV3
  obtain ⟨av, cv, rfl, hcv, hnv, hrv⟩ := HV4.out
  have HRV := Lib.hid hrv
  clear hrv HV4
  go_wp2_with fail
  refine (parse_c av exB _ cv w4 rfl hcv hnv (by exact HRV.out) (by exact HG.out.on HA4.out)).mono ?_
  rintro E w5 ⟨ou, du, rfl, hou, hdu, hno, hnd, hap, haw5⟩
  rw [ex_parse]
  rw [ex_parse] at hou hdu
  have HA5 := Lib.hid (HA4.out.next haw5 (by simp))
  have HB5 := Lib.hid (HB4.out.on haw5)
  have HS5 := Lib.hid (HS4.out.next haw5 (by simp))
  have HRV5 := Lib.hid (HRV.out.away haw5 (by simp))
  have HRB5 := Lib.hid (HRB.out.away haw5 (by simp))
  have HO5 : Hid (Sl w5 ou []) := hou.sl Bytes.nil (by simp [exP])
  have HD5 : Hid (Sl w5 du [97, 98, 99]) := hdu.sl ex_wf.d ex_wf.dn
  have o1 : ou.oneCell' = true := HO5.out.one
  have o2 : du.oneCell' = true := HD5.out.one
  have hl5 := HB5.out.lt
  have hs5 := haw5.size
  clear haw5 hou hdu HA4 HB4 HS4 HRV HRB hno hnd hap
  go_wp2_with (first | (refine wpList_alloc28 rfl rfl ?_; refine Hid.out ?_))
  refine Lib.hid ?_
  intro g5 w6 hg5 hb6 haw6
  have HB6 := Lib.hid hb6
  have HB16 := Lib.hid (HB5.out.on haw6)
  have HA6 := Lib.hid haw6
  clear hb6 haw6
  go_wp2_with (first | (refine wpList_store28 rfl _ _ rfl _ rfl exP ou du rfl zeroPk (.slice none 0 0) (.slice none 0 0) (by exact HB6.out) ⟨rfl, rfl⟩ ⟨rfl, rfl⟩ o1 o2 ?_; refine Hid.out ?_))
  refine Lib.hid ?_
  intro w7 hb7 haw7
  have hA : Away [] w5 w7 := HA6.out.next haw7 (fun x hx => .inr (by simp at hx; omega))
  have HB7 := Lib.hid hb7
  have HB17 := Lib.hid (HB16.out.away haw7 (by simp; omega))
  have HA7 := Lib.hid (HA5.out.next hA (by simp))
  have HS7 := Lib.hid (HS5.out.next hA (by simp))
  have HRV7 := Lib.hid (HRV5.out.away hA (by simp))
  have HRB7 := Lib.hid (HRB5.out.away hA (by simp))
  have HP7 : Hid (Pkt w7 exP ou du) := ⟨ex_wf, HO5.out.on hA, HD5.out.on hA⟩
  clear hA hb7 haw7 HA5 HB5 HS5 HRV5 HRB5 HO5 HD5 HB6 HB16 HA6
  go_wp2_with fail
  refine (same_yes ab av exB exB _ _ cb cv w7 rfl rfl hnb hnv (by exact HRB7.out) (by exact HRV7.out) rfl).mono ?_
  rintro E _ ⟨rfl, rfl⟩
  go_wp2_with (first | (refine wpList_load28 rfl _ rfl _ rfl exP _ _ (by exact HB17.out) ⟨rfl, rfl⟩ ?_; refine Hid.out ?_))
  refine Lib.hid ?_
  go_wp2_with (first | (refine wpList_load28 rfl _ rfl _ rfl exP _ _ (by exact HB7.out) ⟨rfl, rfl⟩ ?_; refine Hid.out ?_))
  refine Lib.hid ?_
  go_wp2_with fail
  refine (sameP_yes exP exP (.slice none 0 0) dv ou du _ (HPK.out _ HS7.out) HP7.out rfl).mono ?_
  rintro E w8 ⟨rfl, haw8⟩
  have HA8 := Lib.hid (HA7.out.next haw8 (by simp))
  have HS8 := Lib.hid (HS7.out.next haw8 (by simp))
  have HB8 := Lib.hid (HB17.out.on haw8)
  clear haw8 HA7 HS7 HB17 HB7 HP7
  go_wp2_with (first | (refine wpList_load28 rfl _ rfl _ rfl exP _ _ (by exact HB8.out) ⟨rfl, rfl⟩ ?_))
  refine (right_c exP (.slice none 0 0) dv w8 (HPK.out _ HS8.out) (by exact HG.out.on HA8.out)).mono ?_
  rintro E w9 ⟨rfl, haw9⟩
  rw [ex_right]
  have HA9 := Lib.hid (HA8.out.next haw9 (by simp))
  have HS9 := Lib.hid (HS8.out.next haw9 (by simp))
  have HB9 := Lib.hid (HB8.out.on haw9)
  clear haw9 HA8 HS8 HB8
  go_wp2_with (first | (refine wpList_load28 rfl _ rfl _ rfl exP _ _ (by exact HB9.out) ⟨rfl, rfl⟩ ?_))
  refine (head_c exP (.slice none 0 0) dv w9 (HPK.out _ HS9.out) (by exact HG.out.on HA9.out)).mono ?_
  rintro E w10 ⟨rfl, haw10⟩
  rw [show headP exP = 20 from by unfold headP; rw [if_pos ex_right]; rfl]
  have HA10 := Lib.hid (HA9.out.next haw10 (by simp))
  go_wp2_with fail
  go_ret
  exact ⟨rfl, HA10.out⟩
#print axioms alive_c
end Go.Proofs.YtkfbhofbajejiabDoor
