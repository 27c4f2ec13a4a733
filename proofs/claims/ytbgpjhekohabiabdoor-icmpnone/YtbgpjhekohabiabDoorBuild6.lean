/-
  Build.
-/
import Derived.Test.YtbgpjhekohabiabDoorLayF6
namespace Go.Proofs.YtbgpjhekohabiabDoor.S6
open Go.ChangeShapes Go.WideShapes Go.ChangeAt Go.RowKit Num
set_option linter.unusedVariables false
set_option maxHeartbeats 4000000
set_option maxRecDepth 100000

/-- What Build tells. -/
def BuildOut (w : World) (p : Pk) (E : Ending) (w' : World) : Prop :=
  ∃ v, E = .returned (.tuple #[v, .int .i64 (build6 p).2]) ∧ Owns w' v (build6 p).1 ∧ New w.heap.size v ∧ Away [] w w'
theorem build_ok {p : Pk} (h : rightP p = true) : build6 p = (lay6 p, 0) := by unfold build6; rw [if_pos h]
theorem build_no {p : Pk} (h : rightP p = false) : build6 p = ([], 1) := by unfold build6; rw [if_neg (by simp [h])]
/-- A writer of the call's own beside a packet in a box. -/
structure Bd (w wx : World) (g gw : Nat) (v : Value) (p : Pk) (ov dv : Value) (l : List Int) : Prop where
  aw : Away [] w wx
  box : BoxP wx g p ov dv
  wr : Wr wx gw v 65575 l 0
  new : New w.heap.size v
  gB : w.heap.size ≤ gw
  g1 : gw ≠ g
  g2 : ∀ k, v.ownBlock = some k → k ≠ g
theorem Bd.step {w wx w' : World} {g gw : Nat} {v : Value} {p : Pk} {ov dv : Value} {l m : List Int} {E : Ending} (h : Bd w wx g gw v p ov dv l) (k : Wrote wx gw v 65575 m 0 E w') :
    E = .returned (.tuple #[]) ∧ ∃ v', Bd w w' g gw v' p ov dv m := by
  obtain ⟨rfl, v', hwr, hmv, haw⟩ := k
  have hs := h.aw.size
  have hlt := h.box.lt
  have hfp : ∀ x ∈ fp gw v, x = gw ∨ v.ownBlock = some x := by intro x hx; simp [fp] at hx; exact hx
  refine ⟨rfl, v', h.aw.next haw (fun x hx => ?_), h.box.away haw (fun hx => ?_), hwr, h.new.moved hmv hs, h.gB, h.g1, fun k hk => ?_⟩
  · rcases hfp x hx with e | e
    · right; rw [e]; exact h.gB
    · right; exact h.new _ e
  · rcases hfp _ hx with e | e
    · exact h.g1 e.symm
    · exact h.g2 _ e rfl
  · rcases hmv k hk with e | e
    · exact h.g2 k e
    · omega
theorem build_c (p : Pk) (ov dv : Value) (w : World) (hp : Pkt w p ov dv) :
    Calls Tryd.prog 9 #[.agg (csP p ov dv)] w fun E w' => BuildOut w p E w' := by
  have ha := hp.wf.ad
  have KR : Hid (∀ w', Away [] w w' → Calls Tryd.prog 29 #[.agg (csP p ov dv)] w' fun E w'' => E = .returned (.bool (rightP p)) ∧ Away [] w' w'') := fun w' h => right_c p ov dv w' (hp.on h)
  have HP : Hid (Pkt w p ov dv) := hp
  obtain ⟨z, hz⟩ : ∃ z, z = rightP p := ⟨_, rfl⟩
  rw [← hz] at KR
  have HZ : Hid (z = rightP p) := hz
  have HAD : Hid (Ad p) := ha
  clear hp hz ha
  go_enter Tryd.func9, Tryd.ntmps9
  go_wp2_with (refine wpList_box28 rfl _ rfl p _ _ rfl ?_; refine Hid.out ?_)
  refine Lib.hid ?_
  intro g w1 hg hb haw
  have HA : Hid (Away [] w w1) := haw
  have HB : Hid (BoxP w1 g p ov dv) := hb
  have hgl := hb.lt
  clear hb haw
  go_wp2_with (refine wpList_load28 rfl _ rfl _ rfl p _ _ (by exact HB.out) HAD.out ?_)
  refine (KR.out _ HA.out).mono ?_
  rintro E w2 ⟨rfl, haw⟩
  have HA2 : Hid (Away [] w w2) := HA.out.next haw (by simp)
  have HB2 : Hid (BoxP w2 g p ov dv) := HB.out.on haw
  have hs1 := HA.out.size
  have hs2 := haw.size
  clear HA HB haw KR
  cases z
  · go_wp2_with fail
    go_ret2
    exact ⟨_, by rw [build_no HZ.out.symm]; rfl, by rw [build_no HZ.out.symm]; exact Owns.nil _, New.nil _, HA2.out⟩
  · have hf := (right_iff p).1 HZ.out.symm
    have hwf := HP.out.wf
    have HF := Lib.hid hf
    have hd := hwf.dn
    have hall := hf.all
    have HLF : Hid ((fixP p).length = 40) := fixP_len hwf
    have HLG : Hid ((fragP p).length = 8) := fragP_len p
    have hh : hofP p = 40 ∨ hofP p = 48 := by unfold hofP; split <;> simp
    have HHO : Hid (hofP p = if p.frag = true then 48 else 40) := rfl
    clear hf hwf
    go_wp2_with fail
    refine (newWriter_any 65575 _ (by omega) (by omega)).mono ?_
    rintro E w3 ⟨gw, v, rfl, hwr, hgw, hvn, haw3⟩
    rw [show limOf 65575 = 65575 from by decide] at hwr
    have HL : Hid (Bd w w3 g gw v p ov dv []) := ⟨HA2.out.next haw3 (by simp), HB2.out.on haw3, hwr, fun k hk => by rw [hvn] at hk; simp at hk, by omega, by omega, fun k hk => by rw [hvn] at hk; simp at hk⟩
    clear HA2 HB2 haw3 hwr hvn
    go_wp2_with (refine wpList_load28 rfl _ rfl _ rfl p _ _ (by exact HL.out.box) HAD.out ?_)
    refine (layFixed_c w3 w.heap.size gw v p ov dv (by exact HP.out.on HL.out.aw) HF.out (by exact HL.out.wr) HL.out.gB (by exact HL.out.new) HP.out.o.old HP.out.d.old HL.out.aw.size).mono ?_
    intro E w4 hk
    obtain ⟨rfl, v4, hL⟩ := HL.out.step hk
    have HL4 := Lib.hid hL
    clear hL hk HL
    have c10 := (HL4.out.box.cells HAD.out).frag
    generalize hfr : p.frag = fr at c10
    cases fr
    · have HP7 : Hid (Sl w4 dv p.d) := HP.out.d.on HL4.out.aw
      have c8 := (HL4.out.box.cells HAD.out).d
      obtain ⟨ad, capd, hdv, hd1, hd2, hd3⟩ := HP7.out
      subst hdv
      have HD3 := Lib.hid hd3
      clear hd3
      go_wp2_with fail
      refine (wbytes_any w4 gw v4 65575 (fixP p) 0 ad p.d _ capd (by exact HL4.out.wr) rfl hd2 (by exact HD3.out)).mono ?_
      rw [fits (by have := HLF.out; have h4 := HHO.out; rw [hfr] at h4; simp only [Bool.false_eq_true, if_false] at h4; omega), fitsE _ (by have := HLF.out; have h4 := HHO.out; rw [hfr] at h4; simp only [Bool.false_eq_true, if_false] at h4; omega)]
      intro E w8 hk
      obtain ⟨rfl, v8, hL⟩ := HL4.out.step hk
      have HL8 := Lib.hid hL
      clear hL hk HL4 c8 HD3 HP7
      go_wp2_with fail
      refine (out_any w8 gw v8 65575 (fixP p ++ p.d) 0 (by exact HL8.out.wr)).mono ?_
      rintro E w9 ⟨v9, rfl, hown9, hnew9, haw9⟩
      have hlay : wrOut (fixP p ++ p.d) 0 = lay6 p := by
        unfold wrOut lay6 headB; rw [if_pos rfl, hfr]; simp
      rw [hlay] at hown9
      have HO9 := Lib.hid hown9
      have HA9 : Hid (Away [] w w9) := HL8.out.aw.next haw9 (by simp)
      have hs8 := HL8.out.aw.size
      clear hown9 haw9 HL8
      go_wp2_with fail
      go_ret2
      exact ⟨v9, by rw [build_ok HZ.out.symm]; rfl, by rw [build_ok HZ.out.symm]; exact HO9.out, hnew9.mono (by omega), HA9.out⟩
    · go_wp2_with (refine wpList_load28 rfl _ rfl _ rfl p _ _ (by exact HL4.out.box) HAD.out ?_)
      refine (layFragment_c w4 w.heap.size gw v4 (fixP p) p ov dv (by exact HP.out.on HL4.out.aw) HF.out (by exact HL4.out.wr) HLF.out HL4.out.gB (by exact HL4.out.new) HP.out.o.old HP.out.d.old HL4.out.aw.size).mono ?_
      intro E w5 hk
      obtain ⟨rfl, v5, hL⟩ := HL4.out.step hk
      have HL5 := Lib.hid hL
      clear hL hk HL4 c10
      have HP7 : Hid (Sl w5 dv p.d) := HP.out.d.on HL5.out.aw
      have c8 := (HL5.out.box.cells HAD.out).d
      obtain ⟨ad, capd, hdv, hd1, hd2, hd3⟩ := HP7.out
      subst hdv
      have HD3 := Lib.hid hd3
      clear hd3
      go_wp2_with fail
      refine (wbytes_any w5 gw v5 65575 (fixP p ++ fragP p) 0 ad p.d _ capd (by exact HL5.out.wr) rfl hd2 (by exact HD3.out)).mono ?_
      rw [fits (by rw [List.length_append, HLF.out, HLG.out]; have h4 := HHO.out; rw [hfr] at h4; simp only [if_true] at h4; omega), fitsE _ (by rw [List.length_append, HLF.out, HLG.out]; have h4 := HHO.out; rw [hfr] at h4; simp only [if_true] at h4; omega)]
      intro E w8 hk
      obtain ⟨rfl, v8, hL⟩ := HL5.out.step hk
      have HL8 := Lib.hid hL
      clear hL hk HL5 c8 HD3 HP7
      go_wp2_with fail
      refine (out_any w8 gw v8 65575 (fixP p ++ fragP p ++ p.d) 0 (by exact HL8.out.wr)).mono ?_
      rintro E w9 ⟨v9, rfl, hown9, hnew9, haw9⟩
      have hlay : wrOut (fixP p ++ fragP p ++ p.d) 0 = lay6 p := by
        unfold wrOut lay6 headB; rw [if_pos rfl, hfr]; simp
      rw [hlay] at hown9
      have HO9 := Lib.hid hown9
      have HA9 : Hid (Away [] w w9) := HL8.out.aw.next haw9 (by simp)
      have hs8 := HL8.out.aw.size
      clear hown9 haw9 HL8
      go_wp2_with fail
      go_ret2
      exact ⟨v9, by rw [build_ok HZ.out.symm]; rfl, by rw [build_ok HZ.out.symm]; exact HO9.out, hnew9.mono (by omega), HA9.out⟩
#print axioms build_c
end Go.Proofs.YtbgpjhekohabiabDoor.S6
