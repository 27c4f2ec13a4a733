/-
  Build.
-/
import Derived.Test.YtbgpjhekohabiaaDoorLayH
import Derived.Test.YtbgpjhekohabiaaDoorOf
namespace Go.Proofs.YtbgpjhekohabiaaDoor
open Go.ChangeShapes Go.WideShapes Go.ChangeAt Go.RowKit Num
set_option linter.unusedVariables false
set_option maxHeartbeats 4000000
set_option maxRecDepth 100000

/-- What Build tells. -/
def BuildOut (w : World) (p : Pk) (E : Ending) (w' : World) : Prop :=
  ∃ v, E = .returned (.tuple #[v, .int .i64 (build4 p).2]) ∧ Owns w' v (build4 p).1 ∧ New w.heap.size v ∧ Away [] w w'
theorem build_ok {p : Pk} (h : rightP p = true) : build4 p = (lay4 p, 0) := by unfold build4; rw [if_pos h]
theorem build_no {p : Pk} (h : rightP p = false) : build4 p = ([], 1) := by unfold build4; rw [if_neg (by simp [h])]
theorem put_ok (p : Pk) (hw : Wf p) : putAll (hd p 0 0) 0 10 (ckP p) = layH p ∧ putErr (hd p 0 0) 0 10 = 0 := by
  have hl := hd_len hw.sl hw.dl 0 0
  unfold putAll putErr
  rw [if_pos ⟨rfl, by omega, by omega⟩, if_pos rfl, if_pos ⟨by omega, by omega⟩]
  exact ⟨rfl, rfl⟩

theorem build_c (p : Pk) (ov dv : Value) (w : World) (hp : Pkt w p ov dv) (hg : Glob w) :
    Calls Tryd.prog 15 #[.agg (csP p ov dv)] w fun E w' => BuildOut w p E w' := by
  have ha := hp.wf.ad
  have KR : Hid (∀ w', Away [] w w' → Calls Tryd.prog 44 #[.agg (csP p ov dv)] w' fun E w'' => E = .returned (.bool (rightP p)) ∧ Away [] w' w'') := fun w' h => right_c p ov dv w' (hp.on h) (hg.on h)
  have HP : Hid (Pkt w p ov dv) := hp
  obtain ⟨z, hz⟩ : ∃ z, z = rightP p := ⟨_, rfl⟩
  rw [← hz] at KR
  have HZ : Hid (z = rightP p) := hz
  have HAD : Hid (Ad p) := ha
  clear hp hg hz ha
  go_enter Tryd.func15, Tryd.ntmps15
  go_wp2_with (refine wpList_box28 rfl _ rfl p _ _ rfl ?_; refine Hid.out ?_)
  refine Lib.hid ?_
  intro g w1 hg hb haw
  have HA : Hid (Away [] w w1) := haw
  have HB : Hid (BoxP w1 g p ov dv) := hb
  have hgl := hb.lt
  clear hb haw
  go_wp2_with (refine wpList_load28 rfl _ rfl _ rfl p _ _ (by exact HB.out) HAD.out ?_)
  refine (KR.out _ HA.out).mono ?_
  rintro E w2 ⟨rfl, haw⟩
  have HA2 : Hid (Away [] w w2) := HA.out.next haw (by simp)
  have HB2 : Hid (BoxP w2 g p ov dv) := HB.out.on haw
  have hs1 := HA.out.size
  have hs2 := haw.size
  clear HA HB haw KR
  cases z
  · go_wp2_with fail
    go_ret2
    exact ⟨_, by rw [build_no HZ.out.symm]; rfl, by rw [build_no HZ.out.symm]; exact Owns.nil _, New.nil _, HA2.out⟩
  · obtain ⟨hf, hv⟩ := (right_iff p).1 HZ.out.symm
    have hvl := (valid_len hv).1
    have hwf := HP.out.wf
    have hck := ck_bd hwf hf hvl
    have hpo := put_ok p hwf
    have hol := hwf.dn
    have HHD : Hid (Bytes (hd p 0 0) ∧ (hd p 0 0).length = 20 + p.o.length) := ⟨hd_bytes hwf hf hvl (by omega) (by omega), hd_len hwf.sl hwf.dl 0 0⟩
    have HLB : Hid (Bytes (layH p) ∧ (layH p).length = 20 + p.o.length) := ⟨layH_bytes hwf hf hvl, layH_len hwf⟩
    have hall := hf.all
    have HF : Hid (Formed p ∧ p.o.length ≤ 40) := ⟨hf, hvl⟩
    clear hf hv hwf
    go_wp2_with fail
    refine (newWriter_any 65535 _ (by omega) (by omega)).mono ?_
    rintro E w3 ⟨gw, v, rfl, hwr, hgw, hvn, haw3⟩
    rw [show limOf 65535 = 65535 from by decide] at hwr
    have HA3 : Hid (Away [] w w3) := HA2.out.next haw3 (by simp)
    have HB3 : Hid (BoxP w3 g p ov dv) := HB2.out.on haw3
    have hs3 := haw3.size
    have HW3 := Lib.hid hwr
    clear HA2 HB2 haw3 hwr
    go_wp2_with (refine wpList_load28 rfl _ rfl _ rfl p _ _ (by exact HB3.out) HAD.out ?_)
    have hvn' : New w.heap.size v := fun k hk => by rw [hvn] at hk; simp at hk
    refine (layHead_c w3 w.heap.size gw v p ov dv (by exact HP.out.on HA3.out) HF.out.1 HF.out.2 (by exact HW3.out) (by omega) (by exact hvn') HP.out.o.old HP.out.d.old (by omega)).mono ?_
    rintro E w4 ⟨rfl, v4, hwr4, hmv4, haw4⟩
    have hv4 : New w3.heap.size v4 := fun k hk => by
      rcases hmv4 k hk with h | h
      · rw [hvn] at h; simp at h
      · exact h
    have hfp : ∀ x ∈ fp gw v, x = gw := by intro x hx; simpa [fp, hvn] using hx
    have hne : gw ≠ g := by omega
    have HA4 : Hid (Away [] w w4) := HA3.out.next haw4 (fun x hx => .inr (by rw [hfp x hx]; omega))
    have HB4 : Hid (BoxP w4 g p ov dv) := HB3.out.away haw4 (fun hx => hne (hfp _ hx).symm)
    have hs4 := haw4.size
    have hg3 := HB3.out.lt
    have HW4 := Lib.hid hwr4
    clear HA3 HB3 HW3 haw4 hwr4 hmv4
    go_wp2_with fail
    refine (out_any w4 gw v4 65535 (hd p 0 0) 0 (by exact HW4.out)).mono ?_
    rintro E w5 ⟨v5, rfl, hown5, hnew5, haw5⟩
    rw [show wrOut (hd p 0 0) 0 = hd p 0 0 from by unfold wrOut; rw [if_pos rfl]] at hown5
    have HA5 : Hid (Away [] w w5) := HA4.out.next haw5 (by simp)
    have HB5 : Hid (BoxP w5 g p ov dv) := HB4.out.on haw5
    have HW5 := Lib.hid (HW4.out.away haw5 (by simp) (by simp))
    have hs5 := haw5.size
    clear HA4 HB4 HW4 haw5
    obtain ⟨a5, cap5, rfl, hcap5, hn5, hrow5, -⟩ := hown5.row (by rw [HHD.out.2]; omega) HHD.out.1
    have HR5 := Lib.hid hrow5
    clear hown5 hrow5
    go_wp2_with fail
    refine (of_any a5 (hd p 0 0) cap5 hcap5 _ (by exact HR5.out)).mono ?_
    rintro E w6 ⟨rfl, n6, rfl⟩
    have hck' : (65535 : Int) - pt (hd p 0 0) = ckP p := rfl
    rw [hck']
    go_wp2_with fail
    refine (put16_any (w5.drewN n6) gw v4 65535 (hd p 0 0) 0 10 (ckP p) (by exact HW5.out) hck.1 hck.2 (by omega) (by omega)).mono ?_
    rintro E w7 ⟨rfl, v7, hwr7, hmv7, haw7⟩
    rw [hpo.1, hpo.2] at hwr7
    have hv7 : New w3.heap.size v7 := fun k hk => by
      rcases hmv7 k hk with h | h
      · exact hv4 k h
      · have : w5.heap.size ≤ k := h
        omega
    have hfp7 : ∀ x ∈ fp gw v4, x = gw ∨ w3.heap.size ≤ x := by
      intro x hx
      simp [fp] at hx
      rcases hx with h | h
      · exact .inl h
      · exact .inr (hv4 x h)
    have HA7 : Hid (Away [] w w7) := (HA5.out.drewN n6).next haw7 (fun x hx => by
      rcases hfp7 x hx with h | h
      · right; omega
      · right; omega)
    have HB7 : Hid (BoxP w7 g p ov dv) := BoxP.away (w := w5.drewN n6) HB5.out haw7 (fun hx => by
      rcases hfp7 _ hx with h | h
      · omega
      · omega)
    have HP7 : Hid (Sl w7 dv p.d) := HP.out.d.on HA7.out
    have HW7 := Lib.hid hwr7
    have hs7 : w5.heap.size ≤ w7.heap.size := haw7.size
    clear HA5 HB5 HW5 haw7 hwr7 hmv7 HR5 HHD
    have c8 := (HB7.out.cells HAD.out).d
    obtain ⟨ad, capd, hdv, hd1, hd2, hd3⟩ := HP7.out
    subst hdv
    have HD3 := Lib.hid hd3
    clear hd3
    go_wp2_with fail
    refine (wbytes_any w7 gw v7 65535 (layH p) 0 ad p.d _ capd (by exact HW7.out) rfl hd2 (by exact HD3.out)).mono ?_
    rw [fits (by rw [HLB.out.2]; omega), fitsE _ (by rw [HLB.out.2]; omega)]
    rintro E w8 ⟨rfl, v8, hwr8, hmv8, haw8⟩
    have hfp8 : ∀ x ∈ fp gw v7, x = gw ∨ w3.heap.size ≤ x := by
      intro x hx
      simp [fp] at hx
      rcases hx with h | h
      · exact .inl h
      · exact .inr (hv7 x h)
    have HA8 : Hid (Away [] w w8) := HA7.out.next haw8 (fun x hx => by
      rcases hfp8 x hx with h | h
      · right; omega
      · right; omega)
    have HW8 := Lib.hid hwr8
    have hs8 := haw8.size
    clear HA7 HB7 HP7 HW7 haw8 hwr8 hmv8 c8 HD3
    go_wp2_with fail
    refine (out_any w8 gw v8 65535 (layH p ++ p.d) 0 (by exact HW8.out)).mono ?_
    rintro E w9 ⟨v9, rfl, hown9, hnew9, haw9⟩
    rw [show wrOut (layH p ++ p.d) 0 = lay4 p from by unfold wrOut; rw [if_pos rfl]; rfl] at hown9
    have HA9 : Hid (Away [] w w9) := HA8.out.next haw9 (by simp)
    have HO9 := Lib.hid hown9
    clear HA8 HW8 haw9 hown9
    go_wp2_with fail
    go_ret2
    exact ⟨v9, by rw [build_ok HZ.out.symm]; rfl, by rw [build_ok HZ.out.symm]; exact HO9.out, hnew9.mono (by omega), HA9.out⟩
#print axioms build_c
end Go.Proofs.YtbgpjhekohabiaaDoor
