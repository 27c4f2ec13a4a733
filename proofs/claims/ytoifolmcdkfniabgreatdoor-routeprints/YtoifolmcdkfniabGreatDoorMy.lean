/-
  The document's one and May.
-/
import Derived.Test.YtoifolmcdkfniabGreatDoorLw2D
import Derived.Test.YtoifolmcdkfniabGreatDoorAsM
namespace Go.Proofs.YtoifolmcdkfniabGreatDoor
open Go.ChangeShapes Go.WideShapes Go.ChangeAt Go.RowKit
set_option linter.unusedVariables false
set_option linter.unusedSimpArgs false
set_option maxRecDepth 100000

theorem mayR_false {x : Rt} (h : mayR x = true → False) : mayR x = false := by
  cases hb : mayR x with
  | false => rfl
  | true => exact (h hb).elim
set_option maxHeartbeats 8000000 in
theorem one_c (x : Rt) (hx : Okr x) (w : World) : Calls Tryz.prog 37 #[.agg (csD x)] w fun E w' => E = .returned (.bool (mayR x)) ∧ Away [] w w' := by
  have HX := Lib.hid hx
  have HVA := Lib.hid (fun w => rvalid_c x.v x.l hx.1 w)
  have HBI := Lib.hid (fun w => rbits_c x.v x.l hx.1 w)
  have HMK := Lib.hid (fun w => rmask_c x.v x.l hx.1 hx.2 x.b w)
  obtain ⟨wd, hwd⟩ : ∃ z : Int, z = if x.v = 4 then 32 else 128 := ⟨_, rfl⟩
  rw [← hwd] at HBI
  have HWD := Lib.hid hwd
  obtain ⟨r, hr⟩ : ∃ r, r = mayR x := ⟨_, rfl⟩
  rw [← hr]
  have HR := Lib.hid hr
  have HMI : Hid (mayR x = true → validP x.v x.l = true ∧ 0 ≤ x.b ∧ x.b ≤ wd ∧ 0 ≤ x.k ∧ x.k < 16) := fun h => by
    obtain ⟨h1, h2, h3, h4⟩ := mayR_iff.1 h
    obtain ⟨h5, h6, h7⟩ := ok_iff.1 h1
    exact ⟨h5, h6, by rw [HWD.out]; exact h7, h3, h4⟩
  clear hx hr hwd
  go_enter Tryz.func37, Tryz.ntmps37
  go_wp2_with (refine wpList_boxE rfl _ rfl x rfl ?_; refine Hid.out ?_)
  refine Lib.hid ?_
  intro g1 w1 hg1 hb1 haw
  have HA := Lib.hid haw
  have HA1 := Lib.hid (Away.refl [] w1)
  have HC : Hid (∀ w', Away [] w1 w' → w'.rangeAt g1 0 (listD x)) := fun w' h => (hb1.on h (by simp)).range
  have HCB : Hid (∀ w', Away [] w1 w' → w'.cell? ⟨g1, 17, none⟩ = some (.int .i64 x.b)) := fun w' h => by have := range_b (HC.out w' h) HX.out; simpa using this
  have HCK : Hid (∀ w', Away [] w1 w' → w'.cell? ⟨g1, 18, none⟩ = some (.int .i64 x.k)) := fun w' h => by have := range_k (HC.out w' h) HX.out; simpa using this
  have hlt := lt_of_block hb1
  have HB1 := Lib.hid hb1
  clear hb1 haw hg1
  obtain ⟨q, hq⟩ : ∃ q, q = validP x.v x.l := ⟨_, rfl⟩
  rw [← hq] at HVA HMI
  have HQ := Lib.hid hq
  clear hq
  cases q
  · have HF : Hid (r = false) := by show _ = _; rw [HR.out]; exact mayR_false (fun h => by have := (HMI.out h).1; simp at this)
    go_wp2_with fail
    refine wp_region_cls (C := fun w' => Away [] w1 w') (by kernel_rfl) (by kernel_rfl) (by exact HA1.out.drew) ?_
    repeat (first
      | go_big_quiet_skip
      | (go_big_quiet_want
         first
           | (refine quiet_ldAm _ rfl g1 0 rfl x.v x.l HX.out.1 (fun w' h => range_a (HC.out w' h) HX.out) ?_; go_simp; go_big_quiet_on)
           | (refine quiet_ld3 _ rfl ⟨g1, 17, none⟩ rfl x.b (fun w' h => HCB.out w' h) ?_; go_simp; go_big_quiet_on)
           | (refine quiet_ld3 _ rfl ⟨g1, 18, none⟩ rfl x.k (fun w' h => HCK.out w' h) ?_; go_simp; go_big_quiet_on)
           | (refine quiet_call 39 #[.agg (csA x.v x.l)] (.bool false) ?_ (fun W hW => (HVA.out W).mono (fun _ _ h => ⟨h.1, hW.trans (Away.of_below h.2)⟩)) ?_; (focus (intro w; go_simp; done)); go_simp; go_big_quiet_on)
           | (refine quiet_call 39 #[.agg (csA x.v x.l)] (.bool true) ?_ (fun W hW => (HVA.out W).mono (fun _ _ h => ⟨h.1, hW.trans (Away.of_below h.2)⟩)) ?_; (focus (intro w; go_simp; done)); go_simp; go_big_quiet_on)
           | (refine quiet_call 55 #[.agg (csA x.v x.l)] (.int .i64 wd) ?_ (fun W hW => (HBI.out W).mono (fun _ _ h => ⟨h.1, hW.trans (Away.of_below h.2)⟩)) ?_; (focus (intro w; go_simp; done)); go_simp; go_big_quiet_on)
           | (go_big_quiet_op; go_big_quiet_on)
           | (refine quiet_val ?_ ?_ ?_
              rotate_left
              · intro w; go_simp; rfl
              go_simp; go_big_quiet_on)))
    refine wpQuiet_nil ?_
    intro V hV
    have HV := Lib.hid hV
    clear hV
    go_wp2_with fail
    go_ret
    exact ⟨ret_bool (HF.out.symm), HA.out.trans HV.out⟩
  · by_cases k0 : x.k < 0
    · have HF : Hid (r = false) := by show _ = _; rw [HR.out]; exact mayR_false (fun h => by have := HMI.out h; omega)
      have k0b : decide (x.k < 0) = true := by simpa using k0
      go_wp2_with fail
      refine wp_region_cls (C := fun w' => Away [] w1 w') (by kernel_rfl) (by kernel_rfl) (by exact HA1.out.drew) ?_
      repeat (first
        | go_big_quiet_skip
        | (go_big_quiet_want
           first
             | (refine quiet_ldAm _ rfl g1 0 rfl x.v x.l HX.out.1 (fun w' h => range_a (HC.out w' h) HX.out) ?_; go_simp; go_big_quiet_on)
             | (refine quiet_ld3 _ rfl ⟨g1, 17, none⟩ rfl x.b (fun w' h => HCB.out w' h) ?_; go_simp; go_big_quiet_on)
             | (refine quiet_ld3 _ rfl ⟨g1, 18, none⟩ rfl x.k (fun w' h => HCK.out w' h) ?_; go_simp; go_big_quiet_on)
             | (refine quiet_call 39 #[.agg (csA x.v x.l)] (.bool false) ?_ (fun W hW => (HVA.out W).mono (fun _ _ h => ⟨h.1, hW.trans (Away.of_below h.2)⟩)) ?_; (focus (intro w; go_simp; done)); go_simp; go_big_quiet_on)
             | (refine quiet_call 39 #[.agg (csA x.v x.l)] (.bool true) ?_ (fun W hW => (HVA.out W).mono (fun _ _ h => ⟨h.1, hW.trans (Away.of_below h.2)⟩)) ?_; (focus (intro w; go_simp; done)); go_simp; go_big_quiet_on)
             | (refine quiet_call 55 #[.agg (csA x.v x.l)] (.int .i64 wd) ?_ (fun W hW => (HBI.out W).mono (fun _ _ h => ⟨h.1, hW.trans (Away.of_below h.2)⟩)) ?_; (focus (intro w; go_simp; done)); go_simp; go_big_quiet_on)
             | (go_big_quiet_op; go_big_quiet_on)
             | (refine quiet_val ?_ ?_ ?_
                rotate_left
                · intro w; go_simp; rfl
                go_simp; go_big_quiet_on)))
      refine wpQuiet_nil ?_
      intro V hV
      have HV := Lib.hid hV
      clear hV
      go_wp2_with fail
      go_ret
      exact ⟨ret_bool (HF.out.symm), HA.out.trans HV.out⟩
    have k0b : decide (x.k < 0) = false := by simpa using k0
    by_cases k16 : x.k ≥ 16
    · have HF : Hid (r = false) := by show _ = _; rw [HR.out]; exact mayR_false (fun h => by have := HMI.out h; omega)
      have k16b : decide (x.k ≥ 16) = true := by simpa using k16
      go_wp2_with fail
      refine wp_region_cls (C := fun w' => Away [] w1 w') (by kernel_rfl) (by kernel_rfl) (by exact HA1.out.drew) ?_
      repeat (first
        | go_big_quiet_skip
        | (go_big_quiet_want
           first
             | (refine quiet_ldAm _ rfl g1 0 rfl x.v x.l HX.out.1 (fun w' h => range_a (HC.out w' h) HX.out) ?_; go_simp; go_big_quiet_on)
             | (refine quiet_ld3 _ rfl ⟨g1, 17, none⟩ rfl x.b (fun w' h => HCB.out w' h) ?_; go_simp; go_big_quiet_on)
             | (refine quiet_ld3 _ rfl ⟨g1, 18, none⟩ rfl x.k (fun w' h => HCK.out w' h) ?_; go_simp; go_big_quiet_on)
             | (refine quiet_call 39 #[.agg (csA x.v x.l)] (.bool false) ?_ (fun W hW => (HVA.out W).mono (fun _ _ h => ⟨h.1, hW.trans (Away.of_below h.2)⟩)) ?_; (focus (intro w; go_simp; done)); go_simp; go_big_quiet_on)
             | (refine quiet_call 39 #[.agg (csA x.v x.l)] (.bool true) ?_ (fun W hW => (HVA.out W).mono (fun _ _ h => ⟨h.1, hW.trans (Away.of_below h.2)⟩)) ?_; (focus (intro w; go_simp; done)); go_simp; go_big_quiet_on)
             | (refine quiet_call 55 #[.agg (csA x.v x.l)] (.int .i64 wd) ?_ (fun W hW => (HBI.out W).mono (fun _ _ h => ⟨h.1, hW.trans (Away.of_below h.2)⟩)) ?_; (focus (intro w; go_simp; done)); go_simp; go_big_quiet_on)
             | (go_big_quiet_op; go_big_quiet_on)
             | (refine quiet_val ?_ ?_ ?_
                rotate_left
                · intro w; go_simp; rfl
                go_simp; go_big_quiet_on)))
      refine wpQuiet_nil ?_
      intro V hV
      have HV := Lib.hid hV
      clear hV
      go_wp2_with fail
      go_ret
      exact ⟨ret_bool (HF.out.symm), HA.out.trans HV.out⟩
    have k16b : decide (x.k ≥ 16) = false := by simpa using k16
    by_cases b0 : x.b < 0
    · have HF : Hid (r = false) := by show _ = _; rw [HR.out]; exact mayR_false (fun h => by have := HMI.out h; omega)
      have b0b : decide (x.b < 0) = true := by simpa using b0
      go_wp2_with fail
      refine wp_region_cls (C := fun w' => Away [] w1 w') (by kernel_rfl) (by kernel_rfl) (by exact HA1.out.drew) ?_
      repeat (first
        | go_big_quiet_skip
        | (go_big_quiet_want
           first
             | (refine quiet_ldAm _ rfl g1 0 rfl x.v x.l HX.out.1 (fun w' h => range_a (HC.out w' h) HX.out) ?_; go_simp; go_big_quiet_on)
             | (refine quiet_ld3 _ rfl ⟨g1, 17, none⟩ rfl x.b (fun w' h => HCB.out w' h) ?_; go_simp; go_big_quiet_on)
             | (refine quiet_ld3 _ rfl ⟨g1, 18, none⟩ rfl x.k (fun w' h => HCK.out w' h) ?_; go_simp; go_big_quiet_on)
             | (refine quiet_call 39 #[.agg (csA x.v x.l)] (.bool false) ?_ (fun W hW => (HVA.out W).mono (fun _ _ h => ⟨h.1, hW.trans (Away.of_below h.2)⟩)) ?_; (focus (intro w; go_simp; done)); go_simp; go_big_quiet_on)
             | (refine quiet_call 39 #[.agg (csA x.v x.l)] (.bool true) ?_ (fun W hW => (HVA.out W).mono (fun _ _ h => ⟨h.1, hW.trans (Away.of_below h.2)⟩)) ?_; (focus (intro w; go_simp; done)); go_simp; go_big_quiet_on)
             | (refine quiet_call 55 #[.agg (csA x.v x.l)] (.int .i64 wd) ?_ (fun W hW => (HBI.out W).mono (fun _ _ h => ⟨h.1, hW.trans (Away.of_below h.2)⟩)) ?_; (focus (intro w; go_simp; done)); go_simp; go_big_quiet_on)
             | (go_big_quiet_op; go_big_quiet_on)
             | (refine quiet_val ?_ ?_ ?_
                rotate_left
                · intro w; go_simp; rfl
                go_simp; go_big_quiet_on)))
      refine wpQuiet_nil ?_
      intro V hV
      have HV := Lib.hid hV
      clear hV
      go_wp2_with fail
      go_ret
      exact ⟨ret_bool (HF.out.symm), HA.out.trans HV.out⟩
    have b0b : decide (x.b < 0) = false := by simpa using b0
    by_cases bw : x.b > wd
    · have HF : Hid (r = false) := by show _ = _; rw [HR.out]; exact mayR_false (fun h => by have := HMI.out h; omega)
      have bwb : decide (x.b > wd) = true := by simpa using bw
      go_wp2_with fail
      refine wp_region_cls (C := fun w' => Away [] w1 w') (by kernel_rfl) (by kernel_rfl) (by exact HA1.out.drew) ?_
      repeat (first
        | go_big_quiet_skip
        | (go_big_quiet_want
           first
             | (refine quiet_ldAm _ rfl g1 0 rfl x.v x.l HX.out.1 (fun w' h => range_a (HC.out w' h) HX.out) ?_; go_simp; go_big_quiet_on)
             | (refine quiet_ld3 _ rfl ⟨g1, 17, none⟩ rfl x.b (fun w' h => HCB.out w' h) ?_; go_simp; go_big_quiet_on)
             | (refine quiet_ld3 _ rfl ⟨g1, 18, none⟩ rfl x.k (fun w' h => HCK.out w' h) ?_; go_simp; go_big_quiet_on)
             | (refine quiet_call 39 #[.agg (csA x.v x.l)] (.bool false) ?_ (fun W hW => (HVA.out W).mono (fun _ _ h => ⟨h.1, hW.trans (Away.of_below h.2)⟩)) ?_; (focus (intro w; go_simp; done)); go_simp; go_big_quiet_on)
             | (refine quiet_call 39 #[.agg (csA x.v x.l)] (.bool true) ?_ (fun W hW => (HVA.out W).mono (fun _ _ h => ⟨h.1, hW.trans (Away.of_below h.2)⟩)) ?_; (focus (intro w; go_simp; done)); go_simp; go_big_quiet_on)
             | (refine quiet_call 55 #[.agg (csA x.v x.l)] (.int .i64 wd) ?_ (fun W hW => (HBI.out W).mono (fun _ _ h => ⟨h.1, hW.trans (Away.of_below h.2)⟩)) ?_; (focus (intro w; go_simp; done)); go_simp; go_big_quiet_on)
             | (go_big_quiet_op; go_big_quiet_on)
             | (refine quiet_val ?_ ?_ ?_
                rotate_left
                · intro w; go_simp; rfl
                go_simp; go_big_quiet_on)))
      refine wpQuiet_nil ?_
      intro V hV
      have HV := Lib.hid hV
      clear hV
      go_wp2_with fail
      go_ret
      exact ⟨ret_bool (HF.out.symm), HA.out.trans HV.out⟩
    have bwb : decide (x.b > wd) = false := by simpa using bw
    have HOKM : Hid (maskOk x.v x.l x.b = true) := ok_iff.2 ⟨HQ.out.symm, by omega, by rw [← HWD.out]; omega⟩
    rw [maskA_ok HOKM.out, maskE_ok HOKM.out] at HMK
    have HML : Hid ((maskL x.b 0 x.l).length = 16) := by show _ = _; rw [maskL_length]; exact HX.out.1
    obtain ⟨ml, hml⟩ : ∃ ml, ml = maskL x.b 0 x.l := ⟨_, rfl⟩
    rw [← hml] at HMK HML
    obtain ⟨z, hz⟩ : ∃ z, z = (decide (x.v = x.v) && eqL ml x.l) := ⟨_, rfl⟩
    have hze := fun w => eqA x.v x.v ml x.l HML.out HX.out.1 w
    rw [← hz] at hze
    have HRZ : Hid (r = z) := by
      show _ = _
      rw [HR.out, hz, mayR, HOKM.out, hml]
      have h1 : decide (0 ≤ x.k) = true := by simp; omega
      have h2 : decide (x.k < 16) = true := by simp; omega
      rw [h1, h2]; simp
    clear hml hz
    have hgd := guard24
    go_wp2_with fail
    refine wp_region_cls (C := fun w' => Away [] w1 w') (by kernel_rfl) (by kernel_rfl) (by exact HA1.out.drew) ?_
    repeat (first
      | go_big_quiet_skip
      | (go_big_quiet_want
         first
           | (refine quiet_ldAm _ rfl g1 0 rfl x.v x.l HX.out.1 (fun w' h => range_a (HC.out w' h) HX.out) ?_; go_simp; go_big_quiet_on)
           | (refine quiet_ld3 _ rfl ⟨g1, 17, none⟩ rfl x.b (fun w' h => HCB.out w' h) ?_; go_simp; go_big_quiet_on)
           | (refine quiet_ld3 _ rfl ⟨g1, 18, none⟩ rfl x.k (fun w' h => HCK.out w' h) ?_; go_simp; go_big_quiet_on)
           | (refine quiet_call 39 #[.agg (csA x.v x.l)] (.bool false) ?_ (fun W hW => (HVA.out W).mono (fun _ _ h => ⟨h.1, hW.trans (Away.of_below h.2)⟩)) ?_; (focus (intro w; go_simp; done)); go_simp; go_big_quiet_on)
           | (refine quiet_call 39 #[.agg (csA x.v x.l)] (.bool true) ?_ (fun W hW => (HVA.out W).mono (fun _ _ h => ⟨h.1, hW.trans (Away.of_below h.2)⟩)) ?_; (focus (intro w; go_simp; done)); go_simp; go_big_quiet_on)
           | (refine quiet_call 55 #[.agg (csA x.v x.l)] (.int .i64 wd) ?_ (fun W hW => (HBI.out W).mono (fun _ _ h => ⟨h.1, hW.trans (Away.of_below h.2)⟩)) ?_; (focus (intro w; go_simp; done)); go_simp; go_big_quiet_on)
           | (go_big_quiet_op; go_big_quiet_on)
           | (refine quiet_val ?_ ?_ ?_
              rotate_left
              · intro w; go_simp; rfl
              go_simp; go_big_quiet_on)))
    refine wpQuiet_nil ?_
    intro V hV
    have HV := Lib.hid hV
    clear hV
    have HRA := Lib.hid (range_a (HC.out V HV.out) HX.out)
    have c17 := HCB.out V HV.out
    go_wp2_with (first
      | (refine wpList_load32m rfl _ rfl g1 0 rfl x.v x.l HX.out.1 HRA.out ?_)
      | (go_at_call 56; refine (HMK.out _).mono ?_; refine Hid.out ?_))
    refine Lib.hid ?_
    rintro E w4 ⟨rfl, hbl⟩
    have HV4 := Lib.hid (HV.out.trans (Away.of_below hbl))
    have hs4 := HV4.out.size
    clear hbl c17 HRA
    go_wp2_with (refine wpList_allocA rfl rfl ?_; refine Hid.out ?_)
    refine Lib.hid ?_
    intro g3 w5 hg3 hb3 haw
    have HB3 := Lib.hid hb3
    have HV5 := Lib.hid (HV4.out.trans haw)
    clear hb3 haw
    go_wp2_with (refine wpList_storeA rfl _ _ rfl g3 rfl x.v ml HML.out 0 z16 rfl rfl HB3.out ?_; refine Hid.out ?_)
    refine Lib.hid ?_
    intro w6 hb3 haw
    replace HB3 := Lib.hid hb3
    have HV6 : Hid (Away [] w1 w6) := HV5.out.next haw (fun z hz => .inr (by simp at hz; subst hz; omega))
    have HRA := Lib.hid (range_a (HC.out w6 HV6.out) HX.out)
    clear hb3 haw
    go_wp2_with (first
      | (refine wpList_load32 rfl _ rfl g3 rfl x.v ml HML.out HB3.out ?_)
      | (refine wpList_load32m rfl _ rfl g1 0 rfl x.v x.l HX.out.1 HRA.out ?_))
    go_ret
    exact ⟨ret_bool HRZ.out.symm, HA.out.trans HV6.out⟩
theorem twins_bad {L : List Rt} {j i : Nat} {x y : Rt} (hj : L[j]? = some x) (hi : L[i]? = some y) (hlt : j < i) (h : twin x y = true) : mayL L = false := by
  cases hb : mayL L with
  | false => rfl
  | true =>
    have hp := (mayL_iff.1 hb).2.2
    have h1 := (List.getElem?_eq_some_iff.1 hj)
    have h2 := (List.getElem?_eq_some_iff.1 hi)
    have := List.pairwise_iff_getElem.1 hp j i h1.1 h2.1 hlt
    rw [h1.2, h2.2, h] at this; simp at this
theorem may_true {L : List Rt} (h32 : L.length ≤ 32) (h1 : ∀ (j : Nat) (x : Rt), j < L.length → L[j]? = some x → mayR x = true) (h2 : ∀ (j i : Nat) (x y : Rt), j < i → i < L.length → L[j]? = some x → L[i]? = some y → twin x y = false) : mayL L = true := by
  refine mayL_iff.2 ⟨h32, fun x hx => ?_, ?_⟩
  · obtain ⟨j, hj, rfl⟩ := List.mem_iff_getElem.1 hx
    exact h1 j _ hj (by simp [hj])
  · rw [List.pairwise_iff_getElem]
    intro j i hj hi hlt
    exact h2 j i _ _ hlt hi (by simp [hj]) (by simp [hi])
set_option maxHeartbeats 8000000 in
theorem may_c {w : World} {v : Value} {L : List Rt} (h : Rd w v L) (hl : L.length ≤ 3518437208790) : Calls Tryz.prog 13 #[v] w fun E w' => E = .returned (.bool (mayL L)) ∧ Away [] w w' := by
  obtain ⟨a, cap, rfl, hcap, hsh⟩ := h.shp
  have HOK := Lib.hid h.ok
  have HSH := Lib.hid hsh
  obtain ⟨n, hn⟩ : ∃ n, n = L.length := ⟨_, rfl⟩
  rw [← hn] at hcap hl ⊢
  have HN := Lib.hid hn
  obtain ⟨r, hr⟩ : ∃ r, r = mayL L := ⟨_, rfl⟩
  rw [← hr]
  have HR := Lib.hid hr
  clear h hsh hn hr
  by_cases h32 : (n : Int) > 32
  · have HM : Hid (r = false) := by show _ = _; rw [HR.out]; exact mayL_long (by rw [← HN.out]; omega)
    go_enter Tryz.func13, Tryz.ntmps13
    go_wp2_with fail
    go_ret
    exact ⟨ret_bool HM.out.symm, Away.refl _ _⟩
  have h32' : n ≤ 32 := by omega
  have h32b : decide ((n : Int) > 32) = false := by simp; omega
  go_enter Tryz.func13, Tryz.ntmps13
  go_wp2_with fail
  go_loopw [3] (fun iv wr => ∃ i : Nat, iv = .int .i64 (i : Int) ∧ i ≤ n ∧ Away [] w wr ∧ (∀ (j : Nat) (x : Rt), j < i → L[j]? = some x → mayR x = true) ∧ ∀ (j k : Nat) (x y : Rt), j < k → k < i → L[j]? = some x → L[k]? = some y → twin x y = false) (fun iv _ => n - (intOf iv).toNat)
  case atStart => exact ⟨0, rfl, Nat.zero_le _, Away.refl _ _, fun j x hj => by omega, fun j k x y _ hk => by omega⟩
  case round =>
    obtain ⟨i, rfl, hi, haw, hn1, hn2⟩ := hrel
    have HA := Lib.hid haw
    have HN1 := Lib.hid hn1
    have HN2 := Lib.hid hn2
    clear haw hn1 hn2
    by_cases hin : i < n
    · have i1 : decide (i < n) = true := by simp; omega
      have i0 : (i : Int) < (n : Int) := by omega
      obtain ⟨x, hx, hxm⟩ := get_of (show i < L.length by rw [← HN.out]; omega)
      have HX := Lib.hid hx
      have HXM := Lib.hid hxm
      have HXO := Lib.hid (HOK.out x hxm)
      rcases HSH.out with he | ⟨b, o, ha, hrg⟩
      · exfalso; rw [he] at hx; simp at hx
      subst ha
      have HRG := Lib.hid hrg
      have HRX := Lib.hid (range_away HA.out (by simp) (hrg i x hx))
      have HMB := Lib.hid (fun w => one_c x HXO.out w)
      obtain ⟨q, hq⟩ : ∃ q, q = mayR x := ⟨_, rfl⟩
      rw [← hq] at HMB
      have HQ := Lib.hid hq
      clear hrg hx hxm hin hq
      go_wp2_with (first
        | (refine wpList_ixR rfl _ _ rfl b o n cap i rfl rfl (by omega) ?_)
        | (refine wpList_loadE rfl _ rfl b (o + i * 19) rfl x HXO.out (by exact HRX.out) ?_)
        | (go_at_call 37; refine (HMB.out _).mono ?_; refine Hid.out ?_))
      refine Lib.hid ?_
      rintro E w2 ⟨rfl, haw⟩
      have HA2 := Lib.hid (HA.out.trans haw)
      clear haw HMB HRX
      cases q
      · have HF : Hid (r = false) := by show _ = _; rw [HR.out]; exact mayL_bad HXM.out HQ.out.symm
        go_wp2_with fail
        go_ret
        exact ⟨ret_bool HF.out.symm, HA2.out⟩
      · go_wp2_with fail
        go_loopw [4] (fun kv wr => ∃ k : Nat, kv = .int .i64 (k : Int) ∧ k ≤ i ∧ Away [] w wr ∧ ∀ (j : Nat) (z : Rt), j < k → L[j]? = some z → twin z x = false) (fun kv _ => i - (intOf kv).toNat)
        case atStart => exact ⟨0, rfl, Nat.zero_le _, HA2.out, fun j z hj => by omega⟩
        case round =>
          obtain ⟨k, rfl, hk, haw, hnk⟩ := hrel
          have HB := Lib.hid haw
          have HNK := Lib.hid hnk
          clear haw hnk
          by_cases hki : k < i
          · have k1 : decide (k < i) = true := by simp; omega
            have k0 : (k : Int) < (i : Int) := by omega
            obtain ⟨y, hy, hym⟩ := get_of (show k < L.length by rw [← HN.out]; omega)
            have HY := Lib.hid hy
            have HYO := Lib.hid (HOK.out y hym)
            have HC : Hid (∀ w', Away [] w w' → w'.rangeAt b (o + i * 19) (listD x) ∧ w'.rangeAt b (o + k * 19) (listD y)) := fun w' hw' => ⟨range_away hw' (by simp) (HRG.out i x HX.out), range_away hw' (by simp) (HRG.out k y hy)⟩
            obtain ⟨q, hq⟩ : ∃ q, q = (decide (y.v = x.v) && eqL y.l x.l) := ⟨_, rfl⟩
            have hqe := fun w => eqA y.v x.v y.l x.l HYO.out.1 HXO.out.1 w
            rw [← hq] at hqe
            have HQQ := Lib.hid hq
            have hgd := guard24
            have HLT := Lib.hid hki
            clear hy hym hki hq
            cases q
            · have HT : Hid (twin y x = false) := by
                show _ = _; unfold twin; rw [← Bool.and_assoc, ← HQQ.out]; rfl
              go_wp2_with fail
              refine wp_region_cls (C := fun w' => Away [] w w') (by kernel_rfl) (by kernel_rfl) (by exact HB.out.drew) ?_
              repeat (first
                | go_big_quiet_skip
                | (go_big_quiet_want
                   first
                     | (refine quiet_ixR _ _ rfl b o n cap k _ rfl rfl rfl (by omega) ?_; go_simp; go_big_quiet_on)
                     | (refine quiet_ixR _ _ rfl b o n cap i _ rfl rfl rfl (by omega) ?_; go_simp; go_big_quiet_on)
                     | (refine quiet_ldAm _ rfl b (o + k * 19) rfl y.v y.l HYO.out.1 (fun w' h => range_a (HC.out w' h).2 HYO.out) ?_; go_simp; go_big_quiet_on)
                     | (refine quiet_ldAm _ rfl b (o + i * 19) rfl x.v x.l HXO.out.1 (fun w' h => range_a (HC.out w' h).1 HXO.out) ?_; go_simp; go_big_quiet_on)
                     | (refine quiet_ld3 _ rfl ⟨b, o + k * 19 + 17, none⟩ rfl y.b (fun w' h => range_b (HC.out w' h).2 HYO.out) ?_; go_simp; go_big_quiet_on)
                     | (refine quiet_ld3 _ rfl ⟨b, o + i * 19 + 17, none⟩ rfl x.b (fun w' h => range_b (HC.out w' h).1 HXO.out) ?_; go_simp; go_big_quiet_on)
                     | (go_big_quiet_op; go_big_quiet_on)
                     | (refine quiet_val ?_ ?_ ?_
                        rotate_left
                        · intro w; go_simp; rfl
                        go_simp; go_big_quiet_on)))
              refine wpQuiet_nil ?_
              intro V hV
              have HV := Lib.hid hV
              clear hV
              go_wp2_with fail
              go_roundw
              case rel => exact ⟨k + 1, by go_num, by omega, HV.out, fun j z hj hz => by
                rcases Nat.lt_or_ge j k with h1 | h1
                · exact HNK.out j z h1 hz
                · rw [show j = k from by omega, HY.out] at hz
                  simp only [Option.some.injEq] at hz
                  rw [← hz]; exact HT.out⟩
              case measure => simp [intOf]; omega
            · by_cases hb : y.b = x.b
              · have HT : Hid (twin y x = true) := by
                  show _ = _; unfold twin; rw [← Bool.and_assoc, ← HQQ.out, hb]; simp
                have hbe : (y.b == x.b) = true := by simpa using hb
                have HF : Hid (r = false) := by show _ = _; rw [HR.out]; exact twins_bad HY.out HX.out HLT.out HT.out
                clear hb
                go_wp2_with fail
                refine wp_region_cls (C := fun w' => Away [] w w') (by kernel_rfl) (by kernel_rfl) (by exact HB.out.drew) ?_
                repeat (first
                  | go_big_quiet_skip
                  | (go_big_quiet_want
                     first
                       | (refine quiet_ixR _ _ rfl b o n cap k _ rfl rfl rfl (by omega) ?_; go_simp; go_big_quiet_on)
                       | (refine quiet_ixR _ _ rfl b o n cap i _ rfl rfl rfl (by omega) ?_; go_simp; go_big_quiet_on)
                       | (refine quiet_ldAm _ rfl b (o + k * 19) rfl y.v y.l HYO.out.1 (fun w' h => range_a (HC.out w' h).2 HYO.out) ?_; go_simp; go_big_quiet_on)
                       | (refine quiet_ldAm _ rfl b (o + i * 19) rfl x.v x.l HXO.out.1 (fun w' h => range_a (HC.out w' h).1 HXO.out) ?_; go_simp; go_big_quiet_on)
                       | (refine quiet_ld3 _ rfl ⟨b, o + k * 19 + 17, none⟩ rfl y.b (fun w' h => range_b (HC.out w' h).2 HYO.out) ?_; go_simp; go_big_quiet_on)
                       | (refine quiet_ld3 _ rfl ⟨b, o + i * 19 + 17, none⟩ rfl x.b (fun w' h => range_b (HC.out w' h).1 HXO.out) ?_; go_simp; go_big_quiet_on)
                       | (go_big_quiet_op; go_big_quiet_on)
                       | (refine quiet_val ?_ ?_ ?_
                          rotate_left
                          · intro w; go_simp; rfl
                          go_simp; go_big_quiet_on)))
                refine wpQuiet_nil ?_
                intro V hV
                have HV := Lib.hid hV
                clear hV
                go_wp2_with fail
                go_ret
                exact ⟨ret_bool HF.out.symm, HV.out⟩
              · have HT : Hid (twin y x = false) := by
                  show _ = _; unfold twin; rw [← Bool.and_assoc, ← HQQ.out]; simpa using hb
                have hbe : (y.b == x.b) = false := by simpa using hb
                clear hb
                go_wp2_with fail
                refine wp_region_cls (C := fun w' => Away [] w w') (by kernel_rfl) (by kernel_rfl) (by exact HB.out.drew) ?_
                repeat (first
                  | go_big_quiet_skip
                  | (go_big_quiet_want
                     first
                       | (refine quiet_ixR _ _ rfl b o n cap k _ rfl rfl rfl (by omega) ?_; go_simp; go_big_quiet_on)
                       | (refine quiet_ixR _ _ rfl b o n cap i _ rfl rfl rfl (by omega) ?_; go_simp; go_big_quiet_on)
                       | (refine quiet_ldAm _ rfl b (o + k * 19) rfl y.v y.l HYO.out.1 (fun w' h => range_a (HC.out w' h).2 HYO.out) ?_; go_simp; go_big_quiet_on)
                       | (refine quiet_ldAm _ rfl b (o + i * 19) rfl x.v x.l HXO.out.1 (fun w' h => range_a (HC.out w' h).1 HXO.out) ?_; go_simp; go_big_quiet_on)
                       | (refine quiet_ld3 _ rfl ⟨b, o + k * 19 + 17, none⟩ rfl y.b (fun w' h => range_b (HC.out w' h).2 HYO.out) ?_; go_simp; go_big_quiet_on)
                       | (refine quiet_ld3 _ rfl ⟨b, o + i * 19 + 17, none⟩ rfl x.b (fun w' h => range_b (HC.out w' h).1 HXO.out) ?_; go_simp; go_big_quiet_on)
                       | (go_big_quiet_op; go_big_quiet_on)
                       | (refine quiet_val ?_ ?_ ?_
                          rotate_left
                          · intro w; go_simp; rfl
                          go_simp; go_big_quiet_on)))
                refine wpQuiet_nil ?_
                intro V hV
                have HV := Lib.hid hV
                clear hV
                go_wp2_with fail
                go_roundw
                case rel => exact ⟨k + 1, by go_num, by omega, HV.out, fun j z hj hz => by
                  rcases Nat.lt_or_ge j k with h1 | h1
                  · exact HNK.out j z h1 hz
                  · rw [show j = k from by omega, HY.out] at hz
                    simp only [Option.some.injEq] at hz
                    rw [← hz]; exact HT.out⟩
                case measure => simp [intOf]; omega
          · have k1 : decide (k < i) = false := by simp; omega
            have HNI : Hid (∀ (j : Nat) (z : Rt), j < i → L[j]? = some z → twin z x = false) := fun j z hj => HNK.out j z (by omega)
            clear hki
            go_wp2_with fail
            go_roundw
            case rel => exact ⟨i + 1, by go_num, by omega, HB.out, fun j z hj hz => by
              rcases Nat.lt_or_ge j i with h1 | h1
              · exact HN1.out j z h1 hz
              · rw [show j = i from by omega, HX.out] at hz
                simp only [Option.some.injEq] at hz
                rw [← hz]; exact HQ.out.symm, fun j k z y hjk hki hz hy => by
              rcases Nat.lt_or_ge k i with h1 | h1
              · exact HN2.out j k z y hjk h1 hz hy
              · have e : k = i := by omega
                subst e
                rw [HX.out] at hy
                simp only [Option.some.injEq] at hy
                rw [← hy]; exact HNI.out j z hjk hz⟩
            case measure => simp [intOf]; omega
    · have i1 : decide (i < n) = false := by simp; omega
      have HT : Hid (r = true) := by
        show _ = _; rw [HR.out]
        exact may_true (by rw [← HN.out]; exact h32') (fun j x hj => HN1.out j x (by rw [← HN.out] at hj; omega)) (fun j k x y hjk hk => HN2.out j k x y hjk (by rw [← HN.out] at hk; omega))
      clear hin
      go_wp2_with fail
      go_ret
      exact ⟨ret_bool HT.out.symm, HA.out⟩
end Go.Proofs.YtoifolmcdkfniabGreatDoor
