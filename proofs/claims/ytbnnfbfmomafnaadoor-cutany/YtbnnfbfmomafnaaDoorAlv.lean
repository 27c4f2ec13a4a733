/-
  alive of the laws.
-/
import Derived.Test.YtbnnfbfmomafnaaDoorLnk
namespace Go.Proofs.YtbnnfbfmomafnaaDoor
open Go.ChangeShapes Go.WideShapes Go.ChangeAt Go.RowKit Num
set_option linter.unusedVariables false
set_option maxHeartbeats 4000000
set_option maxRecDepth 100000

theorem wpList_build28w {ops : Array Oper} {rest : List Oper} {o : Oper} {a : Act} {w : World} {Q : Exit → Act → World → Prop} (hw : Region.wanted o (yielded ops a.tmps) = true) (x : Operand) (ho : o.op = .buildSlice 32 1 #[(0, x)]) (p : Pk) (ov dv : Value) (hx : a.eval x = .agg (csP p ov dv)) (ha : Ad p)
    (h : ∀ g w1, w.heap.size ≤ g → BoxP w1 g p ov dv → Away [] w w1 → wpList Tryd.prog ops Q rest (a.put o.dst (.slice (some ⟨g, 0, none⟩) 1 1)) w1) : wpList Tryd.prog ops Q (o :: rest) a w :=
  BigFrame.wpList_want hw fun K hK => wp_build28 x ho p ov dv hx ha fun g w1 h1 h2 h3 _ _ => hK _ _ (h g w1 h1 h2 h3)
theorem smp_wf : Wf (smp 1000) := by
  have h1 : Bytes [10, 0, 0, 1, 0, 0, 0, 0, 0, 0, 0, 0, 0, 0, 0, 0] := by unfold Bytes; decide
  have h2 : Bytes [10, 0, 0, 2, 0, 0, 0, 0, 0, 0, 0, 0, 0, 0, 0, 0] := by unfold Bytes; decide
  exact ⟨by simp [smp, i64ok], by simp [smp, i64ok], by simp [smp, i64ok], by simp [smp, i64ok], rfl, h1, by simp [smp, i64ok], rfl, h2, by simp [smp, i64ok], by simp [smp, i64ok], by simp [smp], by simp [smp], by simp [smp, i64ok], Bytes.nil, by simp [smp], smpB_bytes _, by show (smpB 1000).length ≤ _; rw [smpB_len]; omega⟩
theorem smp_len : (smp 1000).d.length = 1000 := smpB_len 1000
theorem smp_unc : Unc (smp 1000) := by
  refine ⟨?_, rfl, rfl, rfl⟩
  refine (if_neg (by simp [smp])).trans ((right_iff _).2 ⟨?_, by show validP [] = true; unfold validP; rw [parseP_nil]; rfl⟩)
  have hd := smp_len
  exact ⟨rfl, rfl, rfl, by simp [smp], by simp [smp], by simp [smp], by simp [smp], by simp [smp], by simp [smp], by simp [smp], rfl, rfl, rfl, rfl, by simp [smp], by simp [smp], by simp [smp], fun h => by simp [smp] at h, fun h => by simp [smp] at h, fun h => by simp [smp] at h, by rw [hd]; simp [smp], by rw [hd]; simp [smp]⟩
theorem smp_fits : fitsP (smp 1000) 1019 = false := by
  rw [Bool.eq_false_iff]
  intro h
  have := ((fits_iff _ _).1 h).2
  rw [smp_len] at this
  have h2 := top_pos (smp 1000)
  omega
theorem smp_mtu : mtuP 1019 (smp 1000).v = true := by decide
theorem smp_cut : ∃ a b, cutL (smp 1000) 1019 0 = [a, b] ∧ a.d.length = 992 ∧ a.more = true ∧ b.off = 992 ∧ b.more = false := by
  have hu := smp_unc; have hw := smp_wf
  have hd := smp_len
  have hf := hu.fst hw (id := 0) (by omega) (by omega)
  have hl := hu.lat hw (id := 0) (by omega) (by omega)
  have rf := (room_eq hu hw hf smp_mtu).2.1
  have rl := (room_eq hu hw hl smp_mtu).2.1
  have tf : topP (fstP (smp 1000) 0) = 20 := by rw [fst_top]; rfl
  have tl : topP (latP (smp 1000) 0) = 20 := by
    rw [lat_top]
    have : carryP (smp 1000).o = [] := carry_nil rfl
    rw [this]; rfl
  rw [tf] at rf; rw [tl] at rl
  have e1 : cutL (smp 1000) 1019 0 = pcsP (smp 1000) 1019 (latP (smp 1000) 0) 1000 (fstP (smp 1000) 0) 0 := by unfold cutL; rw [hd]
  have s1 : shareP ((smp 1000).d.length - 0) (roomP (fstP (smp 1000) 0) 1019) (smp 1000).v = 992 := by rw [rf, hd]; rfl
  have s2 : shareP ((smp 1000).d.length - 992) (roomP (latP (smp 1000) 0) 1019) (smp 1000).v = 8 := by rw [rl, hd]; rfl
  rw [e1, show (1000 : Nat) = 999 + 1 from rfl, pcsP, if_pos (by rw [hd]; omega), s1, show (999 : Nat) = 998 + 1 from rfl, pcsP, if_pos (by rw [hd]; omega), Nat.zero_add, s2, pcs_nil (by rw [hd]; omega)]
  exact ⟨_, _, rfl, by show ((List.drop 0 (smp 1000).d).take 992).length = 992; simp [hd], by show decide (992 < (smp 1000).d.length - 0) = true; rw [hd]; rfl, rfl, by show decide (8 < (smp 1000).d.length - 992) = false; rw [hd]; rfl⟩
theorem smp_is : isP (smp 1000) 1019 (cutL (smp 1000) 1019 0) = true := is_cut smp_unc smp_wf (by omega) (by omega) smp_mtu smp_fits rfl
theorem smp_not : isP (smp 1000) 1019 [smp 1000] = false := by unfold isP; rw [smp_fits]; simp
theorem smp_tell : cutP (smp 1000) 1019 0 = (cutL (smp 1000) 1019 0, 0) := by
  unfold cutP
  rw [(uncut_iff _).2 smp_unc, smp_mtu, smp_fits]; rfl
theorem two_of {xs : List X} {a b : Pk} (h : xs.map X.p = [a, b]) : ∃ oa da ob db, xs = [⟨a, oa, da⟩, ⟨b, ob, db⟩] := by
  have hl : xs.length = 2 := by rw [← List.length_map (f := X.p), h]; rfl
  cases xs with
  | nil => exact absurd hl (by decide)
  | cons x r => cases r with
    | nil => exact absurd hl (by simp)
    | cons y r => cases r with
      | cons z r => simp only [List.length_cons] at hl; omega
      | nil =>
        have h1 := (List.cons.inj h).1
        have h2 := (List.cons.inj (List.cons.inj h).2).1
        exact ⟨x.o, x.d, y.o, y.d, by rw [← h1, ← h2]⟩
theorem alive_c (w : World) (hg : Glob w) : Calls Tryd.prog 9 #[] w fun E w' => E = .returned (.bool true) ∧ Away [] w w' := by
  have HG := Lib.hid hg
  clear hg
  go_enter Tryd.func9, Tryd.ntmps9
  go_wp2_with fail
  refine (sample_c 1000 (by omega) w).mono ?_
  rintro E w1 ⟨dv, rfl, hown, hnew, haw⟩
  have HP : Hid (Pkt w1 (smp 1000) (.slice none 0 0) dv) := ⟨smp_wf, Sl.nil _, hown.sl smp_wf.d smp_wf.dn⟩
  have HD1 := Lib.hid hown.one
  have HA := Lib.hid haw
  have HAD : Hid (Ad (smp 1000)) := smp_wf.ad
  clear hown hnew haw
  obtain ⟨q, hq⟩ : ∃ q, q = smp 1000 := ⟨_, rfl⟩
  have HQ := Lib.hid hq
  rw [← hq] at HP HAD ⊢
  clear hq
  go_wp2_with (refine wpList_new28 rfl rfl rfl _ _ rfl q (.slice none 0 0) dv (fun g => rfl) (fun g => rfl) HAD.out rfl HD1.out ?_; refine Hid.out ?_)
  refine Lib.hid ?_
  intro g w2 hg2 hb haw
  have HB := Lib.hid hb
  replace HP := Lib.hid (HP.out.on haw)
  replace HA := Lib.hid (HA.out.on haw)
  clear hb haw hg2
  have KC : Hid (∀ w', Away [] w2 w' → Calls Tryd.prog 13 #[.agg (csP q (.slice none 0 0) dv), .int .i64 1019, .int .u32 0] w' fun E w'' => CutOut w' q 1019 0 E w'') := fun w' h => cut_c q _ dv 1019 0 w' (HP.out.on h) ((HG.out.on HA.out).on h) (by omega) (by omega)
  go_wp2_with (refine wpList_load28 rfl _ rfl g rfl q _ _ (by exact HB.out) HAD.out ?_)
  refine (KC.out _ (Away.refl _ _)).mono ?_
  rintro E w3 ⟨v, xs, rfl, hcu, hxm, haw⟩
  obtain ⟨a, b, hab, ha1, ha2, hb1, hb2⟩ := smp_cut
  rw [HQ.out, smp_tell] at hxm ⊢
  rw [← HQ.out]
  have hxm2 : xs.map X.p = [a, b] := by rw [← hab]; exact hxm
  have HIS : Hid (isP q 1019 (xs.map X.p) = true) := by show _ = _; rw [HQ.out, hxm]; exact smp_is
  obtain ⟨oa, da, ob, db, rfl⟩ := two_of hxm2
  obtain ⟨va, vc, rfl, hvc, hvn, hpk, hvo⟩ := hcu.pks (by simp)
  have HPK := Lib.hid hpk
  obtain ⟨b0, o0, hb0, hr0, hk0⟩ := hpk.at (i := 0) rfl
  obtain ⟨b1', o1', hb1', hr1, hk1⟩ := hpk.at (i := 1) rfl
  subst hb0
  obtain ⟨rfl, rfl⟩ : b0 = b1' ∧ o0 = o1' := by simpa using hb1'
  obtain rfl : o0 = 0 := by simpa using (hvo _ rfl).2.1
  obtain ⟨ad, cd, hda, -⟩ := (show Pkt w3 a oa da from hk0).d
  have ga := csP_get (show Pkt w3 a oa da from hk0).wf.ad oa da
  have gb := csP_get (show Pkt w3 b ob db from hk1).wf.ad ob db
  have c45 : w3.cell? ⟨b0, 45, none⟩ = some (.slice ad 992 cd) := by
    have := hr0 45 da (by simpa [X.cells, csP] using ga.2.2.2.2.2.2.2.2.2.2.2.2.2)
    rw [hda, ha1] at this
    simpa using this
  have c41 : w3.cell? ⟨b0, 41, none⟩ = some (.bool true) := by
    have := hr0 41 (.bool a.more) (by simpa [X.cells, csP] using ga.2.2.2.2.2.2.2.2.2.1)
    rw [ha2] at this
    simpa using this
  have c89 : w3.cell? ⟨b0, 89, none⟩ = some (.int .i64 992) := by
    have := hr1 43 (.int .i64 b.off) (by simpa [X.cells, csP] using gb.2.2.2.2.2.2.2.2.2.2.2.1)
    rw [hb1] at this
    simpa using this
  have c87 : w3.cell? ⟨b0, 87, none⟩ = some (.bool false) := by
    have := hr1 41 (.bool b.more) (by simpa [X.cells, csP] using gb.2.2.2.2.2.2.2.2.2.1)
    rw [hb2] at this
    simpa using this
  replace HB := Lib.hid (HB.out.on haw)
  replace HP := Lib.hid (HP.out.on haw)
  replace HA := Lib.hid (HA.out.on haw)
  have HGr : Hid (Glob w3) := HG.out.on HA.out
  have KI : Hid (∀ w', Away [] w3 w' → Calls Tryd.prog 14 #[.agg (csP q (.slice none 0 0) dv), .int .i64 1019, .slice (some ⟨b0, 0, none⟩) 2 vc] w' fun E w'' => E = .returned (.bool true) ∧ Away [] w' w'') := fun w' h => by
    have := is_c q (.slice none 0 0) dv 1019 (some ⟨b0, 0, none⟩) [⟨a, oa, da⟩, ⟨b, ob, db⟩] 2 vc w' rfl (HP.out.on h) (HPK.out.on h) (HGr.out.on h)
    rw [HIS.out] at this
    exact this
  clear hcu hxm hxm2 hab ha1 ha2 hb1 hb2 hpk hvo hb1' hr0 hr1 hk0 hk1 ga gb haw KC hda hvn
  go_wp2_with (refine wpList_load28 rfl _ rfl g rfl q _ _ (by exact HB.out) HAD.out ?_)
  refine (KI.out _ (Away.refl _ _)).mono ?_
  rintro E w4 ⟨rfl, haw⟩
  replace HB := Lib.hid (HB.out.on haw)
  replace HP := Lib.hid (HP.out.on haw)
  replace HA := Lib.hid (HA.out.on haw)
  replace HGr := Lib.hid (HGr.out.on haw)
  clear haw KI c45 c41 c89 c87
  go_wp2_with (first
    | (refine wpList_load28 rfl _ rfl g rfl q _ _ (by exact HB.out) HAD.out ?_)
    | (refine wpList_build28w rfl _ rfl q (.slice none 0 0) dv rfl HAD.out ?_; refine Hid.out ?_))
  refine Lib.hid ?_
  intro gq w5 hgq hbq haw
  have HL : Hid (Pks w5 (some ⟨gq, 0, none⟩) [⟨q, .slice none 0 0, dv⟩]) := by
    obtain ⟨a', c', hv', -, -, hp', -⟩ := (lst_one hbq HAD.out).pks (by simp) (fun x hx => by simp at hx; subst hx; exact HP.out.on haw)
    simp only [List.length_singleton, Value.slice.injEq] at hv'
    rw [hv'.1]; exact hp'
  replace HP := Lib.hid (HP.out.on haw)
  replace HA := Lib.hid (HA.out.on haw)
  replace HGr := Lib.hid (HGr.out.on haw)
  clear hgq hbq haw HB
  have KI : Hid (Calls Tryd.prog 14 #[.agg (csP q (.slice none 0 0) dv), .int .i64 1019, .slice (some ⟨gq, 0, none⟩) 1 1] w5 fun E w'' => E = .returned (.bool false) ∧ Away [] w5 w'') := by
    have := is_c q (.slice none 0 0) dv 1019 (some ⟨gq, 0, none⟩) [⟨q, .slice none 0 0, dv⟩] 1 1 w5 rfl HP.out HL.out HGr.out
    rw [show isP q 1019 (List.map X.p [⟨q, .slice none 0 0, dv⟩]) = false from by rw [HQ.out]; exact smp_not] at this
    exact this
  go_wp2_with fail
  refine KI.out.mono ?_
  rintro E w6 ⟨rfl, haw⟩
  replace HA := Lib.hid (HA.out.on haw)
  clear haw KI
  go_wp2_with fail
  go_ret
  exact ⟨rfl, HA.out⟩
#print axioms alive_c
end Go.Proofs.YtbnnfbfmomafnaaDoor
