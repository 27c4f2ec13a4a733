/-
  The document's own: Parse.
-/
import Derived.Test.YtbgpjhekohabiabDoorRefR
import Derived.Test.YtbgpjhekohabiabDoorRefF
namespace Go.Proofs.YtbgpjhekohabiabDoor
open Go.ChangeShapes Go.WideShapes Go.ChangeAt Go.RowKit Go.Deep Num
set_option linter.unusedVariables false
set_option maxHeartbeats 4000000
set_option maxRecDepth 100000

def RParseOut (w : World) (b : List Int) (E : Ending) (w' : World) : Prop :=
  ∃ ov dv, E = .returned (.tuple #[.agg (csP (parse4 b).1 ov dv), .int .i64 (parse4 b).2]) ∧ Owns w' ov (parse4 b).1.o ∧ Owns w' dv (parse4 b).1.d ∧ Away [] w w'
theorem w16_take (b : List Int) (N i : Nat) (h : i + 1 < N) : w16 (b.take N) i = w16 b i := by
  unfold w16 gt; rw [List.getElem?_take, if_pos (by omega), List.getElem?_take, if_pos (by omega)]
theorem rparse_c (a : Option Addr) (b : List Int) (n cap : Nat) (w : World) (hn : b.length = n) (hcap : n ≤ cap) (ha : a = none → cap = 0) (hr : Row w a b) :
    Calls Tryd.prog 41 #[.slice a n cap] w fun E w' => RParseOut w b E w' := by
  subst hn
  have hlen := hr.1
  have HBY := Lib.hid hr.2.1
  have HR := Lib.hid hr
  have ZER : Hid (∀ e w', Away [] w w' → parse4 b = (zeroPk, e) → RParseOut w b (.returned (.tuple #[.agg (csP zeroPk (.slice none 0 0) (.slice none 0 0)), .int .i64 e])) w') := fun e w' h he => ⟨.slice none 0 0, .slice none 0 0, by rw [he], by rw [he]; exact Owns.nil _, by rw [he]; exact Owns.nil _, h⟩
  have HHE : Hid (headE b = if hofE b ≠ 0 then hofE b else if w16 b 2 ≠ b.length then 51 else if w16 b 10 ≠ sumH (b.take (headN b)) then 52 else 0) := by
    show _ = _
    unfold headE hofE
    by_cases h1 : b.length < 20
    · simp [h1]
    · by_cases h2 : gt b 0 / 16 ≠ 4 ∨ headN b < 20
      · simp only [if_neg h1, if_pos h2]; simp
      · by_cases h3 : b.length < headN b
        · simp only [if_neg h1, if_neg h2, if_pos h3]; simp
        · simp only [if_neg h1, if_neg h2, if_neg h3]; simp
  have HP0 : Hid (headE b ≠ 0 → parse4 b = (zeroPk, headE b)) := fun h => by unfold parse4; rw [if_pos h]
  clear hr
  go_enter Tryd.func41, Tryd.ntmps41
  go_wp2_with (refine wpList_alloc28 rfl rfl ?_; refine Hid.out ?_)
  refine Lib.hid ?_
  intro g2 w1 hg2 hb2 haw1
  have HB2 := Lib.hid hb2; have HA := Lib.hid haw1
  have hl2 := hb2.lt
  clear hb2 haw1
  go_wp2_with fail
  refine (rhead_c a b _ cap _ rfl (HR.out.on HA.out)).mono ?_
  rintro E wh ⟨rfl, rfl⟩
  by_cases he : hofE b = 0
  rotate_left
  · have e1 : headE b = hofE b := by rw [HHE.out, if_pos he]
    have HPE : Hid (parse4 b = (zeroPk, hofE b)) := by show _ = _; rw [HP0.out (by rw [e1]; exact he), e1]
    generalize hofE b = e at *
    have be : (e == 0) = false := by simp [he]
    have be2 : (e != 0) = true := by simp [he]
    clear e1 he
    go_wp2_with (first | (refine wpList_store28 rfl _ _ rfl _ rfl zeroPk (.slice none 0 0) (.slice none 0 0) rfl zeroPk (.slice none 0 0) (.slice none 0 0) (by exact HB2.out) ⟨rfl, rfl⟩ ⟨rfl, rfl⟩ rfl rfl ?_; refine Hid.out ?_))
    refine Lib.hid ?_
    intro wz hbz hawz
    have HBz := Lib.hid hbz
    have HAz : Hid (Away [] w wz) := HA.out.next hawz (fun x hx => .inr (by simp at hx; omega))
    clear hbz hawz
    go_wp2_with fail
    refine bodyPost_ret (result28t rfl _ _ _ _ _ _ (.int .i64 e) rfl rfl HBz.out ⟨rfl, rfl⟩) rfl (ZER.out e wz HAz.out (HPE.out))
  · have hN1 : hofN b = (headN b : Int) := by unfold hofN; rw [if_pos he]
    have hfacts : 20 ≤ b.length ∧ 20 ≤ headN b ∧ headN b ≤ b.length := by
      unfold hofE at he
      split at he
      · simp at he
      · split at he
        · simp at he
        · split at he
          · simp at he
          · rename_i h1 h2 h3
            simp only [not_or, Decidable.not_not] at h2
            exact ⟨by omega, by omega, by omega⟩
    have hN4 : headN b % 4 = 0 ∧ headN b ≤ 60 := by have h := gt_bd HBY.out 0; unfold headN; omega
    have HHE2 : Hid (headE b = if w16 b 2 ≠ b.length then 51 else if w16 b 10 ≠ sumH (b.take (headN b)) then 52 else 0) := by show _ = _; rw [HHE.out, if_neg (by simp [he])]
    have HP1 : Hid (headE b = 0 → parse4 b = if 128 ≤ gt b 6 ∨ formedP (readP b (headN b)) = false then (zeroPk, 50) else if validP (readP b (headN b)).o = false then (zeroPk, 40) else (readP b (headN b), 0)) := fun h => by unfold parse4; rw [if_neg (by simp [h])]
    rw [hN1, he]
    clear hN1 he HHE
    obtain ⟨N, hN⟩ : ∃ N, N = headN b := ⟨_, rfl⟩
    rw [← hN] at hfacts hN4 HHE2 HP1 ⊢
    clear hN
    obtain ⟨f1, f2, f3⟩ := hfacts
    obtain ⟨f4, f5⟩ := hN4
    go_wp2_with fail
    refine (rget_c a b _ cap 2 _ rfl (HR.out.on HA.out) (by omega)).mono ?_
    rintro E wg ⟨rfl, kg, hwg⟩
    have haw : Away [] wh wg := by rw [hwg]; exact (Away.refl [] wh).drewN kg
    replace HA := Lib.hid (HA.out.on haw)
    replace HB2 := Lib.hid (HB2.out.on haw)
    clear hwg haw
    by_cases hsz : w16 b 2 = (b.length : Int)
    rotate_left
    · have HPE : Hid (parse4 b = (zeroPk, 51)) := by show _ = _; have h := HHE2.out; rw [if_pos hsz] at h; rw [HP0.out (by rw [h]; decide), h]
      generalize w16 b 2 = z at *
      have be2 : (z != (b.length : Int)) = true := by simp [hsz]
      go_wp2_with (first | (refine wpList_store28 rfl _ _ rfl _ rfl zeroPk (.slice none 0 0) (.slice none 0 0) rfl zeroPk (.slice none 0 0) (.slice none 0 0) (by exact HB2.out) ⟨rfl, rfl⟩ ⟨rfl, rfl⟩ rfl rfl ?_; refine Hid.out ?_))
      refine Lib.hid ?_
      intro wz hbz hawz
      have HBz := Lib.hid hbz
      have HAz : Hid (Away [] w wz) := HA.out.next hawz (fun x hx => .inr (by simp at hx; omega))
      clear hbz hawz
      go_wp2_with fail
      refine bodyPost_ret (result28t rfl _ _ _ _ _ _ (.int .i64 51) rfl rfl HBz.out ⟨rfl, rfl⟩) rfl (ZER.out 51 wz HAz.out (HPE.out))
    have hsz2 : ((b.length : Int) != (b.length : Int)) = false := by simp
    rw [hsz]
    have HHE3 : Hid (headE b = if w16 b 10 ≠ sumH (b.take N) then 52 else 0) := by show _ = _; rw [HHE2.out, if_neg (by simp [hsz])]
    clear HHE2 hsz
    have hsl := slice_h a b.length cap N (N : Int) rfl (by omega)
    go_wp2_with fail
    refine (rseal_c a (b.take N) N cap _ (by simp; omega) ((HR.out.on HA.out).head N) (by omega) f2 f5).mono ?_
    rintro E ws2 ⟨rfl, haw⟩
    replace HA := Lib.hid (HA.out.on haw)
    replace HB2 := Lib.hid (HB2.out.on haw)
    clear haw
    have HSE : Hid (sealP (b.take N) = decide (w16 b 10 = sumH (b.take N))) := by show _ = _; unfold sealP; rw [w16_take b N 10 (by omega)]
    generalize sealP (b.take N) = sl at *
    cases sl
    · have HPE : Hid (parse4 b = (zeroPk, 52)) := by
        show _ = _
        have h := HHE3.out; rw [if_pos (of_decide_eq_false HSE.out.symm)] at h; rw [HP0.out (by rw [h]; decide), h]
      go_wp2_with (first | (refine wpList_store28 rfl _ _ rfl _ rfl zeroPk (.slice none 0 0) (.slice none 0 0) rfl zeroPk (.slice none 0 0) (.slice none 0 0) (by exact HB2.out) ⟨rfl, rfl⟩ ⟨rfl, rfl⟩ rfl rfl ?_; refine Hid.out ?_))
      refine Lib.hid ?_
      intro wz hbz hawz
      have HBz := Lib.hid hbz
      have HAz : Hid (Away [] w wz) := HA.out.next hawz (fun x hx => .inr (by simp at hx; omega))
      clear hbz hawz
      go_wp2_with fail
      refine bodyPost_ret (result28t rfl _ _ _ _ _ _ (.int .i64 52) rfl rfl HBz.out ⟨rfl, rfl⟩) rfl (ZER.out 52 wz HAz.out (HPE.out))
    have HE0 : Hid (headE b = 0) := by show _ = _; rw [HHE3.out, if_neg (by simp [of_decide_eq_true HSE.out.symm])]
    have HP2 := Lib.hid (HP1.out HE0.out)
    have HRW := Lib.hid (read_wf HBY.out hlen N f1)
    clear HP1 HE0 HHE3 HSE HP0
    go_wp2_with fail
    refine (rread_c a b _ cap N _ rfl hcap (HR.out.on HA.out) f2 f3 f5).mono ?_
    rintro E wr ⟨ov, dv, rfl, ho, hd, hno, hnd, haw⟩
    have hltg := HB2.out.lt
    have HBO : Hid (∀ k, ov.ownBlock = some k ∨ dv.ownBlock = some k → k ≠ g2) := fun k hk => by rcases hk with h | h; have := hno k h; omega; have := hnd k h; omega
    clear hno hnd
    replace HA := Lib.hid (HA.out.on haw)
    replace HB2 := Lib.hid (HB2.out.on haw)
    clear haw
    generalize readP b N = rp at *
    obtain ⟨oa, on, oc, rfl⟩ := ho.shp
    obtain ⟨da, dn, dc, rfl⟩ := hd.shp
    have HO := Lib.hid ho; have HD := Lib.hid hd
    have HPK := Lib.hid (pkt_of HRW.out ho hd)
    have HAD := Lib.hid HRW.out.ad
    have hol := (Sl.of HPK.out.o).1
    clear ho hd
    go_wp2_with (first | (refine wpList_new28 rfl rfl rfl _ _ rfl rp (.slice oa on oc) (.slice da dn dc) (fun _ => rfl) (fun _ => rfl) HAD.out rfl rfl ?_; refine Hid.out ?_))
    refine Lib.hid ?_
    intro g6 w6 hg6 hb6 haw
    have HB6 := Lib.hid hb6
    have hlt2 := HB2.out.lt
    have hsO := Lib.hid HO.out.lt; have hsD := Lib.hid HD.out.lt
    replace HA := Lib.hid (HA.out.on haw)
    replace HB2 := Lib.hid (HB2.out.on haw)
    replace HO := Lib.hid (HO.out.on haw)
    replace HD := Lib.hid (HD.out.on haw)
    replace HPK := Lib.hid (HPK.out.on haw)
    clear hb6 haw
    go_wp2_with fail
    refine (rres_c a b _ cap _ rfl (HR.out.on HA.out) (by omega)).mono ?_
    rintro E w6 ⟨rfl, rfl⟩
    generalize hrs : decide (128 ≤ gt b 6) = rs at *
    have HRS := Lib.hid hrs
    clear hrs
    cases rs
    rotate_left
    · have HPE : Hid (parse4 b = (zeroPk, 50)) := by show _ = _; rw [HP2.out, if_pos (.inl (of_decide_eq_true HRS.out))]
      go_wp2_with (first | (refine wpList_store28 rfl _ _ rfl _ rfl zeroPk (.slice none 0 0) (.slice none 0 0) rfl zeroPk (.slice none 0 0) (.slice none 0 0) (by exact HB2.out) ⟨rfl, rfl⟩ ⟨rfl, rfl⟩ rfl rfl ?_; refine Hid.out ?_))
      refine Lib.hid ?_
      intro wz hbz hawz
      have HBz := Lib.hid hbz
      have HAz : Hid (Away [] w wz) := HA.out.next hawz (fun x hx => .inr (by simp at hx; omega))
      clear hbz hawz
      go_wp2_with fail
      refine bodyPost_ret (result28t rfl _ _ _ _ _ _ (.int .i64 50) rfl rfl HBz.out ⟨rfl, rfl⟩) rfl (ZER.out 50 wz HAz.out (HPE.out))
    go_wp2_with (first | (refine wpList_load28 rfl _ rfl _ rfl rp _ _ (by exact HB6.out) HAD.out ?_))
    refine (rfields_c rp _ _ _ HPK.out).mono ?_
    rintro E w7 ⟨rfl, haw⟩
    replace HA := Lib.hid (HA.out.on haw)
    replace HB2 := Lib.hid (HB2.out.on haw)
    replace HB6 := Lib.hid (HB6.out.on haw)
    replace HO := Lib.hid (HO.out.on haw)
    replace HD := Lib.hid (HD.out.on haw)
    replace HPK := Lib.hid (HPK.out.on haw)
    clear haw
    generalize hfm : formedP rp = fm at *
    have HFM := Lib.hid hfm
    clear hfm
    cases fm
    · have HPE : Hid (parse4 b = (zeroPk, 50)) := by show _ = _; rw [HP2.out, if_pos (.inr rfl)]
      go_wp2_with (first | (refine wpList_store28 rfl _ _ rfl _ rfl zeroPk (.slice none 0 0) (.slice none 0 0) rfl zeroPk (.slice none 0 0) (.slice none 0 0) (by exact HB2.out) ⟨rfl, rfl⟩ ⟨rfl, rfl⟩ rfl rfl ?_; refine Hid.out ?_))
      refine Lib.hid ?_
      intro wz hbz hawz
      have HBz := Lib.hid hbz
      have HAz : Hid (Away [] w wz) := HA.out.next hawz (fun x hx => .inr (by simp at hx; omega))
      clear hbz hawz
      go_wp2_with fail
      refine bodyPost_ret (result28t rfl _ _ _ _ _ _ (.int .i64 50) rfl rfl HBz.out ⟨rfl, rfl⟩) rfl (ZER.out 50 wz HAz.out (HPE.out))
    have HP3 : Hid (parse4 b = if validP rp.o = false then (zeroPk, 40) else (rp, 0)) := by show _ = _; rw [HP2.out, if_neg (by simp [of_decide_eq_false HRS.out])]
    clear HP2 HRS
    have c44 := (HB6.out.cells HAD.out).o
    have hsl4 := HPK.out.o.of
    go_wp2_with fail
    refine (ropts_c oa rp.o on oc _ hol hsl4.2.2.2).mono ?_
    rintro E w7 ⟨rfl, rfl⟩
    clear c44 hsl4
    generalize hvl : validP rp.o = vl at *
    have HVL := Lib.hid hvl
    clear hvl
    cases vl
    · have HPE : Hid (parse4 b = (zeroPk, 40)) := by show _ = _; rw [HP3.out, if_pos rfl]
      go_wp2_with (first | (refine wpList_store28 rfl _ _ rfl _ rfl zeroPk (.slice none 0 0) (.slice none 0 0) rfl zeroPk (.slice none 0 0) (.slice none 0 0) (by exact HB2.out) ⟨rfl, rfl⟩ ⟨rfl, rfl⟩ rfl rfl ?_; refine Hid.out ?_))
      refine Lib.hid ?_
      intro wz hbz hawz
      have HBz := Lib.hid hbz
      have HAz : Hid (Away [] w wz) := HA.out.next hawz (fun x hx => .inr (by simp at hx; omega))
      clear hbz hawz
      go_wp2_with fail
      refine bodyPost_ret (result28t rfl _ _ _ _ _ _ (.int .i64 40) rfl rfl HBz.out ⟨rfl, rfl⟩) rfl (ZER.out 40 wz HAz.out (HPE.out))
    have HPE : Hid (parse4 b = (rp, 0)) := by show _ = _; rw [HP3.out, if_neg (by simp)]
    go_wp2_with (first
      | (refine wpList_load28 rfl _ rfl _ rfl rp _ _ (by exact HB6.out) HAD.out ?_)
      | (refine wpList_store28 rfl _ _ rfl _ rfl rp (.slice oa on oc) (.slice da dn dc) rfl zeroPk (.slice none 0 0) (.slice none 0 0) (by exact HB2.out) HAD.out ⟨rfl, rfl⟩ rfl rfl ?_; refine Hid.out ?_))
    refine Lib.hid ?_
    intro wz hbz hawz
    have HBz := Lib.hid hbz
    have HAz : Hid (Away [] w wz) := HA.out.next hawz (fun x hx => .inr (by simp at hx; omega))
    have HOz := Lib.hid (HO.out.away hawz (fun k hk hx => HBO.out k (.inl hk) (by simpa using hx)))
    have HDz := Lib.hid (HD.out.away hawz (fun k hk hx => HBO.out k (.inr hk) (by simpa using hx)))
    clear hbz hawz
    go_wp2_with fail
    refine bodyPost_ret (result28t rfl _ _ _ _ _ _ (.int .i64 0) rfl rfl HBz.out HAD.out) rfl ⟨_, _, by rw [HPE.out], by rw [HPE.out]; exact HOz.out, by rw [HPE.out]; exact HDz.out, HAz.out⟩
#print axioms rparse_c
end Go.Proofs.YtbgpjhekohabiabDoor
