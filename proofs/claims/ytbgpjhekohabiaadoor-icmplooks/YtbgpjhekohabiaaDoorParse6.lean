/-
  Parse.
-/
import Derived.Test.YtbgpjhekohabiaaDoorMeas6
import Derived.Deep.CutBlock
import Derived.Deep.DeepCutAuto
namespace Go.Proofs.YtbgpjhekohabiaaDoor.S6
open Go.ChangeShapes Go.WideShapes Go.ChangeAt Go.RowKit Num
set_option linter.unusedVariables false
set_option maxHeartbeats 4000000
set_option maxRecDepth 100000

/-- What Parse tells. -/
def ParseOut (w : World) (b : List Int) (E : Ending) (w' : World) : Prop :=
  ∃ ov dv, E = .returned (.tuple #[.agg (csP (parse6 b).1 ov dv), .int .i64 (parse6 b).2]) ∧ Owns w' ov (parse6 b).1.o ∧ Owns w' dv (parse6 b).1.d ∧ New w.heap.size ov ∧ New w.heap.size dv ∧ (∀ k, ov.ownBlock = some k → dv.ownBlock ≠ some k) ∧ Away [] w w'
/-- The state behind the heads. -/
structure PS (w wq : World) (g2 g6 gr dr : Nat) (q : Pk) (r : List Int) : Prop where
  b2 : BoxP wq g2 zeroPk (.slice none 0 0) (.slice none 0 0)
  b6 : BoxP wq g6 q (.slice none 0 0) (.slice none 0 0)
  rd : Rd wq gr dr r 0
  aw : Away [] w wq
  n2 : w.heap.size ≤ g2
  n6 : w.heap.size ≤ g6
  nr : w.heap.size ≤ gr
  e1 : g2 ≠ g6
  e2 : g2 ≠ gr
  e3 : g6 ≠ gr
  e4 : g2 ≠ dr
  e5 : g6 ≠ dr
theorem parse_at {b : List Int} (hm : measP b = 0) : parse6 b = if (cleanP b && rightP (readP b)) = true then (readP b, 0) else (zeroPk, 50) := by
  unfold parse6; rw [if_neg (by simp [hm])]
theorem parse_c (a : Option Addr) (b : List Int) (n cap : Nat) (w : World) (hn : b.length = n) (hcap : n ≤ cap) (ha : a = none → cap = 0) (hr : Row w a b) :
    Calls Tryd.prog 76 #[.slice a n cap] w fun E w' => ParseOut w b E w' := by
  subst hn
  have hlen := hr.1
  have HR := Lib.hid hr
  have HBY := Lib.hid hr.2.1
  clear hr
  go_enter Tryd.func76, Tryd.ntmps76
  go_wp2_with (refine wpList_alloc28 rfl rfl ?_; refine Hid.out ?_)
  refine Lib.hid ?_
  intro g2 w1 hg2 hb2 haw1
  have HB2 := Lib.hid hb2; have HA1 := Lib.hid haw1
  have hl2 := hb2.lt
  clear hb2 haw1
  go_wp2_with fail
  refine (measure_c a b _ cap _ rfl hcap ha (by exact HR.out.away HA1.out (by simp))).mono ?_
  rintro E w2 ⟨rfl, haw2⟩
  have HA2 := Lib.hid (HA1.out.next haw2 (by simp))
  have HB22 := Lib.hid (HB2.out.on haw2)
  have hs2 := haw2.size
  clear HA1 HB2 haw2
  have ZER : Hid (∀ (e : Int) w', Away [] w w' → parse6 b = (zeroPk, e) → ParseOut w b (.returned (.tuple #[.agg (csP zeroPk (.slice none 0 0) (.slice none 0 0)), .int .i64 e])) w') := fun e w' h e' => ⟨.slice none 0 0, .slice none 0 0, by rw [e'], by rw [e']; exact Owns.nil _, by rw [e']; exact Owns.nil _, New.nil _, New.nil _, by simp [Value.ownBlock], h⟩
  by_cases he : measP b = 0
  rotate_left
  · have HE : Hid (parse6 b = (zeroPk, measP b)) := by show _ = _; unfold parse6; rw [if_pos he]
    have h1 : (measP b == 0) = false := by simp [he]
    have h2 : (measP b != 0) = true := by simp [he]
    clear he
    generalize measP b = z at *
    go_wp2_with (first | (refine wpList_store28 rfl _ _ rfl _ rfl zeroPk (.slice none 0 0) (.slice none 0 0) rfl zeroPk (.slice none 0 0) (.slice none 0 0) (by exact HB22.out) ⟨rfl, rfl⟩ ⟨rfl, rfl⟩ rfl rfl ?_; refine Hid.out ?_))
    refine Lib.hid ?_
    intro w9 hb9 haw9
    have HB9 := Lib.hid hb9
    have HA9 : Hid (Away [] w w9) := HA2.out.next haw9 (fun x hx => .inr (by simp at hx; omega))
    clear hb9 haw9
    go_wp2_with fail
    refine bodyPost_ret (result28t rfl _ _ _ _ _ _ (.int .i64 z) rfl rfl HB9.out ⟨rfl, rfl⟩) rfl (ZER.out _ _ HA9.out HE.out)
  · have HPA := Lib.hid (parse_at he)
    obtain ⟨h40, -, -, hf48⟩ := meas_ok he
    have HWF := Lib.hid (read_wf HBY.out hlen h40)
    obtain ⟨b0, b1, b2, b3, b4, b5, b6, b7, s, d, r, hbs, hs, hd⟩ := bs_of h40
    have hx := bs_at b0 b1 b2 b3 b4 b5 b6 b7 s d r hs hd
    rw [← hbs] at hx
    have HX := Lib.hid hx
    have HBS := Lib.hid hbs
    have HS := Lib.hid hs; have HD := Lib.hid hd
    have HF48 := Lib.hid hf48
    rw [he]
    clear hx hbs hs hd hf48 he
    go_wp2_with fail
    refine (newReader_any a b _ cap _ rfl ha (by exact HR.out.away HA2.out (by simp))).mono ?_
    rintro E w3 ⟨gr, dr, rfl, hrd, hgr, hdr, haw3⟩
    have HR3 := Lib.hid hrd
    have HA3 := Lib.hid (HA2.out.next haw3 (by simp))
    have HB3 := Lib.hid (HB22.out.on haw3)
    have hs3 := haw3.size
    have hrl3 := hrd.lt
    clear HA2 HB22 hrd haw3
    go_wp2_with fail
    refine (readFixed_c w3 gr dr b0 b1 b2 b3 b4 b5 b6 b7 s d r HS.out HD.out (by rw [← HBS.out]; exact HR3.out)).mono ?_
    rw [← HBS.out]
    rintro E w4 ⟨rfl, hrd, haw4⟩
    have hs4 := haw4.size
    have HR4 := Lib.hid hrd
    have HA4 : Hid (Away [] w w4) := HA3.out.next haw4 (fun x hx => .inr (by simp at hx; omega))
    have HB4 := Lib.hid (HB3.out.away haw4 (by simp; omega))
    have HFA : Hid (Ad (fixR b)) := ⟨by show ((b.drop 8).take 16).length = 16; simp; omega, by show ((b.drop 24).take 16).length = 16; simp; omega⟩
    clear HA3 HB3 HR3 hrd haw4
    go_wp2_with (first | (refine wpList_alloc28 rfl rfl ?_; refine Hid.out ?_))
    refine Lib.hid ?_
    intro g6 w5 hg6 hb6 haw5
    have HB6 := Lib.hid hb6
    have hl6 := hb6.lt
    have HB5 := Lib.hid (HB4.out.on haw5)
    have HA5 := Lib.hid (HA4.out.next haw5 (by simp))
    have HR5 := Lib.hid (HR4.out.away haw5 (by simp) (by simp))
    have hs5 := haw5.size
    clear hb6 haw5 HB4 HA4 HR4
    go_wp2_with (first | (refine wpList_store28 rfl _ _ rfl _ rfl (fixR b) (.slice none 0 0) (.slice none 0 0) rfl zeroPk (.slice none 0 0) (.slice none 0 0) (by exact HB6.out) HFA.out ⟨rfl, rfl⟩ rfl rfl ?_; refine Hid.out ?_))
    refine Lib.hid ?_
    intro w6 hb6 haw6
    have hs6 := haw6.size
    have HL : Hid (PS w w6 g2 g6 gr dr (fixR b) r) := ⟨HB5.out.away haw6 (by simp; omega), hb6, HR5.out.away haw6 (by simp; omega) (by simp; omega), HA5.out.next haw6 (fun x hx => .inr (by simp at hx; omega)), hg2, by omega, by omega, by omega, by omega, by omega, by omega, by omega⟩
    clear hb6 haw6 HB6 HB5 HA5 HR5 hg2 hg6 hl2 hl6 hs2 hs3 hs4 hs5 hs6 hgr hdr hrl3
    have c6 : w6.cell? ⟨g6, 37, none⟩ = some (.int .i64 (gt b 6)) := (HL.out.b6.cells HFA.out).proto
    by_cases h6 : gt b 6 = 44
    · have h61 : (gt b 6 == 44) = true := by simp [h6]
      have h48 := HF48.out h6
      have hrl : 8 ≤ r.length := by have := HX.out.len; omega
      obtain ⟨r0, r1, r2, r3, r4, r5, r6, r7, t, rfl⟩ : ∃ r0 r1 r2 r3 r4 r5 r6 r7 t, r = r0 :: r1 :: r2 :: r3 :: r4 :: r5 :: r6 :: r7 :: t := by
        match r, hrl with
        | r0 :: r1 :: r2 :: r3 :: r4 :: r5 :: r6 :: r7 :: t, _ => exact ⟨r0, r1, r2, r3, r4, r5, r6, r7, t, rfl⟩
      have k0 : gt b 40 = r0 := HX.out.k 0
      have k1 : gt b 41 = r1 := HX.out.k 1
      have k2 : gt b 42 = r2 := HX.out.k 2
      have k3 : gt b 43 = r3 := HX.out.k 3
      have k4 : gt b 44 = r4 := HX.out.k 4
      have k5 : gt b 45 = r5 := HX.out.k 5
      have k6 : gt b 46 = r6 := HX.out.k 6
      have k7 : gt b 47 = r7 := HX.out.k 7
      have kd : b.drop 48 = t := by rw [show 48 = 40 + 8 from rfl, ← List.drop_drop, HX.out.er]; rfl
      obtain ⟨P, hP⟩ : ∃ P, P = readP b := ⟨_, rfl⟩
      rw [← hP] at HWF HPA
      obtain ⟨q, hq⟩ : ∃ q : Pk, q = { fixR b with frag := true, proto := r0, off := (256 * r2 + r3) / 8 * 8, more := decide ((256 * r2 + r3) % 2 = 1), id := 16777216 * r4 + 65536 * r5 + 256 * r6 + r7 } := ⟨_, rfl⟩
      have hP2 : P = { q with d := t } := by
        rw [hP, hq]; unfold readP; rw [if_pos h6]; unfold wd wd4; rw [k0, k2, k3, k4, k5, k6, k7, kd]
      have HQP : Hid (({ q with d := t } : Pk) = P) := hP2.symm
      have HPD : Hid (P.d = t) := by rw [hP2]; rfl
      have HPO : Hid (P.o = []) := by rw [hP2, hq]; rfl
      have HCL : Hid (cleanP b = (decide (r1 = 0) && decide ((256 * r2 + r3) / 2 % 4 = 0))) := by
        show _ = _
        unfold cleanP wd; rw [k1, k2, k3]; simp [h6]
      have HQA : Hid (Ad q) := by rw [hq]; exact HFA.out
      have HQ := Lib.hid hq
      clear hq hP hP2 k0 k1 k2 k3 k4 k5 k6 k7 kd hrl h48 h6
      go_wp2_with fail
      refine (readFragment_c w6 g6 gr dr (fixR b) (.slice none 0 0) (.slice none 0 0) r0 r1 r2 r3 r4 r5 r6 r7 t HFA.out HL.out.b6 HL.out.rd HL.out.e3 HL.out.e5).mono ?_
      rw [← HQ.out]
      rintro E wq ⟨rfl, hbq, hrdq, hawq⟩
      have HLq : Hid (PS w wq g2 g6 gr dr q t) := ⟨HL.out.b2.away hawq (by simp; exact ⟨HL.out.e1, HL.out.e2⟩), hbq, hrdq, HL.out.aw.next hawq (fun x hx => .inr (by simp at hx; rcases hx with h | h <;> rw [h] <;> first | exact HL.out.n6 | exact HL.out.nr)), HL.out.n2, HL.out.n6, HL.out.nr, HL.out.e1, HL.out.e2, HL.out.e3, HL.out.e4, HL.out.e5⟩
      clear HL hbq hrdq hawq c6 HX HBS HS HD HFA
      have HL := HLq
      clear HLq
      go_wp2_with fail
      refine (left_any wq gr dr t 0 (by exact HL.out.rd)).mono ?_
      rintro E wl ⟨rfl, rfl⟩
      obtain ⟨z1, z2, z3⟩ := rdN t
      go_wp2_with fail
      refine (bytes_any _ gr dr t 0 t.length (by exact HL.out.rd)).mono ?_
      rw [z1, z2, z3]
      clear z1 z2 z3
      rintro E wb ⟨dv, rfl, hown, hnew, hrd, hawb, hby, hln⟩
      have hsb := hawb.size
      have hsq := HL.out.aw.size
      have hl2 := HL.out.b2.lt
      have hl6 := HL.out.b6.lt
      have HLb : Hid (PS w wb g2 g6 gr dr q []) := ⟨HL.out.b2.away hawb (by simp; exact HL.out.e2), HL.out.b6.away hawb (by simp; exact HL.out.e3), hrd, HL.out.aw.next hawb (fun x hx => .inr (by simp at hx; rw [hx]; exact HL.out.nr)), HL.out.n2, HL.out.n6, HL.out.nr, HL.out.e1, HL.out.e2, HL.out.e3, HL.out.e4, HL.out.e5⟩
      have HDV : Hid (∀ k, dv.ownBlock = some k → k ≠ g6 ∧ k ≠ g2) := fun k hk => by have := hnew k hk; omega
      have hnw : New w.heap.size dv := hnew.mono hsq
      have HSD0 := Lib.hid (hown.sl hby hln)
      have HO := Lib.hid hown
      obtain ⟨ad, capd, hdv, -⟩ := hown.row hln hby
      subst hdv
      clear hown hrd hawb HL
      have s45 := (HLb.out.b6.cells HQA.out).d
      have t45 := HLb.out.b6.free 45
      have hA7 := away_put (w := wb) (g := g6) 45 (.slice ad t.length capd)
      have hB7 := HLb.out.b6.put 45 (.slice ad t.length capd) ((csP_set HQA.out _ _).2.2.2.2.2.2.2.2.2.2.2.2.2 t (.slice ad t.length capd))
      rw [HQP.out] at hB7
      have HB7 := Lib.hid hB7
      have HB27 := Lib.hid (HLb.out.b2.away hA7 (by simp; exact HLb.out.e1))
      have HA7 := Lib.hid (HLb.out.aw.next hA7 (fun x hx => .inr (by simp at hx; rw [hx]; exact HLb.out.n6)))
      have HO7 := Lib.hid (HO.out.away hA7 (fun k hk => by simpa using (HDV.out k hk).1))
      have HSD7 := Lib.hid (HO7.out.sl hby hln)
      have hn2 := HLb.out.n2
      clear hA7 hB7 HO HSD0 HLb hnew
      go_upto_region 9 with fail
      clear s45 t45
      generalize wb.setCell ⟨g6, 45, none⟩ (.slice ad t.length capd) = w7 at *
      have HPK : Hid (Pkt w7 P (.slice none 0 0) (.slice ad t.length capd)) := ⟨HWF.out, by rw [HPO.out]; exact Sl.nil _, by rw [HPD.out]; exact HSD7.out⟩
      generalize hcl : (decide (r1 = 0) && decide ((256 * r2 + r3) / 2 % 4 = 0)) = cl at HCL ⊢
      clear hcl
      cases cl
      · go_wp2_with (first | (refine wpList_store28 rfl _ _ rfl _ rfl zeroPk (.slice none 0 0) (.slice none 0 0) rfl zeroPk (.slice none 0 0) (.slice none 0 0) (by exact HB27.out) ⟨rfl, rfl⟩ ⟨rfl, rfl⟩ rfl rfl ?_; refine Hid.out ?_))
        refine Lib.hid ?_
        intro w9 hb9 haw9
        have HB9 := Lib.hid hb9
        have HA9 : Hid (Away [] w w9) := HA7.out.next haw9 (fun x hx => .inr (by simp at hx; omega))
        clear hb9 haw9
        go_wp2_with fail
        refine bodyPost_ret (result28t rfl _ _ _ _ _ _ (.int .i64 50) rfl rfl HB9.out ⟨rfl, rfl⟩) rfl (ZER.out _ _ HA9.out (by rw [HPA.out, HCL.out]; simp))
      go_wp2_with (first | (refine wpList_load28 rfl _ rfl _ rfl P _ _ (by exact HB7.out) HWF.out.ad ?_))
      refine (right_c P (.slice none 0 0) (.slice ad t.length capd) w7 HPK.out).mono ?_
      rintro E w8 ⟨rfl, haw8⟩
      have HB8 := Lib.hid (HB7.out.on haw8)
      have HB28 := Lib.hid (HB27.out.on haw8)
      have HA8 := Lib.hid (HA7.out.next haw8 (by simp))
      have HO8 := Lib.hid (HO7.out.away haw8 (by simp))
      have hs8 := haw8.size
      clear HB7 HB27 HA7 HO7 HSD7 HPK haw8
      generalize hrg : rightP P = rg
      have HRG := Lib.hid hrg
      clear hrg
      cases rg
      · go_wp2_with (first | (refine wpList_store28 rfl _ _ rfl _ rfl zeroPk (.slice none 0 0) (.slice none 0 0) rfl zeroPk (.slice none 0 0) (.slice none 0 0) (by exact HB28.out) ⟨rfl, rfl⟩ ⟨rfl, rfl⟩ rfl rfl ?_; refine Hid.out ?_))
        refine Lib.hid ?_
        intro w9 hb9 haw9
        have HB9 := Lib.hid hb9
        have HA9 : Hid (Away [] w w9) := HA8.out.next haw9 (fun x hx => .inr (by simp at hx; omega))
        clear hb9 haw9
        go_wp2_with fail
        refine bodyPost_ret (result28t rfl _ _ _ _ _ _ (.int .i64 50) rfl rfl HB9.out ⟨rfl, rfl⟩) rfl (ZER.out _ _ HA9.out (by rw [HPA.out, HRG.out]; simp))
      · go_wp2_with (first
          | (refine wpList_load28 rfl _ rfl _ rfl P _ _ (by exact HB8.out) HWF.out.ad ?_)
          | (refine wpList_store28 rfl _ _ rfl _ rfl P (.slice none 0 0) (.slice ad t.length capd) rfl zeroPk (.slice none 0 0) (.slice none 0 0) (by exact HB28.out) HWF.out.ad ⟨rfl, rfl⟩ rfl rfl ?_; refine Hid.out ?_))
        refine Lib.hid ?_
        intro wx hbx hawx
        have HBx := Lib.hid hbx
        have HAx : Hid (Away [] w wx) := HA8.out.next hawx (fun x hx => .inr (by simp at hx; omega))
        have HDx := Lib.hid (HO8.out.away hawx (fun k hk => by simpa using (HDV.out k hk).2))
        have HPO2 : Hid (parse6 b = (P, 0)) := by show _ = _; rw [HPA.out, HRG.out, HCL.out]; simp
        clear hbx hawx
        go_wp2_with fail
        refine bodyPost_ret (result28t rfl _ _ _ _ _ _ (.int .i64 0) rfl rfl HBx.out HWF.out.ad) rfl ⟨_, _, by rw [HPO2.out], by rw [HPO2.out]; show Owns _ _ P.o; rw [HPO.out]; exact Owns.nil _, by rw [HPO2.out]; show Owns _ _ P.d; rw [HPD.out]; exact HDx.out, New.nil _, hnw, by simp [Value.ownBlock], HAx.out⟩
    · have h61 : (gt b 6 == 44) = false := by simp [h6]
      obtain ⟨P, hP⟩ : ∃ P, P = readP b := ⟨_, rfl⟩
      rw [← hP] at HWF HPA
      have hP2 : P = { fixR b with d := r } := by
        rw [hP]; unfold readP; rw [if_neg h6, HX.out.er]
      have HQP : Hid (({ fixR b with d := r } : Pk) = P) := hP2.symm
      have HPD : Hid (P.d = r) := by show P.d = r; rw [hP2]
      have HPO : Hid (P.o = []) := by rw [hP2]; rfl
      have HCL : Hid (cleanP b = true) := by
        show _ = _
        unfold cleanP; simp [h6]
      have HQA := HFA
      clear hP hP2 h6 HX HBS HS HD
      go_wp2_with fail
      refine (left_any w6 gr dr r 0 (by exact HL.out.rd)).mono ?_
      rintro E wl ⟨rfl, rfl⟩
      obtain ⟨z1, z2, z3⟩ := rdN r
      go_wp2_with fail
      refine (bytes_any _ gr dr r 0 r.length (by exact HL.out.rd)).mono ?_
      rw [z1, z2, z3]
      clear z1 z2 z3
      rintro E wb ⟨dv, rfl, hown, hnew, hrd, hawb, hby, hln⟩
      have hsb := hawb.size
      have hsq := HL.out.aw.size
      have hl2 := HL.out.b2.lt
      have hl6 := HL.out.b6.lt
      have HLb : Hid (PS w wb g2 g6 gr dr (fixR b) []) := ⟨HL.out.b2.away hawb (by simp; exact HL.out.e2), HL.out.b6.away hawb (by simp; exact HL.out.e3), hrd, HL.out.aw.next hawb (fun x hx => .inr (by simp at hx; rw [hx]; exact HL.out.nr)), HL.out.n2, HL.out.n6, HL.out.nr, HL.out.e1, HL.out.e2, HL.out.e3, HL.out.e4, HL.out.e5⟩
      have HDV : Hid (∀ k, dv.ownBlock = some k → k ≠ g6 ∧ k ≠ g2) := fun k hk => by have := hnew k hk; omega
      have hnw : New w.heap.size dv := hnew.mono hsq
      have HSD0 := Lib.hid (hown.sl hby hln)
      have HO := Lib.hid hown
      obtain ⟨ad, capd, hdv, -⟩ := hown.row hln hby
      subst hdv
      clear hown hrd hawb HL
      have s45 := (HLb.out.b6.cells HQA.out).d
      have t45 := HLb.out.b6.free 45
      have hA7 := away_put (w := wb) (g := g6) 45 (.slice ad r.length capd)
      have hB7 := HLb.out.b6.put 45 (.slice ad r.length capd) ((csP_set HQA.out _ _).2.2.2.2.2.2.2.2.2.2.2.2.2 r (.slice ad r.length capd))
      rw [HQP.out] at hB7
      have HB7 := Lib.hid hB7
      have HB27 := Lib.hid (HLb.out.b2.away hA7 (by simp; exact HLb.out.e1))
      have HA7 := Lib.hid (HLb.out.aw.next hA7 (fun x hx => .inr (by simp at hx; rw [hx]; exact HLb.out.n6)))
      have HO7 := Lib.hid (HO.out.away hA7 (fun k hk => by simpa using (HDV.out k hk).1))
      have HSD7 := Lib.hid (HO7.out.sl hby hln)
      have hn2 := HLb.out.n2
      clear hA7 hB7 HO HSD0 HLb hnew
      go_upto_region 9 with fail
      clear s45 t45
      generalize wb.setCell ⟨g6, 45, none⟩ (.slice ad r.length capd) = w7 at *
      have HPK : Hid (Pkt w7 P (.slice none 0 0) (.slice ad r.length capd)) := ⟨HWF.out, by rw [HPO.out]; exact Sl.nil _, by rw [HPD.out]; exact HSD7.out⟩
      go_wp2_with (first | (refine wpList_load28 rfl _ rfl _ rfl P _ _ (by exact HB7.out) HWF.out.ad ?_))
      refine (right_c P (.slice none 0 0) (.slice ad r.length capd) w7 HPK.out).mono ?_
      rintro E w8 ⟨rfl, haw8⟩
      have HB8 := Lib.hid (HB7.out.on haw8)
      have HB28 := Lib.hid (HB27.out.on haw8)
      have HA8 := Lib.hid (HA7.out.next haw8 (by simp))
      have HO8 := Lib.hid (HO7.out.away haw8 (by simp))
      have hs8 := haw8.size
      clear HB7 HB27 HA7 HO7 HSD7 HPK haw8
      generalize hrg : rightP P = rg
      have HRG := Lib.hid hrg
      clear hrg
      cases rg
      · go_wp2_with (first | (refine wpList_store28 rfl _ _ rfl _ rfl zeroPk (.slice none 0 0) (.slice none 0 0) rfl zeroPk (.slice none 0 0) (.slice none 0 0) (by exact HB28.out) ⟨rfl, rfl⟩ ⟨rfl, rfl⟩ rfl rfl ?_; refine Hid.out ?_))
        refine Lib.hid ?_
        intro w9 hb9 haw9
        have HB9 := Lib.hid hb9
        have HA9 : Hid (Away [] w w9) := HA8.out.next haw9 (fun x hx => .inr (by simp at hx; omega))
        clear hb9 haw9
        go_wp2_with fail
        refine bodyPost_ret (result28t rfl _ _ _ _ _ _ (.int .i64 50) rfl rfl HB9.out ⟨rfl, rfl⟩) rfl (ZER.out _ _ HA9.out (by rw [HPA.out, HRG.out]; simp))
      · go_wp2_with (first
          | (refine wpList_load28 rfl _ rfl _ rfl P _ _ (by exact HB8.out) HWF.out.ad ?_)
          | (refine wpList_store28 rfl _ _ rfl _ rfl P (.slice none 0 0) (.slice ad r.length capd) rfl zeroPk (.slice none 0 0) (.slice none 0 0) (by exact HB28.out) HWF.out.ad ⟨rfl, rfl⟩ rfl rfl ?_; refine Hid.out ?_))
        refine Lib.hid ?_
        intro wx hbx hawx
        have HBx := Lib.hid hbx
        have HAx : Hid (Away [] w wx) := HA8.out.next hawx (fun x hx => .inr (by simp at hx; omega))
        have HDx := Lib.hid (HO8.out.away hawx (fun k hk => by simpa using (HDV.out k hk).2))
        have HPO2 : Hid (parse6 b = (P, 0)) := by show _ = _; rw [HPA.out, HRG.out, HCL.out]; simp
        clear hbx hawx
        go_wp2_with fail
        refine bodyPost_ret (result28t rfl _ _ _ _ _ _ (.int .i64 0) rfl rfl HBx.out HWF.out.ad) rfl ⟨_, _, by rw [HPO2.out], by rw [HPO2.out]; show Owns _ _ P.o; rw [HPO.out]; exact Owns.nil _, by rw [HPO2.out]; show Owns _ _ P.d; rw [HPD.out]; exact HDx.out, New.nil _, hnw, by simp [Value.ownBlock], HAx.out⟩
#print axioms parse_c
end Go.Proofs.YtbgpjhekohabiaaDoor.S6
