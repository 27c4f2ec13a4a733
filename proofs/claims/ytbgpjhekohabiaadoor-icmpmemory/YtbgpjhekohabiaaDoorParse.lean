/-
  Parse.
-/
import Derived.Test.YtbgpjhekohabiaaDoorHdZ
import Derived.Test.YtbgpjhekohabiaaDoorHeadOf
import Derived.Test.YtbgpjhekohabiaaDoorRgt
import Derived.Deep.CutBlock
import Derived.Deep.DeepCutAuto
namespace Go.Proofs.YtbgpjhekohabiaaDoor
open Go.ChangeShapes Go.WideShapes Go.ChangeAt Go.RowKit Num
set_option linter.unusedVariables false
set_option maxHeartbeats 4000000
set_option maxRecDepth 100000

/-- What Parse tells. -/
def ParseOut (w : World) (b : List Int) (E : Ending) (w' : World) : Prop :=
  ∃ ov dv, E = .returned (.tuple #[.agg (csP (parse4 b).1 ov dv), .int .i64 (parse4 b).2]) ∧ Owns w' ov (parse4 b).1.o ∧ Owns w' dv (parse4 b).1.d ∧ New w.heap.size ov ∧ New w.heap.size dv ∧ (∀ k, ov.ownBlock = some k → dv.ownBlock ≠ some k) ∧ Away [] w w'
theorem read_take {b : List Int} {N : Nat} {b0 b1 b2 b3 b4 b5 b6 b7 b8 b9 b10 b11 b12 b13 b14 b15 b16 b17 b18 b19 : Int} {r : List Int} (h : b.take N = b0 :: b1 :: b2 :: b3 :: b4 :: b5 :: b6 :: b7 :: b8 :: b9 :: b10 :: b11 :: b12 :: b13 :: b14 :: b15 :: b16 :: b17 :: b18 :: b19 :: r) (h2 : N ≤ b.length) :
    readP b N = ⟨4, b1, 0, 4, [b12, b13, b14, b15] ++ z12, 4, [b16, b17, b18, b19] ++ z12, b9, b8, 256 * b4 + b5, decide ((256 * b6 + b7) / 16384 % 2 = 1), decide ((256 * b6 + b7) / 8192 % 2 = 1), false, (256 * b6 + b7) % 8192 * 8, r, b.drop N⟩ ∧ gt b 6 = b6 := by
  have hb : b = b0 :: b1 :: b2 :: b3 :: b4 :: b5 :: b6 :: b7 :: b8 :: b9 :: b10 :: b11 :: b12 :: b13 :: b14 :: b15 :: b16 :: b17 :: b18 :: b19 :: (r ++ b.drop N) := by
    have := (List.take_append_drop N b).symm
    rw [h] at this
    exact this
  have hl : r.length = N - 20 := by
    have := congrArg List.length h
    simp at this; omega
  generalize b.drop N = d at *
  have e : (b.drop 20).take (N - 20) = r := by
    rw [hb]
    show (r ++ d).take (N - 20) = r
    rw [← hl]; exact List.take_left
  have e2 : b.drop N = d := by
    have : b = (b.take N) ++ d := by rw [h]; exact hb
    conv => lhs; rw [this]
    rw [List.drop_append_of_le_length (by simp; omega), List.drop_eq_nil_of_le (by simp; omega), List.nil_append]
  refine ⟨?_, by rw [hb]; rfl⟩
  unfold readP
  rw [e, e2, hb]
  rfl

theorem Owns.shape' {w : World} {v : Value} {l : List Int} (h : Owns w v l) : ∃ a n c, v = .slice a n c := by
  rcases h.2 with ⟨rfl, _⟩ | ⟨g, cap, cur, rfl, _⟩
  · exact ⟨_, _, _, rfl⟩
  · exact ⟨_, _, _, rfl⟩
theorem parse_c (a : Option Addr) (b : List Int) (n cap : Nat) (w : World) (hn : b.length = n) (hcap : n ≤ cap) (ha : a = none → cap = 0) (hr : Row w a b) (hg : Glob w) :
    Calls Tryd.prog 73 #[.slice a n cap] w fun E w' => ParseOut w b E w' := by
  subst hn
  have hlen := hr.1
  have HR := Lib.hid hr
  have HG := Lib.hid hg
  have hby := hr.2.1
  have HBY := Lib.hid hby
  clear hr hg hby
  go_enter Tryd.func73, Tryd.ntmps73
  go_wp2_with (refine wpList_alloc28 rfl rfl ?_; refine Hid.out ?_)
  refine Lib.hid ?_
  intro g2 w1 hg2 hb2 haw1
  have HB2 := Lib.hid hb2; have HA1 := Lib.hid haw1
  have hl2 := hb2.lt
  clear hb2 haw1
  go_wp2_with fail
  refine (headOf_c a b _ cap _ rfl hcap ha (by exact HR.out.away HA1.out (by simp))).mono ?_
  rintro E w2 ⟨hE, haw2⟩
  unfold HeadOut at hE
  subst hE
  have HA2 := Lib.hid (HA1.out.next haw2 (by simp))
  have HB22 := Lib.hid (HB2.out.on haw2)
  have hs2 := haw2.size
  clear HA1 HB2 haw2
  by_cases he : headE b = 0
  · obtain ⟨h20, h4, hk, hkl, hlen2, hsum⟩ := headE_ok he
    obtain ⟨b0, b1, b2, b3, b4, b5, b6, b7, b8, b9, b10, b11, b12, b13, b14, b15, b16, b17, b18, b19, r, hbt⟩ := list20 (b := b.take (headN b)) (by simp; omega)
    obtain ⟨hrp, hg6⟩ := read_take hbt hkl
    have hwf := read_wf HBY.out hlen (headN b) h20
    have g6 := gt_bd HBY.out 6; have g7 := gt_bd HBY.out 7
    have hg7 : gt b 7 = b7 := by
      have e : b = (b.take (headN b)) ++ b.drop (headN b) := (List.take_append_drop _ _).symm
      rw [e, hbt]; rfl
    rw [hg6] at g6
    rw [hg7] at g7
    obtain ⟨p, hp⟩ : ∃ p, p = readP b (headN b) := ⟨_, rfl⟩
    have hpe : parse4 b = if 128 ≤ gt b 6 ∨ formedP p = false then (zeroPk, 50) else if validP p.o = false then (zeroPk, 40) else (p, 0) := by
      unfold parse4; rw [if_neg (by simp [he]), ← hp]
    rw [hg6] at hpe
    rw [← hp] at hrp hwf
    have HPE := Lib.hid hpe
    have HRP := Lib.hid hrp
    have HWF := Lib.hid hwf
    have HBT := Lib.hid hbt
    rw [if_pos he, he]
    have hsl1 := slice_h a b.length cap (headN b) (headN b : Int) rfl (by omega)
    obtain ⟨A, hA⟩ : ∃ A, A = if cap = headN b then a else a.map (·.add (headN b)) := ⟨_, rfl⟩
    have hsl2 := slice_l a A b.length cap (headN b) (headN b : Int) hA rfl hkl
    have HRA : Hid (Row w A (b.drop (headN b))) := by have := HR.out.tail (headN b) cap hcap hkl; rw [← hA] at this; exact this
    have HNA : Hid (A = none → cap - headN b = 0) := by
      intro e
      have : a = none := by
        rw [hA] at e; revert e; split
        · exact id
        · cases a <;> simp
      rw [ha this]; omega
    have hdl : (b.drop (headN b)).length = b.length - headN b := by simp
    have HDL := Lib.hid hdl
    have hdb : Bytes (b.drop (headN b)) := HBY.out.drop _
    have HDB := Lib.hid hdb
    have HPD : Hid (p.d = b.drop (headN b)) := by rw [hp]; rfl
    have hor : p.o = r := by rw [hrp]
    have HOR := Lib.hid hor
    clear hA hrp hbt hpe hdl hdb hlen2 hsum h4 hg7 hg6 hp hwf hor
    generalize hN : headN b = N at *
    clear hN
    go_wp2_with fail
    refine (readHead_c a N cap w2 b0 b1 b2 b3 b4 b5 b6 b7 b8 b9 b10 b11 b12 b13 b14 b15 b16 b17 b18 b19 r (b.take N) HBT.out (by simp; omega) ha (by exact (HR.out.away HA2.out (by simp)).head N)).mono ?_
    rintro E w3 ⟨ov, rfl, hown, hnew, haw3⟩
    have HO3 : Hid (Owns w3 ov r) := hown
    have hs3 := haw3.size
    have HA3 := Lib.hid (HA2.out.next haw3 (by simp))
    have HB3 := Lib.hid (HB22.out.on haw3)
    have hres : decide ((256 * b6 + b7) / 32768 % 2 = 1) = decide (128 ≤ b6) := by
      by_cases h : 128 ≤ b6
      · rw [decide_eq_true h]; simp; omega
      · rw [decide_eq_false h]; simp; omega
    rw [hres]
    obtain ⟨q, hq⟩ : ∃ q : Pk, q = ⟨4, b1, 0, 4, [b12, b13, b14, b15] ++ z12, 4, [b16, b17, b18, b19] ++ z12, b9, b8, 256 * b4 + b5, decide ((256 * b6 + b7) / 16384 % 2 = 1), decide ((256 * b6 + b7) / 8192 % 2 = 1), false, (256 * b6 + b7) % 8192 * 8, r, []⟩ := ⟨_, rfl⟩
    rw [← hq]
    have HQP : Hid (({ q with d := b.drop N } : Pk) = p) := by rw [hq, HRP.out]; rfl
    have HQA : Hid (Ad q) := by rw [hq]; exact ⟨rfl, rfl⟩
    have hon : ov.oneCell' = true := by rcases hown.shape' with ⟨_, _, _, rfl⟩; rfl
    clear hown haw3 HA2 HB22 hres hq
    generalize hdec : decide (128 ≤ b6) = res at *
    have HDEC := Lib.hid hdec
    clear hdec
    go_wp2_with (first | (refine wpList_alloc28 rfl rfl ?_; refine Hid.out ?_))
    refine Lib.hid ?_
    intro g6 w4 hg6 hb6 haw4
    have HB6 := Lib.hid hb6
    have hl6 := hb6.lt
    have HB4 := Lib.hid (HB3.out.on haw4)
    have HA4 := Lib.hid (HA3.out.next haw4 (by simp))
    have HO4 := Lib.hid (HO3.out.away haw4 (by simp))
    have hs4 := haw4.size
    have hltov := HO3.out.lt
    clear hb6 haw4 HB3 HA3 HO3
    go_wp2_with (first | (refine wpList_store28 rfl _ _ rfl _ rfl q ov (.slice none 0 0) rfl zeroPk (.slice none 0 0) (.slice none 0 0) (by exact HB6.out) HQA.out ⟨rfl, rfl⟩ hon rfl ?_; refine Hid.out ?_))
    refine Lib.hid ?_
    intro w5 hb6 haw5
    have HOV : Hid (∀ k, ov.ownBlock = some k → k ≠ g6 ∧ k ≠ g2) := fun k hk => by
      have h1 := hltov k hk
      have h2 := hnew k hk
      omega
    have HB6' := Lib.hid hb6
    have HB5 := Lib.hid (HB4.out.away haw5 (by simp; omega))
    have HA5 := Lib.hid (HA4.out.next haw5 (fun x hx => .inr (by simp at hx; omega)))
    have HO5 := Lib.hid (HO4.out.away haw5 (fun k hk => by simpa using (HOV.out k hk).1))
    have hs5 := haw5.size
    clear hb6 haw5 HB4 HA4 HO4 HB6
    go_wp2_with fail
    have hcl := clone_any A (b.drop N) (cap - N) w5 HNA.out (by exact HRA.out.away HA5.out (by simp))
    rw [HDL.out] at hcl
    refine hcl.mono ?_
    clear hcl
    rintro E w6 ⟨dv, rfl, hownd, hnewd, haw6⟩
    have HB66 := Lib.hid (HB6'.out.on haw6)
    have HB26 := Lib.hid (HB5.out.on haw6)
    have HA6 := Lib.hid (HA5.out.next haw6 (by simp))
    have HO6 := Lib.hid (HO5.out.away haw6 (by simp))
    have hs6 := haw6.size
    have HDV : Hid (∀ k, dv.ownBlock = some k → k ≠ g6 ∧ k ≠ g2 ∧ ov.ownBlock ≠ some k) := fun k hk => by
      have h1 := hnewd k hk
      refine ⟨by omega, by omega, fun e => ?_⟩
      have := hltov k e
      omega
    clear HB6' HB5 HA5 HO5 haw6
    have s45 := (HB66.out.cells HQA.out).d
    have t45 := HB66.out.free 45
    obtain ⟨ad, capd, hdv, -⟩ := hownd.row (by rw [HDL.out]; omega) HDB.out
    rw [HDL.out] at hdv
    subst hdv
    have HD6 := Lib.hid hownd
    clear hownd
    have hA7 := away_put (w := w6) (g := g6) 45 (.slice ad (b.length - N) capd)
    have hB7 := HB66.out.put 45 (.slice ad (b.length - N) capd) ((csP_set HQA.out _ _).2.2.2.2.2.2.2.2.2.2.2.2.2 (b.drop N) (.slice ad (b.length - N) capd))
    rw [HQP.out] at hB7
    have HB7 := Lib.hid hB7
    have HB27 := Lib.hid (HB26.out.away hA7 (by simp; omega))
    have HA7 := Lib.hid (HA6.out.next hA7 (fun x hx => .inr (by simp at hx; omega)))
    have HO7 := Lib.hid (HO6.out.away hA7 (fun k hk => by simpa using (HOV.out k hk).1))
    have HD7 := Lib.hid (HD6.out.away hA7 (fun k hk => by simpa using (HDV.out k hk).1))
    have hs7 := hA7.size
    clear hA7 hB7 HB26 HA6 HO6 HD6 HB66
    have HPA := Lib.hid (HWF.out.ad)
    go_upto_region 6 with fail
    clear s45 t45
    generalize w6.setCell ⟨g6, 45, none⟩ (.slice ad (b.length - N) capd) = w7 at *
    have HSO : Hid (Sl w7 ov p.o) := by rw [HOR.out]; exact HO7.out.sl (by rw [← HOR.out]; exact HWF.out.o) (by rw [← HOR.out]; exact HWF.out.ol)
    have HSD : Hid (Sl w7 (.slice ad (b.length - N) capd) p.d) := by rw [HPD.out]; exact HD7.out.sl HDB.out (by rw [HDL.out]; omega)
    have ZER : Hid (∀ w', Away [] w w' → parse4 b = (zeroPk, 50) → ParseOut w b (.returned (.tuple #[.agg (csP zeroPk (.slice none 0 0) (.slice none 0 0)), .int .i64 50])) w') := fun w' h e => ⟨.slice none 0 0, .slice none 0 0, by rw [e], by rw [e]; exact Owns.nil _, by rw [e]; exact Owns.nil _, New.nil _, New.nil _, by simp [Value.ownBlock], h⟩
    have ZER2 : Hid (∀ w', Away [] w w' → parse4 b = (zeroPk, 40) → ParseOut w b (.returned (.tuple #[.agg (csP zeroPk (.slice none 0 0) (.slice none 0 0)), .int .i64 40])) w') := fun w' h e => ⟨.slice none 0 0, .slice none 0 0, by rw [e], by rw [e]; exact Owns.nil _, by rw [e]; exact Owns.nil _, New.nil _, New.nil _, by simp [Value.ownBlock], h⟩
    cases res
    · go_wp2_with (first | (refine wpList_load28 rfl _ rfl _ rfl p _ _ (by exact HB7.out) HPA.out ?_))
      refine (formed_c p ov (.slice ad (b.length - N) capd) w7 HWF.out HSO.out HSD.out).mono ?_
      rintro E w8 ⟨rfl, haw8⟩
      have HB8 := Lib.hid (HB7.out.on haw8)
      have HB28 := Lib.hid (HB27.out.on haw8)
      have HA8 := Lib.hid (HA7.out.next haw8 (by simp))
      have HO8 := Lib.hid (HO7.out.away haw8 (by simp))
      have HD8 := Lib.hid (HD7.out.away haw8 (by simp))
      have HSO8 := Lib.hid (HSO.out.on haw8)
      have hs8 := haw8.size
      clear HB7 HB27 HA7 HO7 HD7 HSO HSD haw8
      generalize hfm : formedP p = fm
      have HFM := Lib.hid hfm
      clear hfm
      cases fm
      · go_wp2_with (first | (refine wpList_store28 rfl _ _ rfl _ rfl zeroPk (.slice none 0 0) (.slice none 0 0) rfl zeroPk (.slice none 0 0) (.slice none 0 0) (by exact HB28.out) ⟨rfl, rfl⟩ ⟨rfl, rfl⟩ rfl rfl ?_; refine Hid.out ?_))
        refine Lib.hid ?_
        intro w9 hb9 haw9
        have HB9 := Lib.hid hb9
        have HA9 : Hid (Away [] w w9) := HA8.out.next haw9 (fun x hx => .inr (by simp at hx; omega))
        clear hb9 haw9
        go_wp2_with fail
        refine bodyPost_ret (result28t rfl _ _ _ _ _ _ (.int .i64 50) rfl rfl HB9.out ⟨rfl, rfl⟩) rfl (ZER.out _ HA9.out (by rw [HPE.out, if_pos (.inr HFM.out)]))
      · have c44 := (HB8.out.cells HPA.out).o
        have hsz8 := HSO8.out
        obtain ⟨ao, capo, hov, ho1, ho2, ho3⟩ := hsz8
        subst hov
        have HO3 := Lib.hid ho3
        clear ho3
        go_wp2_with fail
        refine (ovalid_c ao p.o _ capo _ rfl ho1 (by exact HO3.out) (by exact HG.out.on HA8.out)).mono ?_
        rintro E w9 ⟨rfl, haw9⟩
        have HB9 := Lib.hid (HB8.out.on haw9)
        have HB29 := Lib.hid (HB28.out.on haw9)
        have HA9 := Lib.hid (HA8.out.next haw9 (by simp))
        have HO9 := Lib.hid (HO8.out.away haw9 (by simp))
        have HD9 := Lib.hid (HD8.out.away haw9 (by simp))
        have hs9 := haw9.size
        clear HB8 HB28 HA8 HO8 HD8 haw9 c44 HSO8
        have HN6 : Hid (¬ (128 ≤ b6 ∨ formedP p = false)) := by
          have h1 := of_decide_eq_false HDEC.out
          rintro (h | h)
          · exact h1 h
          · rw [HFM.out] at h; simp at h
        generalize hvl : validP p.o = vl
        have HVL := Lib.hid hvl
        clear hvl
        cases vl
        · go_wp2_with (first | (refine wpList_store28 rfl _ _ rfl _ rfl zeroPk (.slice none 0 0) (.slice none 0 0) rfl zeroPk (.slice none 0 0) (.slice none 0 0) (by exact HB29.out) ⟨rfl, rfl⟩ ⟨rfl, rfl⟩ rfl rfl ?_; refine Hid.out ?_))
          refine Lib.hid ?_
          intro wx hbx hawx
          have HBx := Lib.hid hbx
          have HAx : Hid (Away [] w wx) := HA9.out.next hawx (fun x hx => .inr (by simp at hx; omega))
          clear hbx hawx
          go_wp2_with fail
          refine bodyPost_ret (result28t rfl _ _ _ _ _ _ (.int .i64 40) rfl rfl HBx.out ⟨rfl, rfl⟩) rfl (ZER2.out _ HAx.out (by rw [HPE.out, if_neg HN6.out, if_pos HVL.out]))
        · go_wp2_with (first
            | (refine wpList_load28 rfl _ rfl _ rfl p _ _ (by exact HB9.out) HPA.out ?_)
            | (refine wpList_store28 rfl _ _ rfl _ rfl p (.slice ao p.o.length capo) (.slice ad (b.length - N) capd) rfl zeroPk (.slice none 0 0) (.slice none 0 0) (by exact HB29.out) HPA.out ⟨rfl, rfl⟩ rfl rfl ?_; refine Hid.out ?_))
          refine Lib.hid ?_
          intro wx hbx hawx
          have HBx := Lib.hid hbx
          have HAx : Hid (Away [] w wx) := HA9.out.next hawx (fun x hx => .inr (by simp at hx; omega))
          have HOx := Lib.hid (HO9.out.away hawx (fun k hk => by simpa using (HOV.out k hk).2))
          have HDx := Lib.hid (HD9.out.away hawx (fun k hk => by simpa using (HDV.out k hk).2.1))
          have HPO : Hid (parse4 b = (p, 0)) := by show _ = _; rw [HPE.out, if_neg HN6.out, if_neg (by rw [HVL.out]; simp)]
          clear hbx hawx
          go_wp2_with fail
          refine bodyPost_ret (result28t rfl _ _ _ _ _ _ (.int .i64 0) rfl rfl HBx.out HPA.out) rfl ⟨_, _, by rw [HPO.out], by rw [HPO.out]; exact (HOR.out.symm ▸ HOx.out : Owns wx (.slice ao p.o.length capo) p.o), by rw [HPO.out]; show Owns _ _ p.d; rw [HPD.out]; exact HDx.out, hnew.mono (by omega), hnewd.mono (by omega), fun k hk e => (HDV.out k e).2.2 hk, HAx.out⟩
    · go_wp2_with (first | (refine wpList_store28 rfl _ _ rfl _ rfl zeroPk (.slice none 0 0) (.slice none 0 0) rfl zeroPk (.slice none 0 0) (.slice none 0 0) (by exact HB27.out) ⟨rfl, rfl⟩ ⟨rfl, rfl⟩ rfl rfl ?_; refine Hid.out ?_))
      refine Lib.hid ?_
      intro w9 hb9 haw9
      have HB9 := Lib.hid hb9
      have HA9 : Hid (Away [] w w9) := HA7.out.next haw9 (fun x hx => .inr (by simp at hx; omega))
      clear hb9 haw9
      go_wp2_with fail
      refine bodyPost_ret (result28t rfl _ _ _ _ _ _ (.int .i64 50) rfl rfl HB9.out ⟨rfl, rfl⟩) rfl (ZER.out _ HA9.out (by rw [HPE.out, if_pos (.inl (of_decide_eq_true HDEC.out))]))
  · have HPE : Hid (parse4 b = (zeroPk, headE b)) := by unfold parse4; rw [if_pos he]; rfl
    rw [if_neg he]
    generalize headE b = e at *
    have be : (e == 0) = false := by simp [he]
    have be' : (e != 0) = true := by simp [he]
    clear he
    go_wp2_with (first | (refine wpList_store28 rfl _ _ rfl _ rfl zeroPk (.slice none 0 0) (.slice none 0 0) rfl zeroPk (.slice none 0 0) (.slice none 0 0) (by exact HB22.out) ⟨rfl, rfl⟩ ⟨rfl, rfl⟩ rfl rfl ?_; refine Hid.out ?_))
    refine Lib.hid ?_
    intro w3 hb3 haw3
    have HB3 := Lib.hid hb3
    have HA3 : Hid (Away [] w w3) := HA2.out.next haw3 (fun x hx => .inr (by simp at hx; omega))
    clear hb3 haw3
    go_wp2_with fail
    refine bodyPost_ret (result28t rfl _ _ _ _ _ _ _ rfl rfl HB3.out ⟨rfl, rfl⟩) rfl ⟨.slice none 0 0, .slice none 0 0, by rw [HPE.out]; rfl, by rw [HPE.out]; exact Owns.nil _, by rw [HPE.out]; exact Owns.nil _, New.nil _, New.nil _, by simp [Value.ownBlock], HA3.out⟩
#print axioms parse_c
end Go.Proofs.YtbgpjhekohabiaaDoor
