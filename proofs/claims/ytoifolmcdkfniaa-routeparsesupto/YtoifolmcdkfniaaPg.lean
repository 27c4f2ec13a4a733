/-
  The document's Parse.
-/
import Derived.Test.YtoifolmcdkfniaaPf
namespace Go.Proofs.Ytoifolmcdkfniaa
open Go.ChangeShapes Go.WideShapes Go.ChangeAt Go.RowKit
set_option linter.unusedVariables false
set_option linter.unusedSimpArgs false
set_option maxRecDepth 100000

set_option maxHeartbeats 4000000 in
theorem dparse_c (l : List UInt8) (hl : l.length ≤ 1048576) (w : World) : Calls Try.prog 18 #[.string ⟨l.toArray⟩] w (ParseOut w (parseR l)) := by
  obtain ⟨res, hres⟩ : ∃ r, r = parseR l := ⟨_, rfl⟩
  rw [← hres]
  have HR := Lib.hid hres
  have HLL := Lib.hid hl
  clear hres hl
  go_enter Try.func18, Try.ntmps18
  go_wp2_with fail
  go_loopw [0, 4] (fun sv lv wr => ∃ (rest : List UInt8) (acc : List Rt), sv = .string ⟨rest.toArray⟩ ∧ LstD wr lv acc ∧ New w.heap.size lv ∧ (∀ x ∈ acc, Okr x) ∧ rest.length + acc.length ≤ l.length ∧ routesP l = (routesP rest).map (acc ++ ·) ∧ Away [] w wr) (fun sv _ _ => strLn sv)
  case atStart => exact ⟨l, [], rfl, LstD.nil _, New.nil _, by simp, by simp, by cases routesP l <;> simp, Away.refl _ _⟩
  case round =>
    obtain ⟨rest, acc, rfl, hown, hnew, hok, hrl, hro, haw⟩ := hrel
    have HO := Lib.hid hown
    have HNW := Lib.hid hnew
    have HOK := Lib.hid hok
    have HRO := Lib.hid hro
    have HA := Lib.hid haw
    have HRL := Lib.hid hrl
    obtain ⟨la, lc, rfl, hlc⟩ := hown.sl
    obtain ⟨n, hn⟩ : ∃ n, n = acc.length := ⟨_, rfl⟩
    rw [← hn] at HO HNW hlc ⊢
    have HN := Lib.hid hn
    have hn33 : n ≤ 1048576 := by rw [hn]; have := HLL.out; have := HRL.out; omega
    clear hown hnew hok hrl hro haw hn
    have hsz := bsz rest
    by_cases hre : rest = []
    · have HRO2 : Hid (routesP l = some acc) := by show _ = _; rw [HRO.out, hre, routes_nil]; simp
      have hn1 : rest.length = 0 := by rw [hre]; rfl
      rw [hn1] at hsz
      have HIN := Lib.hid (may_c (HO.out.rd HOK.out) (by rw [← HN.out]; omega))
      have HM : Hid (res = if mayL acc = true then (acc, 0) else ([], 1)) := by
        show _ = _; rw [HR.out, parseR, HRO2.out]
      obtain ⟨q, hq⟩ : ∃ q, q = mayL acc := ⟨_, rfl⟩
      rw [← hq] at HIN HM
      clear hre HRO hq
      go_wp2_with (go_at_call 14; refine HIN.out.mono ?_; refine Hid.out ?_)
      refine Lib.hid ?_
      rintro E w2 ⟨rfl, haw⟩
      have HA2 := Lib.hid (HA.out.trans haw)
      have HO2 := Lib.hid (HO.out.on haw)
      clear haw HIN
      cases q
      · have HE : Hid (res = ([], 1)) := HM.out
        go_wp2_with fail
        go_ret2
        exact ⟨_, by rw [HE.out]; rfl, by rw [HE.out]; exact LstD.nil _, New.nil _, HA2.out⟩
      · have HE : Hid (res = (acc, 0)) := HM.out
        go_wp2_with fail
        go_ret2
        exact ⟨_, by rw [HE.out]; rfl, by rw [HE.out]; exact HO2.out, HNW.out, HA2.out⟩
    · have hn1 : ¬ (rest.length = 0) := fun e => hre (List.eq_nil_of_length_eq_zero e)
      have hn2 : (rest.length : Int) > 0 := by omega
      have HPL : Hid (∀ w, Calls Try.prog 31 #[.string ⟨rest.toArray⟩, .int .u8 10] w fun E w' => E = .returned (.int .i64 (Lib.index rest [10])) ∧ w' = w) := fun w => place_c rest (by have := HLL.out; have := HRL.out; omega) 10 w
      have HRC := Lib.hid (routes_cut hre)
      have HLT := Lib.hid (cut_lt 10 rest)
      have HCD : Hid (Lib.cut rest [10] = if 0 ≤ Lib.index rest [10] then (rest.take (Lib.index rest [10]).toNat, rest.drop ((Lib.index rest [10]).toNat + 1), true) else (rest, [], false)) := rfl
      obtain ⟨I, hI⟩ : ∃ I, I = Lib.index rest [10] := ⟨_, rfl⟩
      rw [← hI] at HPL HCD
      have HIX := Lib.hid hI
      clear hre hI
      go_wp2_with (go_at_call 31; refine (HPL.out _).mono ?_; refine Hid.out ?_)
      refine Lib.hid ?_
      rintro E w2 ⟨rfl, rfl⟩
      clear HPL
      by_cases hI : I < 0
      · have hIb : decide (I < 0) = true := by simpa using hI
        have HE : Hid (res = ([], 2)) := by
          show _ = _
          have : (Lib.cut rest [10]).2.2 = false := by rw [HCD.out, if_neg (by omega)]
          rw [HR.out, parseR, HRO.out, HRC.out, this]; rfl
        go_wp2_with fail
        go_ret2
        exact ⟨_, by rw [HE.out]; rfl, by rw [HE.out]; exact LstD.nil _, New.nil _, HA.out⟩
      have hIb : decide (I < 0) = false := by simpa using hI
      obtain ⟨i, rfl⟩ := Int.eq_ofNat_of_zero_le (show 0 ≤ I by omega)
      have HC2 : Hid (Lib.cut rest [10] = (rest.take i, rest.drop (i + 1), true)) := by
        show _ = _; rw [HCD.out, if_pos (by omega)]; rfl
      have hlt := HLT.out (by rw [HC2.out])
      rw [HC2.out] at hlt
      simp only at hlt
      have hir : i < rest.length := by
        have hix := HIX.out
        by_cases hm : (10 : UInt8) ∈ rest
        · obtain ⟨p, r, hpr, hp⟩ := split_at 10 rest hm
          rw [hpr, idx_app 10 p r hp] at hix
          rw [hpr]
          simp
          omega
        · rw [idx_not 10 rest hm] at hix; omega
      have s1 := slc_h rest i (i : Int) rfl (by omega)
      have s3 := slc_l rest (i + 1) ((i : Int) + 1) (by omega) (by omega)
      have HLI := Lib.hid (fun w => dline_c (rest.take i) (by rw [List.length_take]; have := HLL.out; have := HRL.out; omega) w)
      rw [HC2.out] at HRC
      simp only at HRC
      have hrl := HRL.out
      have hll := HLL.out
      generalize rest.take i = t1 at *
      generalize rest.drop (i + 1) = t2 at *
      clear HCD HC2 HLT hI HIX
      go_wp2_with (go_at_call 32; refine (HLI.out _).mono ?_; refine Hid.out ?_)
      refine Lib.hid ?_
      rintro E w3 ⟨⟨x, hx, rfl, hxe⟩, haw⟩
      replace HA := Lib.hid (HA.out.trans haw)
      replace HO := Lib.hid (HO.out.on haw)
      have HX := Lib.hid hx
      have HXE := Lib.hid hxe
      obtain ⟨b, hb⟩ : ∃ b, b = (lineP t1).isSome := ⟨_, rfl⟩
      rw [← hb]
      have HB := Lib.hid hb
      clear hx hxe haw HLI hb
      go_wp2_with (refine wpList_allocE rfl rfl ?_; refine Hid.out ?_)
      refine Lib.hid ?_
      intro g8 w4 hg8 hbx haw
      have HBX := Lib.hid hbx
      have hs3 := HA.out.size
      have HLG : Hid (∀ k, (Value.slice la n lc).ownBlock = some k → k ∉ [g8]) := fun k hk => by
        have := HO.out.lt k hk
        simp; omega
      replace HA := Lib.hid (HA.out.trans haw)
      replace HO := Lib.hid (HO.out.on haw)
      clear hbx haw
      go_wp2_with (refine wpList_storeE rfl _ _ rfl g8 rfl x zeroD HX.out zeroD_ok rfl HBX.out ?_; refine Hid.out ?_)
      refine Lib.hid ?_
      intro w5 hbx haw
      replace HBX := Lib.hid hbx
      replace HO := Lib.hid (HO.out.away haw HLG.out)
      have HA5 : Hid (Away [] w w5) := HA.out.next haw (fun z hz => .inr (by simp at hz; subst hz; omega))
      have hs5 := HA5.out.size
      clear hbx haw HA HLG hs3 hg8
      cases b
      · have HE : Hid (res = ([], 2)) := by
          show _ = _
          have : lineP t1 = none := by have := HB.out; cases h : lineP t1 with | none => rfl | some y => rw [h] at this; simp at this
          rw [HR.out, parseR, HRO.out, HRC.out, this]; rfl
        go_wp2_with fail
        go_ret2
        exact ⟨_, by rw [HE.out]; rfl, by rw [HE.out]; exact LstD.nil _, New.nil _, HA5.out⟩
      · have HLX : Hid (lineP t1 = some x) := by
          show _ = _
          cases h : lineP t1 with
          | none => have := HB.out; rw [h] at this; simp at this
          | some y => rw [HXE.out y h]
        have HR3 : Hid (routesP l = (routesP t2).map ((acc ++ [x]) ++ ·)) := by
          show _ = _
          rw [HRO.out, HRC.out, HLX.out]
          simp only [if_true]
          cases routesP t2 <;> simp
        have HOK3 : Hid (∀ y ∈ acc ++ [x], Okr y) := fun y hy => by
          rcases List.mem_append.1 hy with h | h
          · exact HOK.out y h
          · simp at h; subst h; exact HX.out
        clear HRC HXE
        go_wp2_with (first
          | (refine wpList_loadE rfl _ rfl g8 0 rfl x HX.out HBX.out.range ?_)
          | (refine wpList_buildS rfl _ rfl x rfl HX.out ?_; refine Hid.out ?_))
        refine Lib.hid ?_
        intro gb w6 hgb hbx haw
        have HB6 := Lib.hid hbx
        have HA6 := Lib.hid (HA5.out.trans haw)
        replace HO := Lib.hid (HO.out.on haw)
        clear hbx haw hgb
        go_wp2_with (refine wpList_appD rfl _ _ rfl _ _ rfl HO.out gb 1 rfl x HB6.out HX.out (by rw [← HN.out]; omega) ?_; refine Hid.out ?_)
        refine Lib.hid ?_
        intro v' w7 hown hgr hmov
        have HO7 : Hid (LstD w7 v' (acc ++ [x])) := hown
        have HA7 := Lib.hid (HA6.out.grown hgr (fun k hk => .inr (HNW.out k hk)))
        have HN7 := Lib.hid (HNW.out.moved hmov HA6.out.size)
        clear hown hgr hmov
        go_wp2_with fail
        go_roundw
        case rel => exact ⟨t2, acc ++ [x], rfl, HO7.out, HN7.out, HOK3.out, by simp; omega, HR3.out, HA7.out⟩
        case measure => simp [strLn, bsz]; omega
end Go.Proofs.Ytoifolmcdkfniaa
