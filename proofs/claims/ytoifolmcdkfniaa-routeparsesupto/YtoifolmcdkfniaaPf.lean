/-
  The document's line and Parse.
-/
import Derived.Test.YtoifolmcdkfniaaPe
namespace Go.Proofs.Ytoifolmcdkfniaa
open Go.ChangeShapes Go.WideShapes Go.ChangeAt Go.RowKit
set_option linter.unusedVariables false
set_option linter.unusedSimpArgs false
set_option maxRecDepth 100000

theorem numI_ge (r : Option Nat) : decide (numI r ≥ 0) = r.isSome := by
  cases r <;> simp [numI]
set_option maxHeartbeats 8000000 in
theorem dline_c (l : List UInt8) (hl : l.length ≤ 1048576) (w : World) : Calls Try.prog 32 #[.string ⟨l.toArray⟩] w (LineOut w l) := by
  have HP1 : Hid (∀ w, Calls Try.prog 31 #[.string ⟨l.toArray⟩, .int .u8 47] w fun E w' => E = .returned (.int .i64 (Lib.index l [47])) ∧ w' = w) := fun w => place_c l hl 47 w
  have HP2 : Hid (∀ w, Calls Try.prog 31 #[.string ⟨l.toArray⟩, .int .u8 32] w fun E w' => E = .returned (.int .i64 (Lib.index l [32])) ∧ w' = w) := fun w => place_c l hl 32 w
  obtain ⟨I, hI⟩ : ∃ I, I = Lib.index l [47] := ⟨_, rfl⟩
  obtain ⟨J, hJ⟩ : ∃ J, J = Lib.index l [32] := ⟨_, rfl⟩
  rw [← hI] at HP1
  rw [← hJ] at HP2
  have HI := Lib.hid hI
  have HJ := Lib.hid hJ
  obtain ⟨ln, hln⟩ : ∃ ln, ln = lineP l := ⟨_, rfl⟩
  have HLN := Lib.hid hln
  have HLL := Lib.hid hl
  unfold LineOut
  rw [← hln]
  clear hI hJ hln hl
  go_enter Try.func32, Try.ntmps32
  go_wp2_with (refine wpList_allocE rfl rfl ?_; refine Hid.out ?_)
  refine Lib.hid ?_
  intro g2 w1 hg2 hbx haw
  have HB := Lib.hid hbx
  have HA := Lib.hid haw
  clear hbx haw
  go_wp2_with (go_at_call 31; refine (HP1.out _).mono ?_; refine Hid.out ?_)
  refine Lib.hid ?_
  rintro E w2 ⟨rfl, rfl⟩
  clear HP1
  go_wp2_with (go_at_call 31; refine (HP2.out _).mono ?_; refine Hid.out ?_)
  refine Lib.hid ?_
  rintro E w3 ⟨rfl, rfl⟩
  clear HP2
  have HBZ := Lib.hid (fun w => run_buildZ w)
  have hsz := HA.out.size
  by_cases h1 : I < 0
  · obtain rfl : ln = none := by rw [HLN.out]; exact line_none (.inl (by rw [← HI.out]; exact h1))
    have h1b : decide (I < 0) = true := by simpa using h1
    have hz := HBZ.out
    go_wp2_with (refine wpList_storeE rfl _ _ rfl g2 rfl zeroD zeroD zeroD_ok zeroD_ok rfl HB.out ?_; refine Hid.out ?_)
    refine Lib.hid ?_
    intro w9 hbx haw
    have HB9 := Lib.hid hbx
    have HA9 : Hid (Away [] w w9) := HA.out.next haw (fun z hz => .inr (by simp at hz; subst hz; omega))
    clear hbx haw
    go_wp2_with fail
    refine bodyPost_ret (v := .tuple #[.agg (csD zeroD), .bool false]) ?_ rfl ⟨⟨zeroD, zeroD_ok, rfl, fun y hy => by simp at hy⟩, HA9.out⟩
    exact resultRt rfl _ _ _ zeroD zeroD_ok _ rfl rfl HB9.out
  have h1b : decide (I < 0) = false := by simpa using h1
  by_cases h2 : J < I
  · obtain rfl : ln = none := by rw [HLN.out]; exact line_none (.inr (by rw [← HI.out, ← HJ.out]; exact h2))
    have h2b : decide (J < I) = true := by simpa using h2
    have hz := HBZ.out
    go_wp2_with (refine wpList_storeE rfl _ _ rfl g2 rfl zeroD zeroD zeroD_ok zeroD_ok rfl HB.out ?_; refine Hid.out ?_)
    refine Lib.hid ?_
    intro w9 hbx haw
    have HB9 := Lib.hid hbx
    have HA9 : Hid (Away [] w w9) := HA.out.next haw (fun z hz => .inr (by simp at hz; subst hz; omega))
    clear hbx haw
    go_wp2_with fail
    refine bodyPost_ret (v := .tuple #[.agg (csD zeroD), .bool false]) ?_ rfl ⟨⟨zeroD, zeroD_ok, rfl, fun y hy => by simp at hy⟩, HA9.out⟩
    exact resultRt rfl _ _ _ zeroD zeroD_ok _ rfl rfl HB9.out
  have h2b : decide (J < I) = false := by simpa using h2
  obtain ⟨i, rfl⟩ := Int.eq_ofNat_of_zero_le (show 0 ≤ I by omega)
  obtain ⟨j, rfl⟩ := Int.eq_ofNat_of_zero_le (show 0 ≤ J by omega)
  obtain ⟨f1, f2, f3, f4, f5⟩ := line_some HI.out.symm HJ.out.symm (by omega)
  have hll := HLL.out
  have s1 := slc_h l i (i : Int) rfl (by omega)
  have s2 := slc_eq l (i + 1) j ((i : Int) + 1) (j : Int) (by omega) rfl f1 (by omega)
  rw [← List.drop_take] at s2
  have s3 := slc_l l (j + 1) ((j : Int) + 1) (by omega) f2
  have HP := Lib.hid (fun w => rparse_c (l.take i) (by rw [List.length_take]; omega) w)
  have HN1 := Lib.hid (fun w => dnumber_c ((l.take j).drop (i + 1)) (by rw [List.length_drop, List.length_take]; omega) w)
  have HN2 := Lib.hid (fun w => dnumber_c (l.drop (j + 1)) (by rw [List.length_drop]; omega) w)
  have HPO := Lib.hid (parse_ok (l.take i))
  have HLM : Hid (ln = match parseP (l.take i), numR ((l.take j).drop (i + 1)), numR (l.drop (j + 1)) with
    | (v, b, e), some n, some k => if e = 0 then some ⟨v, b, n, k⟩ else none
    | _, _, _ => none) := by show _ = _; rw [HLN.out, line_def, f3, f4, f5]; rfl
  obtain ⟨⟨v, b, e⟩, hpp⟩ : ∃ r, r = parseP (l.take i) := ⟨_, rfl⟩
  rw [← hpp] at HP HLM HPO
  obtain ⟨n1, hn1⟩ : ∃ r, r = numR ((l.take j).drop (i + 1)) := ⟨_, rfl⟩
  obtain ⟨n2, hn2⟩ : ∃ r, r = numR (l.drop (j + 1)) := ⟨_, rfl⟩
  rw [← hn1] at HN1 HLM
  rw [← hn2] at HN2 HLM
  generalize l.take i = t1 at *
  generalize (l.take j).drop (i + 1) = t2 at *
  generalize l.drop (j + 1) = t3 at *
  obtain ⟨N1, hN1⟩ : ∃ z, z = numI n1 := ⟨_, rfl⟩
  obtain ⟨N2, hN2⟩ : ∃ z, z = numI n2 := ⟨_, rfl⟩
  have k1 := numI_ge n1
  have k2 := numI_ge n2
  rw [← hN1] at k1 HN1
  rw [← hN2] at k2 HN2
  have HX : Hid (Okr ⟨v, b, N1, N2⟩) := HPO.out
  obtain ⟨X, hX⟩ : ∃ X : Rt, X = ⟨v, b, N1, N2⟩ := ⟨_, rfl⟩
  rw [← hX] at HX
  have HXE := Lib.hid hX
  have HQ : Hid ((decide (e = 0) && (n1.isSome && n2.isSome)) = ln.isSome ∧ ∀ y, ln = some y → X = y) := by
    rw [HLM.out, HXE.out, hN1, hN2]
    cases n1 with
    | none => exact ⟨by simp, by simp⟩
    | some a =>
      cases n2 with
      | none => exact ⟨by simp, by simp⟩
      | some c =>
        by_cases he : e = 0
        · exact ⟨by simp [he], by simp [he, numI]⟩
        · exact ⟨by simp [he], by simp [he]⟩
  obtain ⟨a1, ha1⟩ : ∃ z, z = n1.isSome := ⟨_, rfl⟩
  obtain ⟨a2, ha2⟩ : ∃ z, z = n2.isSome := ⟨_, rfl⟩
  rw [← ha1] at k1 HQ
  rw [← ha2] at k2 HQ
  clear hpp hn1 hn2 f3 f4 f5 h1 h2 hX hN1 hN2 ha1 ha2 HLM HBZ HLN HI HJ
  go_wp2_with (go_at_call 47; refine (HP.out _).mono ?_; refine Hid.out ?_)
  refine Lib.hid ?_
  rintro E w4 ⟨rfl, hbl⟩
  have haw := Away.of_below hbl
  have HA4 := Lib.hid (HA.out.trans haw)
  have HB4 := Lib.hid (HB.out.on haw (by simp))
  clear hbl haw HP HA HB hsz
  go_wp2_with (refine wpList_allocA rfl rfl ?_; refine Hid.out ?_)
  refine Lib.hid ?_
  intro g6 w5 hg6 hb6 haw
  have HB6 := Lib.hid hb6
  have hlt := lt_of_block HB4.out
  have hs4 := HA4.out.size
  have HA5 := Lib.hid (HA4.out.trans haw)
  have HB5 := Lib.hid (HB4.out.on haw (by simp))
  clear hb6 haw HA4 HB4
  go_wp2_with (refine wpList_storeA rfl _ _ rfl g6 rfl v b HPO.out.1 0 z16 rfl rfl HB6.out ?_; refine Hid.out ?_)
  refine Lib.hid ?_
  intro w6 hb6 haw
  replace HB6 := Lib.hid hb6
  have HB7 := Lib.hid (HB5.out.on haw (by simp; omega))
  have HA6 : Hid (Away [] w w6) := HA5.out.next haw (fun z hz => .inr (by simp at hz; subst hz; omega))
  clear hb6 haw HA5 HB5 hlt hg6
  go_wp2_with (go_at_call 48; refine (HN1.out _).mono ?_; refine Hid.out ?_)
  refine Lib.hid ?_
  rintro E w7 ⟨rfl, rfl⟩
  clear HN1
  go_wp2_with (go_at_call 48; refine (HN2.out _).mono ?_; refine Hid.out ?_)
  refine Lib.hid ?_
  rintro E w8 ⟨rfl, rfl⟩
  clear HN2
  have hsz : w.heap.size ≤ w8.heap.size := HA6.out.size
  have HQ2 := Lib.hid HQ.out.2
  by_cases he : e = 0
  · subst he
    cases a1
    · have HLS : Hid (false = ln.isSome) := by rw [← HQ.out.1]; exact rfl
      clear HQ
      go_wp2_with (first
        | (refine wpList_load32 rfl _ rfl g6 rfl v b HPO.out.1 HB6.out ?_)
        | (refine wpList_buildE rfl _ _ _ rfl X HX.out (by rw [HXE.out]; rfl) (by rw [HXE.out]; rfl) (by rw [HXE.out]; rfl) ?_)
        | (refine wpList_storeE rfl _ _ rfl g2 rfl X zeroD HX.out zeroD_ok rfl HB7.out ?_; refine Hid.out ?_))
      refine Lib.hid ?_
      intro w9 hbx haw
      have HB9 := Lib.hid hbx
      have HA9 : Hid (Away [] w w9) := HA6.out.next haw (fun z hz => .inr (by simp at hz; subst hz; omega))
      clear hbx haw
      go_wp2_with fail
      refine bodyPost_ret (v := .tuple #[.agg (csD X), .bool false]) ?_ rfl ⟨⟨X, HX.out, by rw [← HLS.out], HQ2.out⟩, HA9.out⟩
      exact resultRt rfl _ _ _ X HX.out _ rfl rfl HB9.out
    · cases a2
      · have HLS : Hid (false = ln.isSome) := by rw [← HQ.out.1]; exact rfl
        clear HQ
        go_wp2_with (first
          | (refine wpList_load32 rfl _ rfl g6 rfl v b HPO.out.1 HB6.out ?_)
          | (refine wpList_buildE rfl _ _ _ rfl X HX.out (by rw [HXE.out]; rfl) (by rw [HXE.out]; rfl) (by rw [HXE.out]; rfl) ?_)
          | (refine wpList_storeE rfl _ _ rfl g2 rfl X zeroD HX.out zeroD_ok rfl HB7.out ?_; refine Hid.out ?_))
        refine Lib.hid ?_
        intro w9 hbx haw
        have HB9 := Lib.hid hbx
        have HA9 : Hid (Away [] w w9) := HA6.out.next haw (fun z hz => .inr (by simp at hz; subst hz; omega))
        clear hbx haw
        go_wp2_with fail
        refine bodyPost_ret (v := .tuple #[.agg (csD X), .bool false]) ?_ rfl ⟨⟨X, HX.out, by rw [← HLS.out], HQ2.out⟩, HA9.out⟩
        exact resultRt rfl _ _ _ X HX.out _ rfl rfl HB9.out
      · have HLS : Hid (true = ln.isSome) := by rw [← HQ.out.1]; exact rfl
        clear HQ
        go_wp2_with (first
          | (refine wpList_load32 rfl _ rfl g6 rfl v b HPO.out.1 HB6.out ?_)
          | (refine wpList_buildE rfl _ _ _ rfl X HX.out (by rw [HXE.out]; rfl) (by rw [HXE.out]; rfl) (by rw [HXE.out]; rfl) ?_)
          | (refine wpList_storeE rfl _ _ rfl g2 rfl X zeroD HX.out zeroD_ok rfl HB7.out ?_; refine Hid.out ?_))
        refine Lib.hid ?_
        intro w9 hbx haw
        have HB9 := Lib.hid hbx
        have HA9 : Hid (Away [] w w9) := HA6.out.next haw (fun z hz => .inr (by simp at hz; subst hz; omega))
        clear hbx haw
        go_wp2_with fail
        refine bodyPost_ret (v := .tuple #[.agg (csD X), .bool true]) ?_ rfl ⟨⟨X, HX.out, by rw [← HLS.out], HQ2.out⟩, HA9.out⟩
        exact resultRt rfl _ _ _ X HX.out _ rfl rfl HB9.out
  · have HLS : Hid (false = ln.isSome) := by rw [← HQ.out.1]; show false = _; simp [he]
    have heb : (e == 0) = false := by simpa using he
    clear HQ he
    go_wp2_with (first
      | (refine wpList_load32 rfl _ rfl g6 rfl v b HPO.out.1 HB6.out ?_)
      | (refine wpList_buildE rfl _ _ _ rfl X HX.out (by rw [HXE.out]; rfl) (by rw [HXE.out]; rfl) (by rw [HXE.out]; rfl) ?_)
      | (refine wpList_storeE rfl _ _ rfl g2 rfl X zeroD HX.out zeroD_ok rfl HB7.out ?_; refine Hid.out ?_))
    refine Lib.hid ?_
    intro w9 hbx haw
    have HB9 := Lib.hid hbx
    have HA9 : Hid (Away [] w w9) := HA6.out.next haw (fun z hz => .inr (by simp at hz; subst hz; omega))
    clear hbx haw
    go_wp2_with fail
    refine bodyPost_ret (v := .tuple #[.agg (csD X), .bool false]) ?_ rfl ⟨⟨X, HX.out, by rw [← HLS.out], HQ2.out⟩, HA9.out⟩
    exact resultRt rfl _ _ _ X HX.out _ rfl rfl HB9.out
end Go.Proofs.Ytoifolmcdkfniaa
