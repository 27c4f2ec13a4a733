/-
  RouteTexts, walked.
-/
import Derived.Test.YtoifolmcdkfniaaDoorTx
namespace Go.Proofs.YtoifolmcdkfniaaDoor
open Go.ChangeShapes Go.WideShapes Go.ChangeAt Go.RowKit
set_option linter.unusedVariables false
set_option linter.unusedSimpArgs false
set_option maxRecDepth 100000

namespace routeTexts
set_option maxHeartbeats 16000000 in
theorem walk (a : Option Addr) (L : List Rt) (cap : Nat) (l : List UInt8) (W : World) (hg : Glob W) (hr : Rd W (.slice a L.length cap) L) (hl : L.length ≤ 3518437208780) (hs : l.length ≤ 4294967280) :
    Calls Tryd.prog 3 #[.slice a L.length cap, .string ⟨l.toArray⟩] W fun E w' => E = .returned (.bool true) ∧ Below W.heap.size W w' := by
  have HR := Lib.hid hr
  have HOK := Lib.hid hr.ok
  have HG := Lib.hid hg
  obtain ⟨n, hn⟩ : ∃ n, n = L.length := ⟨_, rfl⟩
  rw [← hn] at hl HR ⊢
  have HN := Lib.hid hn
  have HOW := Lib.hid (own_c HR.out (by rw [← HN.out]; omega))
  clear hr hg hn
  go_enter Tryd.func3, Tryd.ntmps3
  go_wp2_with (go_at_call 6; refine HOW.out.mono ?_; refine Hid.out ?_)
  refine Lib.hid ?_
  rintro E w1 ⟨v1, rfl, hown, -, haw⟩
  have HA := Lib.hid haw
  have HNE := Lib.hid (new_c (hown.rd HOK.out) (by rw [← HN.out]; omega))
  obtain ⟨va, vc, rfl, -⟩ := hown.sl
  rw [← HN.out] at HNE ⊢
  clear hown haw HOW
  go_wp2_with (go_at_call 5; refine HNE.out.mono ?_; refine Hid.out ?_)
  refine Lib.hid ?_
  rintro E w2 (⟨hm, rfl, haw⟩ | ⟨hm, gt, tw, S, rfl, ho, ht, -, -, haw⟩)
  · have HM := Lib.hid hm
    replace HA := Lib.hid (HA.out.trans haw)
    have HOW := Lib.hid (own_c (HR.out.on HA.out) (by rw [← HN.out]; omega))
    clear hm haw HNE
    go_wp2_with (go_at_call 6; refine HOW.out.mono ?_; refine Hid.out ?_)
    refine Lib.hid ?_
    rintro E w3 ⟨v3, rfl, hown, -, haw⟩
    replace HA := Lib.hid (HA.out.trans haw)
    have HPR := Lib.hid (print_r (hown.rd HOK.out) (by rw [← HN.out]; omega) (HG.out.aw HA.out))
    obtain ⟨vb, vd, rfl, -⟩ := hown.sl
    rw [← HN.out] at HPR ⊢
    clear hown haw HOW
    go_wp2_with (go_at_call 7; refine HPR.out.mono ?_; refine Hid.out ?_)
    refine Lib.hid ?_
    rintro E w4 ⟨⟨hm, rfl⟩ | ⟨hm, -⟩, haw⟩
    rotate_left
    · rw [HM.out] at hm; simp at hm
    replace HA := Lib.hid (HA.out.trans haw)
    have HK := Lib.hid (known_c w4 (HG.out.aw HA.out))
    clear hm haw HPR
    go_wp2_with (go_at_call 8; refine HK.out.mono ?_; refine Hid.out ?_)
    refine Lib.hid ?_
    rintro E w5 ⟨rfl, haw⟩
    replace HA := Lib.hid (HA.out.trans haw)
    clear haw HK
    have HPS := Lib.hid (fun w hg => parse_r l hs w hg)
    obtain ⟨⟨L2, e2⟩, hr2⟩ : ∃ r, r = parseR l := ⟨_, rfl⟩
    rw [← hr2] at HPS
    have HE2 : Hid ((e2 = 0 ∧ mayL L2 = true) ∨ (L2 = [] ∧ (e2 = 1 ∨ e2 = 2))) := by
      unfold parseR at hr2
      split at hr2
      · simp only [Prod.mk.injEq] at hr2; exact .inr ⟨hr2.1, .inr hr2.2⟩
      · split at hr2
        · rename_i h5
          simp only [Prod.mk.injEq] at hr2; exact .inl ⟨hr2.2, by rw [hr2.1]; exact h5⟩
        · simp only [Prod.mk.injEq] at hr2; exact .inr ⟨hr2.1, .inl hr2.2⟩
    have HOK2 : Hid (∀ x ∈ L2, Okr x) := by have := parseR_ok l; rw [← hr2] at this; exact this
    clear hr2
    go_wp2_with (go_at_call 9; refine (HPS.out _ (HG.out.aw HA.out)).mono ?_; refine Hid.out ?_)
    refine Lib.hid ?_
    rintro E x1 ⟨v2, rfl, hown, -, haw⟩
    replace HA := Lib.hid (HA.out.trans haw)
    have HO2 := Lib.hid hown
    obtain ⟨b2, c2, rfl, -⟩ := hown.sl
    clear hown haw HPS
    rcases HE2.out with ⟨h1, hmay2⟩ | ⟨h1, h2⟩
    · subst h1
      have HM2 := Lib.hid hmay2
      have hl2 : L2.length ≤ 3518437208790 := by have := (mayL_iff.1 hmay2).1; omega
      have HNE := Lib.hid (new_c (HO2.out.rd HOK2.out) hl2)
      obtain ⟨n2, hn2⟩ : ∃ n, n = L2.length := ⟨_, rfl⟩
      have HN2 := Lib.hid hn2
      rw [← hn2] at HNE HO2 ⊢
      clear hmay2 hn2
      go_wp2_with (go_at_call 5; refine HNE.out.mono ?_; refine Hid.out ?_)
      refine Lib.hid ?_
      rintro E x2 (⟨hm, -⟩ | ⟨hm, gu, uw, S2, rfl, ho, ht, -, -, haw⟩)
      · rw [HM2.out] at hm; simp at hm
      replace HA := Lib.hid (HA.out.trans haw)
      have HT2 := Lib.hid ht
      have HS2 := Lib.hid ho
      replace HO2 := Lib.hid (HO2.out.on haw)
      have HPR := Lib.hid (print_r (HO2.out.rd HOK2.out) (by rw [← HN2.out] at hl2; rw [← HN2.out]; exact hl2) (HG.out.aw HA.out))
      clear hm ho ht haw HNE
      go_wp2_with (go_at_call 7; refine HPR.out.mono ?_; refine Hid.out ?_)
      refine Lib.hid ?_
      rintro E x3 ⟨⟨hm, -⟩ | ⟨hm, S3, ho3, rfl⟩, haw⟩
      · rw [HM2.out] at hm; simp at hm
      obtain rfl := ord_uniq (fun x hx => HOK2.out x (HS2.out.1.mem_iff.1 hx)) (HS2.out.1.trans ho3.1.symm) HS2.out.2 ho3.2
      replace HA := Lib.hid (HA.out.trans haw)
      replace HT2 := Lib.hid (HT2.out.on haw)
      have HPP := Lib.hid (parse_r (textP S2) (by
        have h1 := text_len S2 (fun y hy => ⟨HOK2.out y (HS2.out.1.mem_iff.1 hy), (mayL_iff.1 HM2.out).2.1 y (HS2.out.1.mem_iff.1 hy)⟩)
        have h2 := HT2.out.len
        omega) x3 (HG.out.aw HA.out))
      rw [parse_text HOK2.out HM2.out HS2.out] at HPP
      clear hm ho3 haw HPR
      go_wp2_with (go_at_call 9; refine HPP.out.mono ?_; refine Hid.out ?_)
      refine Lib.hid ?_
      rintro E x4 ⟨v3, rfl, hown, -, haw⟩
      replace HA := Lib.hid (HA.out.trans haw)
      replace HT2 := Lib.hid (HT2.out.on haw)
      have HO3 := Lib.hid hown
      obtain ⟨b3, c3, rfl, -⟩ := hown.sl
      have HLN : Hid (S2.length = n2) := by show _ = _; rw [HS2.out.1.length_eq, ← HN2.out]
      have HAL := Lib.hid (all_c HT2.out)
      have HL32 := Lib.hid HT2.out.len
      change Hid (LstD x4 (.slice b3 S2.length c3) S2) at HO3
      dsimp only
      rw [HLN.out] at HO3 ⊢
      clear hown haw HPP
      go_wp2_with (go_at_call 11; refine HAL.out.mono ?_; refine Hid.out ?_)
      refine Lib.hid ?_
      rintro E x5 ⟨v4, rfl, hown, -, haw⟩
      replace HA := Lib.hid (HA.out.trans haw)
      have HSM := Lib.hid (same_yes ((HO3.out.on haw).rd HT2.out.ok) (hown.rd HT2.out.ok) (by have := HL32.out; omega))
      obtain ⟨b4, c4, rfl, -⟩ := hown.sl
      clear hown haw HAL
      go_wp2_with (go_at_call 10; refine HSM.out.mono ?_; refine Hid.out ?_)
      refine Lib.hid ?_
      rintro E x6 ⟨rfl, haw⟩
      replace HA := Lib.hid (HA.out.trans haw)
      clear haw HSM
      go_wp2_with fail
      go_ret
      exact ⟨rfl, HA.out.to_below⟩
    · subst h1
      rcases h2 with rfl | rfl
      · dsimp only [List.length_nil]
        go_wp2_with fail
        go_ret
        exact ⟨rfl, HA.out.to_below⟩
      · dsimp only [List.length_nil]
        go_wp2_with fail
        go_ret
        exact ⟨rfl, HA.out.to_below⟩
  · have HM := Lib.hid hm
    have HO := Lib.hid ho
    have HT := Lib.hid ht
    replace HA := Lib.hid (HA.out.trans haw)
    have HOW := Lib.hid (own_c (HR.out.on HA.out) (by rw [← HN.out]; omega))
    clear hm haw HNE ho ht
    go_wp2_with (go_at_call 6; refine HOW.out.mono ?_; refine Hid.out ?_)
    refine Lib.hid ?_
    rintro E w3 ⟨v3, rfl, hown, -, haw⟩
    replace HA := Lib.hid (HA.out.trans haw)
    replace HT := Lib.hid (HT.out.on haw)
    have HPR := Lib.hid (print_r (hown.rd HOK.out) (by rw [← HN.out]; omega) (HG.out.aw HA.out))
    obtain ⟨vb, vd, rfl, -⟩ := hown.sl
    rw [← HN.out] at HPR ⊢
    clear hown haw HOW
    go_wp2_with (go_at_call 7; refine HPR.out.mono ?_; refine Hid.out ?_)
    refine Lib.hid ?_
    rintro E w4 ⟨⟨hm, -⟩ | ⟨hm, S', ho', rfl⟩, haw⟩
    · rw [HM.out] at hm; simp at hm
    obtain rfl := ord_uniq (fun x hx => HOK.out x (HO.out.1.mem_iff.1 hx)) (HO.out.1.trans ho'.1.symm) HO.out.2 ho'.2
    replace HA := Lib.hid (HA.out.trans haw)
    replace HT := Lib.hid (HT.out.on haw)
    have HK := Lib.hid (known_c w4 (HG.out.aw HA.out))
    have HOKS := Lib.hid HT.out.ok
    have HMS : Hid (mayL S = true) := by show _ = _; rw [mayL_perm HO.out.1]; exact HM.out
    have HSL := Lib.hid HT.out.len
    have HTL : Hid ((textP S).length ≤ 4294967280) := by
      show _ ≤ _
      have h1 := text_len S (fun y hy => ⟨HOKS.out y hy, (mayL_iff.1 HMS.out).2.1 y hy⟩)
      have h2 := HSL.out
      omega
    have HPT := Lib.hid (parse_text HOK.out HM.out HO.out)
    have HPP := Lib.hid (fun w hg => parse_r (textP S) HTL.out w hg)
    rw [HPT.out] at HPP
    obtain ⟨tx, htx⟩ : ∃ t, t = textP S := ⟨_, rfl⟩
    rw [← htx] at HPP ⊢
    have HTX := Lib.hid htx
    clear hm ho' haw HPR htx
    go_wp2_with (go_at_call 8; refine HK.out.mono ?_; refine Hid.out ?_)
    refine Lib.hid ?_
    rintro E w5 ⟨rfl, haw⟩
    replace HA := Lib.hid (HA.out.trans haw)
    replace HT := Lib.hid (HT.out.on haw)
    clear haw HK
    go_wp2_with (go_at_call 9; refine (HPP.out _ (HG.out.aw HA.out)).mono ?_; refine Hid.out ?_)
    refine Lib.hid ?_
    rintro E w6 ⟨v6, rfl, hown, -, haw⟩
    replace HA := Lib.hid (HA.out.trans haw)
    replace HT := Lib.hid (HT.out.on haw)
    have HO6 := Lib.hid hown
    obtain ⟨b6, c6, rfl, -⟩ := hown.sl
    dsimp only at HO6 ⊢
    have HPR := Lib.hid (print_r (HO6.out.rd HOKS.out) (by have := HSL.out; omega) (HG.out.aw HA.out))
    clear hown haw HPP
    go_wp2_with (go_at_call 7; refine HPR.out.mono ?_; refine Hid.out ?_)
    refine Lib.hid ?_
    rintro E w7 ⟨⟨hm, -⟩ | ⟨hm, S', ho', rfl⟩, haw⟩
    · rw [HMS.out] at hm; simp at hm
    obtain rfl := ord_uniq HOKS.out ho'.1.symm HO.out.2 ho'.2
    rw [← HTX.out]
    replace HA := Lib.hid (HA.out.trans haw)
    replace HT := Lib.hid (HT.out.on haw)
    replace HO6 := Lib.hid (HO6.out.on haw)
    have HAL := Lib.hid (all_c HT.out)
    clear hm ho' haw HPR
    go_wp2_with (go_at_call 11; refine HAL.out.mono ?_; refine Hid.out ?_)
    refine Lib.hid ?_
    rintro E w8 ⟨v8, rfl, hown, -, haw⟩
    replace HA := Lib.hid (HA.out.trans haw)
    have HSM := Lib.hid (same_yes ((HO6.out.on haw).rd HOKS.out) (hown.rd HOKS.out) (by have := HSL.out; omega))
    obtain ⟨b8, c8, rfl, -⟩ := hown.sl
    clear hown haw HAL
    go_wp2_with (go_at_call 10; refine HSM.out.mono ?_; refine Hid.out ?_)
    refine Lib.hid ?_
    rintro E w9 ⟨rfl, haw⟩
    replace HA := Lib.hid (HA.out.trans haw)
    clear haw HSM
    have HPS := Lib.hid (fun w hg => parse_r l hs w hg)
    obtain ⟨⟨L2, e2⟩, hr2⟩ : ∃ r, r = parseR l := ⟨_, rfl⟩
    rw [← hr2] at HPS
    have HE2 : Hid ((e2 = 0 ∧ mayL L2 = true) ∨ (L2 = [] ∧ (e2 = 1 ∨ e2 = 2))) := by
      unfold parseR at hr2
      split at hr2
      · simp only [Prod.mk.injEq] at hr2; exact .inr ⟨hr2.1, .inr hr2.2⟩
      · split at hr2
        · rename_i h5
          simp only [Prod.mk.injEq] at hr2; exact .inl ⟨hr2.2, by rw [hr2.1]; exact h5⟩
        · simp only [Prod.mk.injEq] at hr2; exact .inr ⟨hr2.1, .inl hr2.2⟩
    have HOK2 : Hid (∀ x ∈ L2, Okr x) := by have := parseR_ok l; rw [← hr2] at this; exact this
    clear hr2
    go_wp2_with (go_at_call 9; refine (HPS.out _ (HG.out.aw HA.out)).mono ?_; refine Hid.out ?_)
    refine Lib.hid ?_
    rintro E x1 ⟨v2, rfl, hown, -, haw⟩
    replace HA := Lib.hid (HA.out.trans haw)
    have HO2 := Lib.hid hown
    obtain ⟨b2, c2, rfl, -⟩ := hown.sl
    clear hown haw HPS
    rcases HE2.out with ⟨h1, hmay2⟩ | ⟨h1, h2⟩
    · subst h1
      have HM2 := Lib.hid hmay2
      have hl2 : L2.length ≤ 3518437208790 := by have := (mayL_iff.1 hmay2).1; omega
      have HNE := Lib.hid (new_c (HO2.out.rd HOK2.out) hl2)
      obtain ⟨n2, hn2⟩ : ∃ n, n = L2.length := ⟨_, rfl⟩
      have HN2 := Lib.hid hn2
      rw [← hn2] at HNE HO2 ⊢
      clear hmay2 hn2
      go_wp2_with (go_at_call 5; refine HNE.out.mono ?_; refine Hid.out ?_)
      refine Lib.hid ?_
      rintro E x2 (⟨hm, -⟩ | ⟨hm, gu, uw, S2, rfl, ho, ht, -, -, haw⟩)
      · rw [HM2.out] at hm; simp at hm
      replace HA := Lib.hid (HA.out.trans haw)
      have HT2 := Lib.hid ht
      have HS2 := Lib.hid ho
      replace HO2 := Lib.hid (HO2.out.on haw)
      have HPR := Lib.hid (print_r (HO2.out.rd HOK2.out) (by rw [← HN2.out] at hl2; rw [← HN2.out]; exact hl2) (HG.out.aw HA.out))
      clear hm ho ht haw HNE
      go_wp2_with (go_at_call 7; refine HPR.out.mono ?_; refine Hid.out ?_)
      refine Lib.hid ?_
      rintro E x3 ⟨⟨hm, -⟩ | ⟨hm, S3, ho3, rfl⟩, haw⟩
      · rw [HM2.out] at hm; simp at hm
      obtain rfl := ord_uniq (fun x hx => HOK2.out x (HS2.out.1.mem_iff.1 hx)) (HS2.out.1.trans ho3.1.symm) HS2.out.2 ho3.2
      replace HA := Lib.hid (HA.out.trans haw)
      replace HT2 := Lib.hid (HT2.out.on haw)
      have HPP := Lib.hid (parse_r (textP S2) (by
        have h1 := text_len S2 (fun y hy => ⟨HOK2.out y (HS2.out.1.mem_iff.1 hy), (mayL_iff.1 HM2.out).2.1 y (HS2.out.1.mem_iff.1 hy)⟩)
        have h2 := HT2.out.len
        omega) x3 (HG.out.aw HA.out))
      rw [parse_text HOK2.out HM2.out HS2.out] at HPP
      clear hm ho3 haw HPR
      go_wp2_with (go_at_call 9; refine HPP.out.mono ?_; refine Hid.out ?_)
      refine Lib.hid ?_
      rintro E x4 ⟨v3, rfl, hown, -, haw⟩
      replace HA := Lib.hid (HA.out.trans haw)
      replace HT2 := Lib.hid (HT2.out.on haw)
      have HO3 := Lib.hid hown
      obtain ⟨b3, c3, rfl, -⟩ := hown.sl
      have HLN : Hid (S2.length = n2) := by show _ = _; rw [HS2.out.1.length_eq, ← HN2.out]
      have HAL := Lib.hid (all_c HT2.out)
      have HL32 := Lib.hid HT2.out.len
      change Hid (LstD x4 (.slice b3 S2.length c3) S2) at HO3
      dsimp only
      rw [HLN.out] at HO3 ⊢
      clear hown haw HPP
      go_wp2_with (go_at_call 11; refine HAL.out.mono ?_; refine Hid.out ?_)
      refine Lib.hid ?_
      rintro E x5 ⟨v4, rfl, hown, -, haw⟩
      replace HA := Lib.hid (HA.out.trans haw)
      have HSM := Lib.hid (same_yes ((HO3.out.on haw).rd HT2.out.ok) (hown.rd HT2.out.ok) (by have := HL32.out; omega))
      obtain ⟨b4, c4, rfl, -⟩ := hown.sl
      clear hown haw HAL
      go_wp2_with (go_at_call 10; refine HSM.out.mono ?_; refine Hid.out ?_)
      refine Lib.hid ?_
      rintro E x6 ⟨rfl, haw⟩
      replace HA := Lib.hid (HA.out.trans haw)
      clear haw HSM
      go_wp2_with fail
      go_ret
      exact ⟨rfl, HA.out.to_below⟩
    · subst h1
      rcases h2 with rfl | rfl
      · dsimp only [List.length_nil]
        go_wp2_with fail
        go_ret
        exact ⟨rfl, HA.out.to_below⟩
      · dsimp only [List.length_nil]
        go_wp2_with fail
        go_ret
        exact ⟨rfl, HA.out.to_below⟩
end routeTexts
end Go.Proofs.YtoifolmcdkfniaaDoor
