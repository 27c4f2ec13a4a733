/-
  RouteNets.
-/
import Derived.Test.YtoifolmcdkfniaaTab
namespace Go.Proofs.Ytoifolmcdkfniaa
open Go.ChangeShapes Go.WideShapes Go.ChangeAt Go.RowKit Go.Deep
set_option linter.unusedVariables false
set_option linter.unusedSimpArgs false
set_option maxRecDepth 100000

namespace routeNets
theorem rev_step {L : List Rt} {k : Nat} {x : Rt} (h : L[k]? = some x) : (L.drop (k + 1)).reverse ++ [x] = (L.drop k).reverse := by
  have hk := (List.getElem?_eq_some_iff.1 h).1
  rw [List.drop_eq_getElem_cons hk, List.reverse_cons, (List.getElem?_eq_some_iff.1 h).2]
set_option maxHeartbeats 16000000 in
theorem walk (a : Option Addr) (L : List Rt) (cap : Nat) (da : Option Addr) (D : List Ax) (dcap : Nat) (W : World) (hr : Rd W (.slice a L.length cap) L) (hl : L.length ≤ 3518437208780) (hd : RowA W da D) (hdl : D.length ≤ 5864062014635) (hg : Glob W) :
    Calls Try.prog 3 #[.slice a L.length cap, .slice da D.length dcap] W fun E w' => E = .returned (.bool true) ∧ Below W.heap.size W w' := by
  have HR := Lib.hid hr
  have HOK := Lib.hid hr.ok
  have HD := Lib.hid hd
  have HG := Lib.hid hg
  obtain ⟨a', cap', he, hcap, hsh⟩ := hr.shp
  simp only [Value.slice.injEq, true_and] at he
  obtain ⟨rfl, rfl⟩ := he
  have HSH := Lib.hid hsh
  obtain ⟨n, hn⟩ : ∃ n, n = L.length := ⟨_, rfl⟩
  obtain ⟨m, hm⟩ : ∃ m, m = D.length := ⟨_, rfl⟩
  rw [← hn] at hl hcap HR ⊢
  rw [← hm] at hdl ⊢
  have HN := Lib.hid hn
  have HM := Lib.hid hm
  have HOW := Lib.hid (own_c HR.out (by rw [← HN.out]; exact hl))
  clear hr hd hg hsh hn hm
  go_enter Try.func3, Try.ntmps3
  go_wp2_with (go_at_call 8; refine HOW.out.mono ?_; refine Hid.out ?_)
  refine Lib.hid ?_
  rintro E w1 ⟨v1, rfl, hown, -, haw⟩
  have HA := Lib.hid haw
  have HNE := Lib.hid (newO_c (hown.rd HOK.out) (by rw [← HN.out]; exact hl))
  obtain ⟨va, vc, rfl, -⟩ := hown.sl
  rw [← HN.out] at HNE ⊢
  clear hown haw HOW
  go_wp2_with (go_at_call 7; refine HNE.out.mono ?_; refine Hid.out ?_)
  refine Lib.hid ?_
  rintro E w2 ⟨tv, e, rfl, ht, haw⟩
  replace HA := Lib.hid (HA.out.trans haw)
  have HT := Lib.hid ht
  clear ht haw HNE
  go_wp2_with fail
  go_loopw [7, 8] (fun lv iv wr => ∃ k : Nat, iv = .int .i64 ((k : Int) - 1) ∧ k ≤ n ∧ LstD wr lv (L.drop k).reverse ∧ New w2.heap.size lv ∧ Away [] w2 wr) (fun _ iv _ => (intOf iv + 1).toNat)
  case atStart => exact ⟨n, by go_num, Nat.le_refl _, by rw [HN.out]; simp; exact LstD.nil _, New.nil _, Away.refl _ _⟩
  case round =>
    obtain ⟨k, rfl, hk, hown, hnew, haw⟩ := hrel
    have HA3 := Lib.hid haw
    have HO := Lib.hid hown
    have HNW := Lib.hid hnew
    clear haw hnew
    rcases k with _ | k
    · have HOD : Hid (∀ x ∈ L.reverse, Okr x) := fun x hx => HOK.out x (by simpa using hx)
      have HRV : Hid (Rd wr u7 L.reverse) := by
        show Rd wr u7 L.reverse
        have := hown.rd (fun x hx => HOK.out x (by simpa using hx))
        simpa using this
      have HN2 := Lib.hid (newO_c HRV.out (by rw [List.length_reverse, ← HN.out]; exact hl))
      obtain ⟨ra, rc, rfl, -⟩ := hown.sl
      simp only [List.length_reverse, List.length_drop, Nat.sub_zero] at HN2 ⊢
      rw [← HN.out] at HN2 ⊢
      replace HT := Lib.hid (HT.out.on HA3.out)
      replace HA := Lib.hid (HA.out.trans HA3.out)
      clear hown HRV HO HNW HA3
      go_wp2_with (go_at_call 7; refine HN2.out.mono ?_; refine Hid.out ?_)
      refine Lib.hid ?_
      rintro E w4 ⟨uv, f, rfl, hu, haw⟩
      replace HA := Lib.hid (HA.out.trans haw)
      replace HT := Lib.hid (HT.out.on haw)
      have HU := Lib.hid hu
      have HK := Lib.hid (known_c w4 (HG.out.aw HA.out))
      clear hu haw HN2
      go_wp2_with (go_at_call 9; refine HK.out.mono ?_; refine Hid.out ?_)
      refine Lib.hid ?_
      rintro E w5 ⟨rfl, haw⟩
      replace HA := Lib.hid (HA.out.trans haw)
      replace HT := Lib.hid (HT.out.on haw)
      replace HU := Lib.hid (HU.out.on haw)
      clear haw HK
      have HPR : Hid (mayL L.reverse = mayL L) := mayL_perm L.reverse_perm
      rcases HT.out with ⟨h1, rfl, rfl⟩ | ⟨h1, rfl, gt, tw, S, rfl, hoS, htS⟩
      · rcases HU.out with ⟨h2, rfl, rfl⟩ | ⟨h2, -⟩
        · clear HT HU h1 h2
          go_wp2_with fail
          go_ret
          exact ⟨rfl, HA.out.to_below⟩
        · exfalso; rw [HPR.out, h1] at h2; simp at h2
      · rcases HU.out with ⟨h2, -⟩ | ⟨h2, rfl, gu, uw, S', rfl, hoU, htU⟩
        · exfalso; rw [HPR.out, h1] at h2; simp at h2
        obtain rfl := ord_same HOK.out L.reverse_perm.symm hoS hoU
        have HMY := Lib.hid h1
        have HOS := Lib.hid hoS
        have HTT := Lib.hid htS
        have HTU := Lib.hid htU
        have HSL : Hid (S.length = n) := by show _ = _; rw [hoS.1.length_eq, ← HN.out]
        have HALL : Hid (∀ x ∈ L, mayR x = true) := (mayL_iff.1 h1).2.1
        clear HT HU h1 h2 hoS hoU htS htU
        have HA1 := Lib.hid (all_c HTT.out)
        go_wp2_with (go_at_call 11; refine HA1.out.mono ?_; refine Hid.out ?_)
        refine Lib.hid ?_
        rintro E w6 ⟨s1, rfl, hs1, -, haw⟩
        replace HA := Lib.hid (HA.out.trans haw)
        replace HTT := Lib.hid (HTT.out.on haw)
        replace HTU := Lib.hid (HTU.out.on haw)
        have HS1 := Lib.hid hs1
        have HA2 := Lib.hid (all_c HTU.out)
        clear haw hs1 HA1
        go_wp2_with (go_at_call 11; refine HA2.out.mono ?_; refine Hid.out ?_)
        refine Lib.hid ?_
        rintro E w7 ⟨s2, rfl, hs2, -, haw⟩
        replace HA := Lib.hid (HA.out.trans haw)
        replace HTT := Lib.hid (HTT.out.on haw)
        replace HTU := Lib.hid (HTU.out.on haw)
        replace HS1 := Lib.hid (HS1.out.on haw)
        have HSM := Lib.hid (same_yes (HS1.out.rd HTT.out.ok) (hs2.rd HTT.out.ok) (by have := HTT.out.len; omega))
        clear haw hs2 HA2 HS1
        go_wp2_with (go_at_call 10; refine HSM.out.mono ?_; refine Hid.out ?_)
        refine Lib.hid ?_
        rintro E w8 ⟨rfl, haw⟩
        replace HA := Lib.hid (HA.out.trans haw)
        replace HTT := Lib.hid (HTT.out.on haw)
        replace HTU := Lib.hid (HTU.out.on haw)
        have HA3 := Lib.hid (all_c HTT.out)
        clear haw HSM
        go_wp2_with (go_at_call 11; refine HA3.out.mono ?_; refine Hid.out ?_)
        refine Lib.hid ?_
        rintro E w9 ⟨s3, rfl, hs3, -, haw⟩
        replace HA := Lib.hid (HA.out.trans haw)
        replace HTT := Lib.hid (HTT.out.on haw)
        replace HTU := Lib.hid (HTU.out.on haw)
        obtain ⟨sa, sc, rfl, -⟩ := hs3.sl
        rw [HSL.out]
        have hnn : ((n : Int) != (n : Int)) = false := by simp
        clear haw hs3 HA3
        go_wp2_with fail
        go_loopw [11] (fun i wr => ∃ i' : Nat, i = .int .i64 (i' : Int) ∧ i' ≤ m ∧ Away [] w9 wr) (fun i _ => m - (intOf i).toNat)
        case atStart => exact ⟨0, rfl, Nat.zero_le _, Away.refl _ _⟩
        case round =>
          obtain ⟨i, rfl, hi, haw⟩ := hrel
          have HB := Lib.hid haw
          clear haw
          by_cases him : i < m
          · have i1 : decide (i < m) = true := by simp; omega
            have i0 : (i : Int) < (m : Int) := by omega
            obtain ⟨x, hx, hxm⟩ := get_of (show i < D.length by rw [← HM.out]; omega)
            obtain ⟨db, do_, hda, hxr, hxo⟩ := HD.out.at hx
            subst hda
            have HXO := Lib.hid hxo
            have HXR : Hid (∀ w', Away [] w9 w' → w'.rangeAt db (do_ + i * 17) (cellsA x.v x.l)) := fun w' hw' => range_away (HA.out.trans hw') (by simp) hxr
            clear hx hxm hxr hxo him
            obtain ⟨⟨r1, r2⟩, hrr⟩ : ∃ r, r = findA x.v x.l S := ⟨_, rfl⟩
            have HF1 := Lib.hid (fun w (h : Tm w gt tw S) => find_c h x.v x.l HXO.out.1)
            have HF2 := Lib.hid (fun w (h : Tm w gu uw S) => find_c h x.v x.l HXO.out.1)
            rw [← hrr] at HF1 HF2
            have HRR := Lib.hid hrr
            clear hrr
            have HXR1 := Lib.hid (HXR.out _ HB.out)
            go_wp2_with (first
              | (refine wpList_ixA rfl _ _ rfl db do_ m dcap i rfl rfl (by omega) ?_)
              | (refine wpList_load32m rfl _ rfl db (do_ + i * 17) rfl x.v x.l HXO.out.1 HXR1.out ?_)
              | (go_at_call 12; refine (HF1.out _ (HTT.out.on HB.out)).mono ?_; refine Hid.out ?_))
            refine Lib.hid ?_
            rintro E w10 rfl haw
            replace HB := Lib.hid (HB.out.trans haw)
            replace HXR1 := Lib.hid (HXR.out _ HB.out)
            clear haw HF1
            go_wp2_with (first
              | (refine wpList_ixA rfl _ _ rfl db do_ m dcap i rfl rfl (by omega) ?_)
              | (refine wpList_load32m rfl _ rfl db (do_ + i * 17) rfl x.v x.l HXO.out.1 HXR1.out ?_)
              | (go_at_call 12; refine (HF2.out _ (HTU.out.on HB.out)).mono ?_; refine Hid.out ?_))
            refine Lib.hid ?_
            rintro E w11 ⟨rfl, haw⟩
            replace HB := Lib.hid (HB.out.trans haw)
            clear haw HF2 HXR1
            have hr1 : (r1 != r1) = false := by simp
            have hr2 : (r2 != r2) = false := by simp
            cases hva : validP x.v x.l with
            | false =>
              have HE : Hid ((r1, r2) = (0, 1)) := by show _ = _; rw [HRR.out]; exact findA_bad hva
              have e1 : r1 = 0 := congrArg Prod.fst HE.out
              have e2 : r2 = 1 := congrArg Prod.snd HE.out
              subst e1; subst e2
              clear hva
              go_wp2_with fail
              go_roundw
              case rel => exact ⟨i + 1, by go_num, by omega, HB.out⟩
              case measure => simp [intOf]; omega
            | true =>
              have HVA := Lib.hid hva
              have HCS : Hid (((r1, r2) = (0, 210) ∧ ∀ y ∈ L, hitR x.v x.l y = false) ∨ ∃ y, (r1, r2) = (y.k, 0) ∧ Best x.v x.l L y) := by rw [HRR.out]; exact ans_cases HXO.out.2 HOK.out HMY.out HOS.out hva
              have hr2n : (r2 == 1) = false := by
                rcases HCS.out with ⟨h, -⟩ | ⟨y, h, -⟩
                · have : r2 = 210 := congrArg Prod.snd h
                  rw [this]; rfl
                · have : r2 = 0 := congrArg Prod.snd h
                  rw [this]; rfl
              clear hva
              go_wp2_with fail
              go_loopw [16, 17] (fun bv iv wr => ∃ (k : Nat) (b : Int), iv = .int .i64 (k : Int) ∧ bv = .int .i64 b ∧ k ≤ n ∧ MaxB x.v x.l L k b ∧ Away [] w9 wr) (fun _ iv _ => n - (intOf iv).toNat)
              case atStart => exact ⟨0, -1, rfl, rfl, Nat.zero_le _, MaxB.start _ _ _, HB.out⟩
              case round =>
                obtain ⟨k, bb, rfl, rfl, hk, hmb, haw⟩ := hrel
                have HMB := Lib.hid hmb
                have HC := Lib.hid haw
                clear hmb haw
                by_cases hkn : k < n
                · have k1 : decide (k < n) = true := by simp; omega
                  have k0 : (k : Int) < (n : Int) := by omega
                  obtain ⟨y, hy, hym⟩ := get_of (show k < L.length by rw [← HN.out]; omega)
                  have HY := Lib.hid hy
                  have HYO := Lib.hid (HOK.out y hym)
                  have HLI := Lib.hid (fun w => lies_c HXO.out.1 HXO.out.2 HVA.out HYO.out (HALL.out y hym) w)
                  rcases HSH.out with he | ⟨b, o, ha, hrg⟩
                  · exfalso; rw [he] at hy; simp at hy
                  subst ha
                  have HYR : Hid (∀ w', Away [] w9 w' → w'.rangeAt b (o + k * 19) (listD y)) := fun w' hw' => range_away (HA.out.trans hw') (by simp) (hrg k y hy)
                  obtain ⟨q, hq⟩ : ∃ q, q = hitR x.v x.l y := ⟨_, rfl⟩
                  rw [← hq] at HLI
                  have HQ := Lib.hid hq
                  clear hq hy hym hrg hkn
                  cases q
                  · have HMB2 := Lib.hid (HMB.out.no HY.out (fun h => by rw [← HQ.out] at h; simp at h))
                    go_wp2_with fail
                    refine wp_region_cls (C := fun w' => Away [] w9 w') (by kernel_rfl) (by kernel_rfl) (by exact HC.out.drew) ?_
                    repeat (first
                      | go_big_quiet_skip
                      | (go_big_quiet_want
                         first
                           | (refine quiet_ixA _ _ rfl db do_ m dcap i _ rfl rfl rfl (by omega) ?_; go_simp; go_big_quiet_on)
                           | (refine quiet_ixR _ _ rfl b o n cap k _ rfl rfl rfl (by omega) ?_; go_simp; go_big_quiet_on)
                           | (refine quiet_ldAm _ rfl db (do_ + i * 17) rfl x.v x.l HXO.out.1 (fun w' h => HXR.out w' h) ?_; go_simp; go_big_quiet_on)
                           | (refine quiet_ldR _ rfl b (o + k * 19) rfl y HYO.out (fun w' h => HYR.out w' h) ?_; go_simp; go_big_quiet_on)
                           | (refine quiet_ld3 _ rfl ⟨b, o + k * 19 + 17, none⟩ rfl y.b (fun w' h => range_b (HYR.out w' h) HYO.out) ?_; go_simp; go_big_quiet_on)
                           | (refine quiet_ld3 _ rfl ⟨b, o + k * 19 + 18, none⟩ rfl y.k (fun w' h => range_k (HYR.out w' h) HYO.out) ?_; go_simp; go_big_quiet_on)
                           | (refine quiet_call 13 #[.agg (csA x.v x.l), .agg (csD y)] (.bool false) ?_ (fun W hW => (HLI.out W).mono (fun _ _ h => ⟨h.1, hW.trans h.2⟩)) ?_; (focus (intro w; go_simp; done)); go_simp; go_big_quiet_on)
                           | (refine quiet_call 13 #[.agg (csA x.v x.l), .agg (csD y)] (.bool true) ?_ (fun W hW => (HLI.out W).mono (fun _ _ h => ⟨h.1, hW.trans h.2⟩)) ?_; (focus (intro w; go_simp; done)); go_simp; go_big_quiet_on)
                           | (go_big_quiet_op; go_big_quiet_on)
                           | (refine quiet_val ?_ ?_ ?_
                              rotate_left
                              · intro w; go_simp; rfl
                              go_simp; go_big_quiet_on)))
                    refine wpQuiet_nil ?_
                    intro V hV
                    have HV := Lib.hid hV
                    clear hV
                    go_wp2_with fail
                    go_roundw
                    case rel => exact ⟨k + 1, bb, by go_num, rfl, by omega, HMB2.out, HV.out⟩
                    case measure => simp [intOf]; omega
                  · by_cases hbb : y.b > bb
                    · have HMB2 := Lib.hid (HMB.out.yes HY.out HQ.out.symm hbb)
                      have hbd : decide (y.b > bb) = true := by simpa using hbb
                      go_wp2_with fail
                      refine wp_region_cls (C := fun w' => Away [] w9 w') (by kernel_rfl) (by kernel_rfl) (by exact HC.out.drew) ?_
                      repeat (first
                        | go_big_quiet_skip
                        | (go_big_quiet_want
                           first
                             | (refine quiet_ixA _ _ rfl db do_ m dcap i _ rfl rfl rfl (by omega) ?_; go_simp; go_big_quiet_on)
                             | (refine quiet_ixR _ _ rfl b o n cap k _ rfl rfl rfl (by omega) ?_; go_simp; go_big_quiet_on)
                             | (refine quiet_ldAm _ rfl db (do_ + i * 17) rfl x.v x.l HXO.out.1 (fun w' h => HXR.out w' h) ?_; go_simp; go_big_quiet_on)
                             | (refine quiet_ldR _ rfl b (o + k * 19) rfl y HYO.out (fun w' h => HYR.out w' h) ?_; go_simp; go_big_quiet_on)
                             | (refine quiet_ld3 _ rfl ⟨b, o + k * 19 + 17, none⟩ rfl y.b (fun w' h => range_b (HYR.out w' h) HYO.out) ?_; go_simp; go_big_quiet_on)
                             | (refine quiet_ld3 _ rfl ⟨b, o + k * 19 + 18, none⟩ rfl y.k (fun w' h => range_k (HYR.out w' h) HYO.out) ?_; go_simp; go_big_quiet_on)
                             | (refine quiet_call 13 #[.agg (csA x.v x.l), .agg (csD y)] (.bool false) ?_ (fun W hW => (HLI.out W).mono (fun _ _ h => ⟨h.1, hW.trans h.2⟩)) ?_; (focus (intro w; go_simp; done)); go_simp; go_big_quiet_on)
                             | (refine quiet_call 13 #[.agg (csA x.v x.l), .agg (csD y)] (.bool true) ?_ (fun W hW => (HLI.out W).mono (fun _ _ h => ⟨h.1, hW.trans h.2⟩)) ?_; (focus (intro w; go_simp; done)); go_simp; go_big_quiet_on)
                             | (go_big_quiet_op; go_big_quiet_on)
                             | (refine quiet_val ?_ ?_ ?_
                                rotate_left
                                · intro w; go_simp; rfl
                                go_simp; go_big_quiet_on)))
                      refine wpQuiet_nil ?_
                      intro V hV
                      have HV := Lib.hid hV
                      have c17 := range_b (HYR.out V hV) HYO.out
                      clear hV
                      go_wp2_with (first | (refine wpList_ixR rfl _ _ rfl b o n cap k rfl rfl (by omega) ?_))
                      go_roundw
                      case rel => exact ⟨k + 1, y.b, by go_num, rfl, by omega, HMB2.out, HV.out⟩
                      case measure => simp [intOf]; omega
                    · have HMB2 := Lib.hid (HMB.out.no HY.out (fun _ => by omega))
                      have hbd : decide (y.b > bb) = false := by simpa using hbb
                      go_wp2_with fail
                      refine wp_region_cls (C := fun w' => Away [] w9 w') (by kernel_rfl) (by kernel_rfl) (by exact HC.out.drew) ?_
                      repeat (first
                        | go_big_quiet_skip
                        | (go_big_quiet_want
                           first
                             | (refine quiet_ixA _ _ rfl db do_ m dcap i _ rfl rfl rfl (by omega) ?_; go_simp; go_big_quiet_on)
                             | (refine quiet_ixR _ _ rfl b o n cap k _ rfl rfl rfl (by omega) ?_; go_simp; go_big_quiet_on)
                             | (refine quiet_ldAm _ rfl db (do_ + i * 17) rfl x.v x.l HXO.out.1 (fun w' h => HXR.out w' h) ?_; go_simp; go_big_quiet_on)
                             | (refine quiet_ldR _ rfl b (o + k * 19) rfl y HYO.out (fun w' h => HYR.out w' h) ?_; go_simp; go_big_quiet_on)
                             | (refine quiet_ld3 _ rfl ⟨b, o + k * 19 + 17, none⟩ rfl y.b (fun w' h => range_b (HYR.out w' h) HYO.out) ?_; go_simp; go_big_quiet_on)
                             | (refine quiet_ld3 _ rfl ⟨b, o + k * 19 + 18, none⟩ rfl y.k (fun w' h => range_k (HYR.out w' h) HYO.out) ?_; go_simp; go_big_quiet_on)
                             | (refine quiet_call 13 #[.agg (csA x.v x.l), .agg (csD y)] (.bool false) ?_ (fun W hW => (HLI.out W).mono (fun _ _ h => ⟨h.1, hW.trans h.2⟩)) ?_; (focus (intro w; go_simp; done)); go_simp; go_big_quiet_on)
                             | (refine quiet_call 13 #[.agg (csA x.v x.l), .agg (csD y)] (.bool true) ?_ (fun W hW => (HLI.out W).mono (fun _ _ h => ⟨h.1, hW.trans h.2⟩)) ?_; (focus (intro w; go_simp; done)); go_simp; go_big_quiet_on)
                             | (go_big_quiet_op; go_big_quiet_on)
                             | (refine quiet_val ?_ ?_ ?_
                                rotate_left
                                · intro w; go_simp; rfl
                                go_simp; go_big_quiet_on)))
                      refine wpQuiet_nil ?_
                      intro V hV
                      have HV := Lib.hid hV
                      clear hV
                      go_wp2_with fail
                      go_roundw
                      case rel => exact ⟨k + 1, bb, by go_num, rfl, by omega, HMB2.out, HV.out⟩
                      case measure => simp [intOf]; omega
                · have k1 : decide (k < n) = false := by simp; omega
                  have hkn' : k = L.length := by rw [← HN.out]; omega
                  have HMB2 : Hid (MaxB x.v x.l L L.length bb) := by rw [← hkn']; exact HMB.out
                  clear hkn hkn' HMB
                  rcases HCS.out with ⟨h1, h2⟩ | ⟨z, h1, h2⟩
                  · have e1 : r1 = 0 := congrArg Prod.fst h1
                    have e2 : r2 = 210 := congrArg Prod.snd h1
                    have e3 := HMB2.out.none h2
                    subst e1; subst e2; subst e3
                    clear h1 h2 HCS
                    go_wp2_with fail
                    go_loopw [18] (fun iv wr => ∃ k : Nat, iv = .int .i64 (k : Int) ∧ k ≤ n ∧ Away [] w9 wr) (fun iv _ => n - (intOf iv).toNat)
                    case atStart => exact ⟨0, rfl, Nat.zero_le _, HC.out⟩
                    case round =>
                      obtain ⟨k, rfl, hk, haw⟩ := hrel
                      replace HC := Lib.hid haw
                      clear haw
                      by_cases hkn : k < n
                      · have k1 : decide (k < n) = true := by simp; omega
                        have k0 : (k : Int) < (n : Int) := by omega
                        clear hkn
                        go_wp2_with fail
                        refine wp_region_cls (C := fun w' => Away [] w9 w') (by kernel_rfl) (by kernel_rfl) (by exact HC.out.drew) ?_
                        repeat (first
                          | go_big_quiet_skip
                          | (go_big_quiet_want
                             first
                               | (go_big_quiet_op; go_big_quiet_on)
                               | (refine quiet_val ?_ ?_ ?_
                                  rotate_left
                                  · intro w; go_simp; rfl
                                  go_simp; go_big_quiet_on)))
                        refine wpQuiet_nil ?_
                        intro V hV
                        have HV := Lib.hid hV
                        clear hV
                        go_wp2_with fail
                        go_roundw
                        case rel => exact ⟨k + 1, by go_num, by omega, HV.out⟩
                        case measure => simp [intOf]; omega
                      · have k1 : decide (k < n) = false := by simp; omega
                        clear hkn
                        go_wp2_with fail
                        go_roundw
                        case rel => exact ⟨i + 1, by go_num, by omega, HC.out⟩
                        case measure => simp [intOf]; omega
                  · have e1 : r1 = z.k := congrArg Prod.fst h1
                    have e2 : r2 = 0 := congrArg Prod.snd h1
                    have e3 := HMB2.out.best HALL.out h2
                    have HBE := Lib.hid h2
                    have hz0 : ¬ (bb < 0) := by rw [e3]; have := may_b (HALL.out z h2.mem); omega
                    have hz1 : decide (bb < 0) = false := by simpa using hz0
                    subst e2
                    have HE1 := Lib.hid e1
                    have HE3 := Lib.hid e3
                    clear h1 h2 e1 e3 HCS hz0
                    go_wp2_with fail
                    go_loopw [18] (fun iv wr => ∃ k : Nat, iv = .int .i64 (k : Int) ∧ k ≤ n ∧ Away [] w9 wr) (fun iv _ => n - (intOf iv).toNat)
                    case atStart => exact ⟨0, rfl, Nat.zero_le _, HC.out⟩
                    case round =>
                      obtain ⟨k, rfl, hk, haw⟩ := hrel
                      replace HC := Lib.hid haw
                      clear haw
                      by_cases hkn : k < n
                      · have k1 : decide (k < n) = true := by simp; omega
                        have k0 : (k : Int) < (n : Int) := by omega
                        obtain ⟨y, hy, hym⟩ := get_of (show k < L.length by rw [← HN.out]; omega)
                        have HYO := Lib.hid (HOK.out y hym)
                        have HYM := Lib.hid hym
                        have HLI := Lib.hid (fun w => lies_c HXO.out.1 HXO.out.2 HVA.out HYO.out (HALL.out y hym) w)
                        rcases HSH.out with he | ⟨b, o, ha, hrg⟩
                        · exfalso; rw [he] at hy; simp at hy
                        subst ha
                        have HYR : Hid (∀ w', Away [] w9 w' → w'.rangeAt b (o + k * 19) (listD y)) := fun w' hw' => range_away (HA.out.trans hw') (by simp) (hrg k y hy)
                        obtain ⟨q, hq⟩ : ∃ q, q = hitR x.v x.l y := ⟨_, rfl⟩
                        rw [← hq] at HLI
                        have HQ := Lib.hid hq
                        clear hq hy hym hrg hkn
                        cases q
                        · go_wp2_with fail
                          refine wp_region_cls (C := fun w' => Away [] w9 w') (by kernel_rfl) (by kernel_rfl) (by exact HC.out.drew) ?_
                          repeat (first
                            | go_big_quiet_skip
                            | (go_big_quiet_want
                               first
                                 | (refine quiet_ixA _ _ rfl db do_ m dcap i _ rfl rfl rfl (by omega) ?_; go_simp; go_big_quiet_on)
                                 | (refine quiet_ixR _ _ rfl b o n cap k _ rfl rfl rfl (by omega) ?_; go_simp; go_big_quiet_on)
                                 | (refine quiet_ldAm _ rfl db (do_ + i * 17) rfl x.v x.l HXO.out.1 (fun w' h => HXR.out w' h) ?_; go_simp; go_big_quiet_on)
                                 | (refine quiet_ldR _ rfl b (o + k * 19) rfl y HYO.out (fun w' h => HYR.out w' h) ?_; go_simp; go_big_quiet_on)
                                 | (refine quiet_ld3 _ rfl ⟨b, o + k * 19 + 17, none⟩ rfl y.b (fun w' h => range_b (HYR.out w' h) HYO.out) ?_; go_simp; go_big_quiet_on)
                                 | (refine quiet_ld3 _ rfl ⟨b, o + k * 19 + 18, none⟩ rfl y.k (fun w' h => range_k (HYR.out w' h) HYO.out) ?_; go_simp; go_big_quiet_on)
                                 | (refine quiet_call 13 #[.agg (csA x.v x.l), .agg (csD y)] (.bool false) ?_ (fun W hW => (HLI.out W).mono (fun _ _ h => ⟨h.1, hW.trans h.2⟩)) ?_; (focus (intro w; go_simp; done)); go_simp; go_big_quiet_on)
                                 | (refine quiet_call 13 #[.agg (csA x.v x.l), .agg (csD y)] (.bool true) ?_ (fun W hW => (HLI.out W).mono (fun _ _ h => ⟨h.1, hW.trans h.2⟩)) ?_; (focus (intro w; go_simp; done)); go_simp; go_big_quiet_on)
                                 | (go_big_quiet_op; go_big_quiet_on)
                                 | (refine quiet_val ?_ ?_ ?_
                                    rotate_left
                                    · intro w; go_simp; rfl
                                    go_simp; go_big_quiet_on)))
                          refine wpQuiet_nil ?_
                          intro V hV
                          have HV := Lib.hid hV
                          clear hV
                          go_wp2_with fail
                          go_roundw
                          case rel => exact ⟨k + 1, by go_num, by omega, HV.out⟩
                          case measure => simp [intOf]; omega
                        · by_cases hyb : y.b = bb
                          · have HYZ : Hid (y = z) := best_link HMY.out HBE.out HYM.out HQ.out.symm (by rw [hyb]; exact HE3.out)
                            have hyk : (y.k != r1) = false := by rw [HYZ.out, HE1.out]; simp
                            have hyk2 : (y.k == r1) = true := by rw [HYZ.out, HE1.out]; simp
                            have hyb2 : (y.b == bb) = true := by simpa using hyb
                            clear hyb
                            go_wp2_with fail
                            refine wp_region_cls (C := fun w' => Away [] w9 w') (by kernel_rfl) (by kernel_rfl) (by exact HC.out.drew) ?_
                            repeat (first
                              | go_big_quiet_skip
                              | (go_big_quiet_want
                                 first
                                   | (refine quiet_ixA _ _ rfl db do_ m dcap i _ rfl rfl rfl (by omega) ?_; go_simp; go_big_quiet_on)
                                   | (refine quiet_ixR _ _ rfl b o n cap k _ rfl rfl rfl (by omega) ?_; go_simp; go_big_quiet_on)
                                   | (refine quiet_ldAm _ rfl db (do_ + i * 17) rfl x.v x.l HXO.out.1 (fun w' h => HXR.out w' h) ?_; go_simp; go_big_quiet_on)
                                   | (refine quiet_ldR _ rfl b (o + k * 19) rfl y HYO.out (fun w' h => HYR.out w' h) ?_; go_simp; go_big_quiet_on)
                                   | (refine quiet_ld3 _ rfl ⟨b, o + k * 19 + 17, none⟩ rfl y.b (fun w' h => range_b (HYR.out w' h) HYO.out) ?_; go_simp; go_big_quiet_on)
                                   | (refine quiet_ld3 _ rfl ⟨b, o + k * 19 + 18, none⟩ rfl y.k (fun w' h => range_k (HYR.out w' h) HYO.out) ?_; go_simp; go_big_quiet_on)
                                   | (refine quiet_call 13 #[.agg (csA x.v x.l), .agg (csD y)] (.bool false) ?_ (fun W hW => (HLI.out W).mono (fun _ _ h => ⟨h.1, hW.trans h.2⟩)) ?_; (focus (intro w; go_simp; done)); go_simp; go_big_quiet_on)
                                   | (refine quiet_call 13 #[.agg (csA x.v x.l), .agg (csD y)] (.bool true) ?_ (fun W hW => (HLI.out W).mono (fun _ _ h => ⟨h.1, hW.trans h.2⟩)) ?_; (focus (intro w; go_simp; done)); go_simp; go_big_quiet_on)
                                   | (go_big_quiet_op; go_big_quiet_on)
                                   | (refine quiet_val ?_ ?_ ?_
                                      rotate_left
                                      · intro w; go_simp; rfl
                                      go_simp; go_big_quiet_on)))
                            refine wpQuiet_nil ?_
                            intro V hV
                            have HV := Lib.hid hV
                            clear hV
                            go_wp2_with fail
                            go_roundw
                            case rel => exact ⟨k + 1, by go_num, by omega, HV.out⟩
                            case measure => simp [intOf]; omega
                          · have hyb2 : (y.b == bb) = false := by simpa using hyb
                            clear hyb
                            go_wp2_with fail
                            refine wp_region_cls (C := fun w' => Away [] w9 w') (by kernel_rfl) (by kernel_rfl) (by exact HC.out.drew) ?_
                            repeat (first
                              | go_big_quiet_skip
                              | (go_big_quiet_want
                                 first
                                   | (refine quiet_ixA _ _ rfl db do_ m dcap i _ rfl rfl rfl (by omega) ?_; go_simp; go_big_quiet_on)
                                   | (refine quiet_ixR _ _ rfl b o n cap k _ rfl rfl rfl (by omega) ?_; go_simp; go_big_quiet_on)
                                   | (refine quiet_ldAm _ rfl db (do_ + i * 17) rfl x.v x.l HXO.out.1 (fun w' h => HXR.out w' h) ?_; go_simp; go_big_quiet_on)
                                   | (refine quiet_ldR _ rfl b (o + k * 19) rfl y HYO.out (fun w' h => HYR.out w' h) ?_; go_simp; go_big_quiet_on)
                                   | (refine quiet_ld3 _ rfl ⟨b, o + k * 19 + 17, none⟩ rfl y.b (fun w' h => range_b (HYR.out w' h) HYO.out) ?_; go_simp; go_big_quiet_on)
                                   | (refine quiet_ld3 _ rfl ⟨b, o + k * 19 + 18, none⟩ rfl y.k (fun w' h => range_k (HYR.out w' h) HYO.out) ?_; go_simp; go_big_quiet_on)
                                   | (refine quiet_call 13 #[.agg (csA x.v x.l), .agg (csD y)] (.bool false) ?_ (fun W hW => (HLI.out W).mono (fun _ _ h => ⟨h.1, hW.trans h.2⟩)) ?_; (focus (intro w; go_simp; done)); go_simp; go_big_quiet_on)
                                   | (refine quiet_call 13 #[.agg (csA x.v x.l), .agg (csD y)] (.bool true) ?_ (fun W hW => (HLI.out W).mono (fun _ _ h => ⟨h.1, hW.trans h.2⟩)) ?_; (focus (intro w; go_simp; done)); go_simp; go_big_quiet_on)
                                   | (go_big_quiet_op; go_big_quiet_on)
                                   | (refine quiet_val ?_ ?_ ?_
                                      rotate_left
                                      · intro w; go_simp; rfl
                                      go_simp; go_big_quiet_on)))
                            refine wpQuiet_nil ?_
                            intro V hV
                            have HV := Lib.hid hV
                            clear hV
                            go_wp2_with fail
                            go_roundw
                            case rel => exact ⟨k + 1, by go_num, by omega, HV.out⟩
                            case measure => simp [intOf]; omega
                      · have k1 : decide (k < n) = false := by simp; omega
                        clear hkn
                        go_wp2_with fail
                        go_roundw
                        case rel => exact ⟨i + 1, by go_num, by omega, HC.out⟩
                        case measure => simp [intOf]; omega
          · have i1 : decide (i < m) = false := by simp; omega
            clear him
            go_wp2_with fail
            go_ret
            exact ⟨rfl, (HA.out.trans HB.out).to_below⟩
    · have ek : ((k + 1 : Nat) : Int) - 1 = (k : Int) := by omega
      rw [ek]
      have j1 : decide ((k : Int) ≥ 0) = true := by simp
      obtain ⟨x, hx, hxm⟩ := get_of (show k < L.length by rw [← HN.out]; omega)
      have HXO := Lib.hid (HOK.out x hxm)
      rcases HSH.out with he | ⟨b, o, ha, hrg⟩
      · exfalso; rw [he] at hx; simp at hx
      subst ha
      have HRG := Lib.hid (range_away (HA.out.trans HA3.out) (by simp) (hrg k x hx))
      have HRV := Lib.hid (rev_step hx)
      obtain ⟨ra, rc, rfl, -⟩ := hown.sl
      obtain ⟨p, hp⟩ : ∃ p, p = (List.drop (k + 1) L).reverse.length := ⟨_, rfl⟩
      rw [← hp] at HO HNW ⊢
      have HPL : Hid ((List.drop (k + 1) L).reverse.length < 3518437208883) := by
        show _ < _
        rw [List.length_reverse, List.length_drop, ← HN.out]; omega
      clear hrg hx hxm hown hp
      go_wp2_with (first
        | (refine wpList_ixR rfl _ _ rfl b o n cap k rfl rfl (by omega) ?_)
        | (refine wpList_loadE rfl _ rfl b (o + k * 19) rfl x HXO.out (by exact HRG.out) ?_)
        | (refine wpList_buildS rfl _ rfl x rfl HXO.out ?_; refine Hid.out ?_))
      refine Lib.hid ?_
      intro gb w6 hgb hbx haw
      have HB6 := Lib.hid hbx
      have HA6 := Lib.hid (HA3.out.trans haw)
      replace HO := Lib.hid (HO.out.on haw)
      clear hbx haw hgb
      go_wp2_with (refine wpList_appD rfl _ _ rfl _ _ rfl HO.out gb 1 rfl x HB6.out HXO.out HPL.out ?_; refine Hid.out ?_)
      refine Lib.hid ?_
      intro v' w7 hown hgr hmov
      have HO7 : Hid (LstD w7 v' (L.drop k).reverse) := by rw [← HRV.out]; exact hown
      have HA7 := Lib.hid (HA6.out.grown hgr (fun k hk => .inr (HNW.out k hk)))
      have HN7 := Lib.hid (HNW.out.moved hmov HA6.out.size)
      clear hown hgr hmov
      go_wp2_with fail
      go_roundw
      case rel => exact ⟨k, by go_num, by omega, HO7.out, HN7.out, HA7.out⟩
      case measure => simp [intOf]; try omega
end routeNets
namespace routeNets
theorem lifted (os : Os) (started : os.Started) (H : Type) (enc : TypeId × Value → H) :
    ReturnsInHanded {} Try.checked os 3 .any (Rows.routeNetsSpec.pre6 enc Try.prog Try.f3 Rows.routeNetsRow.domain false) (Rows.routeNetsSpec.post enc Try.prog Try.f3 false true false false) := by
  refine returnsInHanded_of_change_shaped (C := Try.checked) ownKn started (by kernel_rfl) Try.func3
    (ChangeSpec.witness6 (enc := enc) (C := Try.checked) false ⟨#[], #[.slice none 0 0, .slice none 0 0], []⟩ 8 (by kernel_rfl) (by kernel_rfl) (by kernel_rfl) (by kernel_rfl)) ?_
  intro W base args ds gs before hval0 hW _ hsz0 hsh0 _
  have hsz : (DataW.weightsEach Try.prog (Try.f3.params.toList ++ Rows.routeNetsSpec.plain.varTypes Try.prog) (ds ++ gs)).all (· ≤ reachBytes) = true := hsz0
  clear hsz0
  have hval : ∀ (j : Nat) t v, Try.f3.params[j]? = some t → args[j]? = some v → Value.okWide Try.prog W .any base t v := hval0
  have hW' := hW
  obtain ⟨p, q, hA0, hV, rfl, hfz, hnd⟩ := hW
  have hA : DataW.TrodAll enc Try.prog W 0 (fun _ => true) true Try.f3.params.toList args.toList ds p := hA0
  rw [Try.params3] at hA hval hsz
  obtain ⟨v0, vs0, d0, ds0, p0, q0, hargs, rfl, rfl, h0, r0⟩ := trodAll_cons hA
  obtain ⟨v1, vs1, d1, ds1, p1, q1, rfl, rfl, rfl, h1, r1⟩ := trodAll_cons r0
  obtain ⟨rfl, rfl, rfl⟩ := trodAll_nil r1
  obtain rfl : args = #[v0, v1] := by cases args; simp_all
  have hV2 : DataW.TrodVars enc Try.prog W (fun _ => true) Rows.routeNetsSpec.vars gs q := hV
  obtain ⟨rfl, rfl⟩ := trodVars_none hV2
  have k0 := h0
  have lt0 : ∀ x ∈ p0, x.block < W.heap.size := by obtain ⟨m, hm⟩ := k0; exact DataW.trod_lt m _ _ _ hm
  have z0 : ∀ m ∈ d0.weights Try.prog 22, m ≤ reachBytes := fun m hm => by
    have := List.all_eq_true.1 hsz m (DataW.weights_mem_each (j := 0) (t := 22) rfl rfl m hm)
    simpa using this
  obtain ⟨a0, len0, cap0, rfl⟩ := okWide_slice Try.underlying22 (hval 0 22 v0 rfl rfl)
  obtain ⟨l0, rfl, w0, b0⟩ := open_routes h0 z0 lt0
  have k1 := h1
  have lt1 : ∀ x ∈ p1, x.block < W.heap.size := by obtain ⟨m, hm⟩ := k1; exact DataW.trod_lt m _ _ _ hm
  have z1 : ∀ m ∈ d1.weights Try.prog 23, m ≤ reachBytes := fun m hm => by
    have := List.all_eq_true.1 hsz m (DataW.weights_mem_each (j := 1) (t := 23) rfl rfl m hm)
    simpa using this
  obtain ⟨a1, len1, cap1, rfl⟩ := okWide_slice Try.underlying23 (hval 1 23 v1 rfl rfl)
  obtain ⟨l1, rfl, w1, b1⟩ := open_addrs h1 z1 lt1
  clear hA0 hval0
  refine (walk a0 l0 cap0 a1 l1 cap1 W w0 b0 w1 b1 (glob_of hsh0)).mono fun e W' ⟨he, bel⟩ => ?_
  subst he
  exact ⟨_, rfl, _, _, _, [], _, [], hW', trodAll_mk1 (shut_bool Try.underlying4 _), (trodAll_cons_mk (Below.trod laidOut (by kernel_rfl) (of_decide_eq_true (by kernel_rfl)) k0 bel lt0) (trodAll_cons_mk (Below.trod laidOut (by kernel_rfl) (of_decide_eq_true (by kernel_rfl)) k1 bel lt1) trodAll_mk0)), rfl, bel.frame _, fun h => by cases h⟩
theorem over : Rows.routeNetsRow.holds Try.pinned (OpenSpec.ofChange Rows.routeNetsSpec) :=
  OpenClaim.holds_of_wide 3 Try.f3 rfl rfl rfl rfl rfl rfl rfl ⟨rfl, rfl, rfl, rfl, rfl⟩ rfl rfl rfl rfl rfl (by kernel_rfl) Try.func3 (by kernel_rfl)
    (of_decide_eq_true (by kernel_rfl)) (by unfold Func.isWrapper; first | (rw [if_pos (by decide +kernel)]; kernel_rfl) | (rw [if_neg (by decide +kernel)]; exact ⟨rfl, rfl⟩))
    (fun os started H enc _ => lifted os started H enc)
end routeNets
theorem routeNets_holds : Rows.RouteNetsSaid := routeNets.over
#print axioms routeNets_holds
end Go.Proofs.Ytoifolmcdkfniaa
