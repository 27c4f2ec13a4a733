/-
  IcmpTurned: one bit changed is told.
-/
import Derived.Test.YtbgpjhekohabiaaLm
import Derived.Test.YtbgpjhekohabiaaMend
import Derived.Test.YtbgpjhekohabiaaKit
import Derived.Deep.CondSized
namespace Go.Proofs.Ytbgpjhekohabiaa
open Go.ChangeShapes Go.WideShapes Go.ChangeAt Go.RowKit Go.Deep Num
set_option linter.unusedVariables false
set_option maxHeartbeats 8000000
set_option maxRecDepth 100000

theorem xor_byte (j : Nat) (x : Int) (hj : j < 8) (h0 : 0 ≤ x) (h1 : x ≤ 255) : (0 ≤ bits .xor .u8 x ((2 ^ j : Nat) : Int) ∧ bits .xor .u8 x ((2 ^ j : Nat) : Int) ≤ 255) ∧ bits .xor .u8 x ((2 ^ j : Nat) : Int) ≠ x := by
  have hp : (2 : Nat) ^ j < 256 := by
    have : 2 ^ j < 2 ^ 8 := Nat.pow_lt_pow_right (by omega) hj
    omega
  have hp1 : 1 ≤ (2 : Nat) ^ j := Nat.one_le_two_pow
  rw [u8_xor x _ h0 (by omega) (by omega) (by omega)]
  obtain ⟨n, rfl⟩ := Int.eq_ofNat_of_zero_le h0
  simp only [Int.toNat_natCast]
  have hx : n ^^^ 2 ^ j < 2 ^ 8 := Nat.xor_lt_two_pow (by omega) (by omega)
  refine ⟨⟨by omega, by omega⟩, fun e => ?_⟩
  have e' : n ^^^ 2 ^ j = n := by omega
  have : n ^^^ (n ^^^ 2 ^ j) = n ^^^ n := by rw [e']
  rw [← Nat.xor_assoc, Nat.xor_self, Nat.zero_xor] at this
  omega
namespace icmpTurned
theorem walk (s0 t0 : Ax) (m0 : Mg) (mv : Value) (n : Int) (W : World) (hs0 : WfA s0) (ht0 : WfA t0) (hm : Dam W m0 mv) (hml : m0.d.length ≤ 140737488351232) (hn : (Lit.int .i64 n).wf = true) :
    Calls Try.prog 4 #[.agg (csA s0.v s0.l), .agg (csA t0.v t0.l), .agg (csM m0 mv), .int .i64 n] W fun e W' => e = .returned (.bool true) ∧ Below W.heap.size W W' := by
  have HS0 := Lib.hid hs0; have HT0 := Lib.hid ht0
  have HM := Lib.hid hm
  have HA : Hid (Away [] W W) := Away.refl _ _
  obtain ⟨hn0, hn1⟩ := wf64 hn
  clear hs0 ht0 hm hn
  go_enter Try.func4, Try.ntmps4
  go_wp2_with (refine wpList_box24 rfl _ rfl s0 rfl ?_; refine Hid.out ?_)
  refine Lib.hid ?_
  intro g4 w1 hg_g4 hb haw
  replace HA := Lib.hid (HA.out.on haw)
  clear haw
  have H4 := Lib.hid hb
  have hl_g4 := hb.lt
  clear hb
  go_wp2_with (refine wpList_box24 rfl _ rfl t0 rfl ?_; refine Hid.out ?_)
  refine Lib.hid ?_
  intro g5 w2 hg_g5 hb haw
  replace HA := Lib.hid (HA.out.on haw)
  replace H4 := Lib.hid (H4.out.on haw)
  clear haw
  have H5 := Lib.hid hb
  have hl_g5 := hb.lt
  clear hb
  go_wp2_with (refine wpList_boxM rfl _ rfl m0 mv rfl ?_; refine Hid.out ?_)
  refine Lib.hid ?_
  intro g6 w3 hg_g6 hb haw
  replace HA := Lib.hid (HA.out.on haw)
  replace H4 := Lib.hid (H4.out.on haw)
  replace H5 := Lib.hid (H5.out.on haw)
  clear haw
  have H6 := Lib.hid hb
  have hl_g6 := hb.lt
  clear hb
  go_wp2_with fail
  refine (alive_c _).mono ?_
  rintro E w4 ⟨rfl, haw⟩
  replace HA := Lib.hid (HA.out.on haw)
  replace H4 := Lib.hid (H4.out.on haw)
  replace H5 := Lib.hid (H5.out.on haw)
  replace H6 := Lib.hid (H6.out.on haw)
  clear haw
  go_wp2_with (first | (refine wpList_loadM rfl _ rfl g6 rfl m0 mv (by exact H6.out) ?_))
  refine (mended_c m0 mv _ (by exact HM.out.on HA.out)).mono ?_
  rintro E w5 ⟨q, qv, rfl, hfq, hsl, hnq, haw⟩
  replace HA := Lib.hid (HA.out.on haw)
  replace H4 := Lib.hid (H4.out.on haw)
  replace H5 := Lib.hid (H5.out.on haw)
  replace H6 := Lib.hid (H6.out.on haw)
  clear haw
  have HQ := Lib.hid hfq; have HD := Lib.hid hsl; have HNQ := Lib.hid hnq
  clear hfq hsl hnq
  clear H6
  obtain ⟨qa, qc, hqv, hq2, hq3, -⟩ := HD.out
  subst hqv
  go_wp2_with (refine wpList_newM rfl rfl rfl _ _ rfl q (.slice qa q.d.length qc) (fun _ => rfl) (fun _ => rfl) rfl ?_; refine Hid.out ?_)
  refine Lib.hid ?_
  intro g9 w6 hg_g9 hb haw
  replace HA := Lib.hid (HA.out.on haw)
  replace H4 := Lib.hid (H4.out.on haw)
  replace H5 := Lib.hid (H5.out.on haw)
  replace HD := Lib.hid (HD.out.on haw)
  clear haw
  have H9 := Lib.hid hb
  have hl_g9 := hb.lt
  clear hb
  obtain ⟨s, hs⟩ : ∃ s, s = adrP s0 (decide (q.v = 6)) := ⟨_, rfl⟩
  obtain ⟨t, ht⟩ : ∃ t, t = adrP t0 (decide (q.v = 6)) := ⟨_, rfl⟩
  have KP : Hid (∀ w, Calls Try.prog 9 #[.int .i64 q.v, .agg (csA s0.v s0.l), .agg (csA t0.v t0.l)] w fun E w' => PairOut w s t E w') := fun w => by rw [hs, ht]; exact lpair_c q.v s0 t0 w HS0.out HT0.out
  have HS : Hid (WfA s) := by rw [hs]; exact adrP_wf HS0.out _
  have HT : Hid (WfA t) := by rw [ht]; exact adrP_wf HT0.out _
  have HPR : Hid (pairP s t = true) := by rw [hs, ht]; exact adrP_pair HS0.out HT0.out _
  have HF : Hid (FitM s q) := by rw [hs]; exact HQ.out.fit s0
  have HWF := Lib.hid HQ.out.wf
  clear hs ht
  have cv := H9.out.c0
  go_wp2_with (first | (refine wpList_loadX rfl _ rfl g4 rfl s0 (by exact H4.out) HS0.out ?_) | (refine wpList_loadX rfl _ rfl g5 rfl t0 (by exact H5.out) HT0.out ?_))
  clear cv
  refine (KP.out _).mono ?_
  rintro E w7 ⟨rfl, haw⟩
  replace HA := Lib.hid (HA.out.on haw)
  replace H4 := Lib.hid (H4.out.on haw)
  replace H5 := Lib.hid (H5.out.on haw)
  replace HD := Lib.hid (HD.out.on haw)
  replace H9 := Lib.hid (H9.out.on haw)
  clear haw
  clear H4 H5
  have hl9b := H9.out.lt
  have hszb := HA.out.size
  have HDO := Lib.hid HD.out.old
  go_wp2_with (refine wpList_allocX rfl rfl ?_; refine Hid.out ?_)
  refine Lib.hid ?_
  intro g10 w8 hg_g10 hb haw
  replace HA := Lib.hid (HA.out.on haw)
  replace HD := Lib.hid (HD.out.on haw)
  replace H9 := Lib.hid (H9.out.on haw)
  clear haw
  have H10 := Lib.hid hb
  have hl_g10 := hb.lt
  clear hb
  go_wp2_with (refine wpList_allocX rfl rfl ?_; refine Hid.out ?_)
  refine Lib.hid ?_
  intro g11 w9 hg_g11 hb haw
  replace HA := Lib.hid (HA.out.on haw)
  replace HD := Lib.hid (HD.out.on haw)
  replace H9 := Lib.hid (H9.out.on haw)
  replace H10 := Lib.hid (H10.out.on haw)
  clear haw
  have H11 := Lib.hid hb
  have hl_g11 := hb.lt
  clear hb
  have hlt9 : g9 < g10 := by omega
  have hlt10 : g10 < g11 := by omega
  have hsz0 := HA.out.size
  go_wp2_with (refine wpList_storeX rfl _ _ rfl g10 rfl s rfl zeroAx (by exact H10.out) HS.out.n rfl ?_; refine Hid.out ?_)
  refine Lib.hid ?_
  intro w10 hb haw
  replace HA := Lib.hid (HA.out.next haw (fun x hx => .inr (by simp at hx; omega)))
  replace HD := Lib.hid (HD.out.away haw (fun hl k hk => by have := HDO.out hl k hk; simp; omega))
  replace H9 := Lib.hid (H9.out.away haw (by simp; omega))
  replace H11 := Lib.hid (H11.out.away haw (by simp; omega))
  replace H10 := Lib.hid hb
  clear hb haw
  go_wp2_with (refine wpList_storeX rfl _ _ rfl g11 rfl t rfl zeroAx (by exact H11.out) HT.out.n rfl ?_; refine Hid.out ?_)
  refine Lib.hid ?_
  intro w11 hb haw
  replace HA := Lib.hid (HA.out.next haw (fun x hx => .inr (by simp at hx; omega)))
  replace HD := Lib.hid (HD.out.away haw (fun hl k hk => by have := HDO.out hl k hk; simp; omega))
  replace H9 := Lib.hid (H9.out.away haw (by simp; omega))
  replace H10 := Lib.hid (H10.out.away haw (by simp; omega))
  replace H11 := Lib.hid hb
  clear hb haw
  go_wp2_with (first | (refine wpList_loadX rfl _ rfl g10 rfl s (by exact H10.out) HS.out ?_) | (refine wpList_loadX rfl _ rfl g11 rfl t (by exact H11.out) HT.out ?_) | (refine wpList_loadM rfl _ rfl g9 rfl q _ (by exact H9.out) ?_))
  obtain ⟨b, hb⟩ : ∃ b, b = mlayP s t q := ⟨_, rfl⟩
  have HBE : Hid (mbuildP s t q = (b, 0)) := by show _ = _; rw [hb]; exact mbuild_ok HPR.out HF.out
  have HBB : Hid (Bytes b) := by rw [hb]; exact mlay_bytes HS.out HT.out HF.out
  have HBN : Hid (b.length = 8 + q.d.length) := by show _ = _; rw [hb]; exact mlay_len s t q
  have HBO : Hid (∀ k X, k < b.length → 0 ≤ X → X ≤ 255 → X ≠ b[k]?.getD 0 → mparseP s t (b.set k X) = (zeroMg, 52)) := by
    intro k X h1 h2 h3 h4; rw [hb] at h1 h4 ⊢; exact mone_byte HS.out HT.out HPR.out HF.out k h1 X h2 h3 h4
  clear hb
  refine (build_c s t q (.slice qa q.d.length qc) _ HS.out HT.out ⟨HWF.out, by exact HD.out⟩).mono ?_
  rw [HBE.out]
  rintro E w12 ⟨v, rfl, hown, hnew, haw⟩
  have hsb := HA.out.size; have hl10 := H10.out.lt; have hl11 := H11.out.lt
  replace HA := Lib.hid (HA.out.on haw)
  replace HD := Lib.hid (HD.out.on haw)
  replace H9 := Lib.hid (H9.out.on haw)
  replace H10 := Lib.hid (H10.out.on haw)
  replace H11 := Lib.hid (H11.out.on haw)
  clear haw
  have hb65 : b.length ≤ 65515 := by have := HBN.out; have := HQ.out.n; omega
  have hb8 : 8 ≤ b.length := by have := HBN.out; omega
  replace hown : Owns _ v b := hown
  obtain ⟨gb, cb, rfl, hcb⟩ := hown.block (by intro h; rw [h] at hb8; simp at hb8)
  have hgb := hnew gb rfl
  have HO := Lib.hid hown
  clear hown hnew
  clear H9 HD
  obtain ⟨R, hR⟩ : ∃ R, Int.tmod n (8 * (b.length : Int)) = R := ⟨_, rfl⟩
  have hRb : -(8 * (b.length : Int)) < R ∧ R < 8 * (b.length : Int) := by
    rw [← hR]
    have h1 := Int.tmod_lt_of_pos n (b := 8 * (b.length : Int)) (by omega)
    have h2 := Int.lt_tmod_of_pos n (b := 8 * (b.length : Int)) (by omega)
    omega
  have hne : ¬ (8 * (b.length : Int) = 0) := by omega
  have hne2 : ¬ ((b.length : Int) < 8) := by omega
  go_upto_if 49 with fail
  go_cut [14] (fun v wc => ∃ k : Nat, v = .int .i64 (k : Int) ∧ (k : Int) < 8 * (b.length : Int) ∧ wc = w12)
  case first =>
    by_cases h0 : R < 0
    · go_wp2_with fail
      go_meet
      exact ⟨(-R).toNat, by congr 1; omega, by omega, rfl⟩
    · go_wp2_with fail
      go_meet
      exact ⟨R.toNat, by congr 1; omega, by omega, rfl⟩
  case rest =>
  obtain ⟨k, rfl, hkL, rfl⟩ := hcut
  clear hR hRb
  obtain ⟨i, hi⟩ : ∃ i, i = k / 8 := ⟨_, rfl⟩
  obtain ⟨j, hj⟩ : ∃ j, j = k % 8 := ⟨_, rfl⟩
  have hiL : i < b.length := by omega
  have hj8 : j < 8 := by omega
  have hq : (k : Int) / 8 = (i : Int) := by omega
  have hm : (k : Int) % 8 = (j : Int) := by omega
  clear hi hj
  obtain ⟨old, hold⟩ : ∃ o, o = b[i]?.getD 0 := ⟨_, rfl⟩
  have hob := HBB.out.getD i
  rw [← hold] at hob
  obtain ⟨X, hX⟩ : ∃ X, X = bits .xor .u8 old ((2 ^ j : Nat) : Int) := ⟨_, rfl⟩
  have hxb := xor_byte j old hj8 hob.1 hob.2
  rw [← hX] at hxb
  have HPE := Lib.hid (HBO.out i X hiL hxb.1.1 hxb.1.2 (by rw [← hold]; exact hxb.2))
  have HOLD := Lib.hid hold
  have HX := Lib.hid hX
  have HXB := Lib.hid hxb
  clear hold hX hxb
  have hcell := HO.out.cells i hiL
  have c1 : wc.cell? ⟨gb, i, none⟩ = some (.int .u8 old) := by rw [hcell.1, ← HOLD.out]
  have c2 := hcell.2
  have HOW := Lib.hid (HO.out.set rfl i X)
  have HAW := Lib.hid ((Away.refl [gb] wc).setCell (p := ⟨gb, i, none⟩) (.inl (by simp)) (.int .u8 X))
  clear hcell
  go_upto_region 11 with fail
  go_cut [] (fun wd => Owns wd (.slice (some ⟨gb, 0, none⟩) b.length cb) (b.set i X) ∧ Away [gb] wc wd)
  case first =>
    obtain rfl | rfl | rfl | rfl | rfl | rfl | rfl | rfl : j = 0 ∨ j = 1 ∨ j = 2 ∨ j = 3 ∨ j = 4 ∨ j = 5 ∨ j = 6 ∨ j = 7 := by omega
    · have hX : bits .xor .u8 old 1 = X := by rw [HX.out]; rfl
      simp only [Int.cast_ofNat_Int] at hm
      go_wp2_with fail
      go_region
      go_wp2_with fail
      go_meet
      exact ⟨HOW.out, HAW.out.drew⟩
    · have hX : bits .xor .u8 old 2 = X := by rw [HX.out]; rfl
      simp only [Int.cast_ofNat_Int] at hm
      go_wp2_with fail
      go_region
      go_wp2_with fail
      go_meet
      exact ⟨HOW.out, HAW.out.drew⟩
    · have hX : bits .xor .u8 old 4 = X := by rw [HX.out]; rfl
      simp only [Int.cast_ofNat_Int] at hm
      go_wp2_with fail
      go_region
      go_wp2_with fail
      go_meet
      exact ⟨HOW.out, HAW.out.drew⟩
    · have hX : bits .xor .u8 old 8 = X := by rw [HX.out]; rfl
      simp only [Int.cast_ofNat_Int] at hm
      go_wp2_with fail
      go_region
      go_wp2_with fail
      go_meet
      exact ⟨HOW.out, HAW.out.drew⟩
    · have hX : bits .xor .u8 old 16 = X := by rw [HX.out]; rfl
      simp only [Int.cast_ofNat_Int] at hm
      go_wp2_with fail
      go_region
      go_wp2_with fail
      go_meet
      exact ⟨HOW.out, HAW.out.drew⟩
    · have hX : bits .xor .u8 old 32 = X := by rw [HX.out]; rfl
      simp only [Int.cast_ofNat_Int] at hm
      go_wp2_with fail
      go_region
      go_wp2_with fail
      go_meet
      exact ⟨HOW.out, HAW.out.drew⟩
    · have hX : bits .xor .u8 old 64 = X := by rw [HX.out]; rfl
      simp only [Int.cast_ofNat_Int] at hm
      go_wp2_with fail
      go_region
      go_wp2_with fail
      go_meet
      exact ⟨HOW.out, HAW.out.drew⟩
    · have hX : bits .xor .u8 old 128 = X := by rw [HX.out]; rfl
      simp only [Int.cast_ofNat_Int] at hm
      go_wp2_with fail
      go_region
      go_wp2_with fail
      go_meet
      exact ⟨HOW.out, HAW.out.drew⟩
  case rest =>
  obtain ⟨hown8, haw⟩ := hcut
  clear HOW HAW c1 c2 HO
  replace HA := Lib.hid (HA.out.next haw (fun x hx => .inr (by simp at hx; omega)))
  replace H10 := Lib.hid (H10.out.away haw (by simp; omega))
  replace H11 := Lib.hid (H11.out.away haw (by simp; omega))
  clear haw
  have hcl : (b.set i X).length = b.length := by simp
  have HCB : Hid (Bytes (b.set i X)) := HBB.out.set i HXB.out.1.1 HXB.out.1.2
  obtain ⟨c, hc⟩ : ∃ c, c = b.set i X := ⟨_, rfl⟩
  rw [← hc] at hown8 hcl HCB HPE
  have HO := Lib.hid hown8
  have HCL := Lib.hid hcl
  clear hc hcl hown8
  rw [← HCL.out] at HO hcb hb65
  rw [← HCL.out]
  go_wp2_with (first | (refine wpList_loadX rfl _ rfl g10 rfl s (by exact H10.out) HS.out ?_) | (refine wpList_loadX rfl _ rfl g11 rfl t (by exact H11.out) HT.out ?_))
  refine (parse_c s t (some ⟨gb, 0, none⟩) c cb _ HS.out HT.out (by exact HO.out.row' (by omega) HCB.out) (by simp)).mono ?_
  rw [HPE.out]
  rintro E w13 ⟨dv, rfl, hown, hnew, haw⟩
  replace HA := Lib.hid (HA.out.on haw)
  replace H10 := Lib.hid (H10.out.on haw)
  replace H11 := Lib.hid (H11.out.on haw)
  clear haw
  have HDO2 := Lib.hid hown
  clear hown hnew
  obtain ⟨da, dc, rfl, -, -⟩ := HDO2.out.slc
  go_wp2_with (refine wpList_newM rfl rfl rfl _ _ rfl zeroMg (.slice da zeroMg.d.length dc) (fun _ => rfl) (fun _ => rfl) rfl ?_; refine Hid.out ?_)
  refine Lib.hid ?_
  intro g15 w14 hg_g15 hb haw
  replace HA := Lib.hid (HA.out.on haw)
  replace H10 := Lib.hid (H10.out.on haw)
  replace H11 := Lib.hid (H11.out.on haw)
  replace HDO2 := Lib.hid (HDO2.out.on haw)
  clear haw
  have H15 := Lib.hid hb
  have hl_g15 := hb.lt
  clear hb
  go_wp2_with (first | (refine wpList_loadM rfl _ rfl g15 rfl zeroMg _ (by exact H15.out) ?_))
  refine (sameM_yes zeroMg _ _ _ (by exact HDO2.out.sl Bytes.nil (by decide)) (by exact Sl.nil _)).mono ?_
  rintro E w15 ⟨rfl, haw⟩
  replace HA := Lib.hid (HA.out.on haw)
  replace H10 := Lib.hid (H10.out.on haw)
  replace H11 := Lib.hid (H11.out.on haw)
  replace HDO2 := Lib.hid (HDO2.out.on haw)
  replace H15 := Lib.hid (H15.out.on haw)
  clear haw
  go_wp2_with fail
  go_ret
  exact ⟨rfl, HA.out.to_below⟩
end icmpTurned
namespace icmpTurned
theorem lifted (os : Os) (started : os.Started) (H : Type) (enc : TypeId × Value → H) :
    ReturnsInHanded {} Try.checked os 4 .any (Rows.icmpTurnedSpec.pre6 enc Try.prog Try.f4 Rows.icmpTurnedRow.domain false) (Rows.icmpTurnedSpec.post enc Try.prog Try.f4 false true false false) := by
  refine returnsInHanded_of_change_sized (C := Try.checked) ownKn started (by kernel_rfl) Try.func4
    (ChangeSpec.witness6 (enc := enc) (C := Try.checked) false ⟨#[], #[.agg (csA 0 z16), .agg (csA 0 z16), .agg (csM zeroMg (.slice none 0 0)), .int .i64 0], []⟩ 8 (by kernel_rfl) (by kernel_rfl) (by kernel_rfl) (by kernel_rfl)) ?_
  intro W base args ds gs before hval0 hW _ hsz0 _
  have hsz : (DataW.weightsEach Try.prog (Try.f4.params.toList ++ Rows.icmpTurnedSpec.plain.varTypes Try.prog) (ds ++ gs)).all (· ≤ reachBytes) = true := hsz0
  clear hsz0
  have hval : ∀ (j : Nat) t v, Try.f4.params[j]? = some t → args[j]? = some v → Value.okWide Try.prog W .any base t v := hval0
  have hW' := hW
  obtain ⟨p, q, hA0, hV, rfl, hfz, hnd⟩ := hW
  have hA : DataW.TrodAll enc Try.prog W 0 (fun _ => true) true Try.f4.params.toList args.toList ds p := hA0
  rw [Try.params4] at hA hval hsz
  obtain ⟨v0, vs0, d0, ds0, p0, q0, hargs, rfl, rfl, h0, r0⟩ := trodAll_cons hA
  obtain ⟨v1, vs1, d1, ds1, p1, q1, rfl, rfl, rfl, h1, r1⟩ := trodAll_cons r0
  obtain ⟨v2, vs2, d2, ds2, p2, q2, rfl, rfl, rfl, h2, r2⟩ := trodAll_cons r1
  obtain ⟨v3, vs3, d3, ds3, p3, q3, rfl, rfl, rfl, h3, r3⟩ := trodAll_cons r2
  obtain ⟨rfl, rfl, rfl⟩ := trodAll_nil r3
  obtain rfl : args = #[v0, v1, v2, v3] := by cases args; simp_all
  have hV2 : DataW.TrodVars enc Try.prog W (fun _ => true) Rows.icmpTurnedSpec.vars gs q := hV
  obtain ⟨rfl, rfl⟩ := trodVars_none hV2
  have k0 := h0
  have lt0 : ∀ x ∈ p0, x.block < W.heap.size := by obtain ⟨m, hm⟩ := k0; exact DataW.trod_lt m _ _ _ hm
  have z0 : ∀ m ∈ d0.weights Try.prog 24, m ≤ reachBytes := fun m hm => by
    have := List.all_eq_true.1 hsz m (DataW.weights_mem_each (j := 0) (t := 24) rfl rfl m hm)
    simpa using this
  obtain ⟨x0, rfl, w0⟩ := open_ax (hval 0 24 v0 rfl rfl) h0
  have k1 := h1
  have lt1 : ∀ x ∈ p1, x.block < W.heap.size := by obtain ⟨m, hm⟩ := k1; exact DataW.trod_lt m _ _ _ hm
  have z1 : ∀ m ∈ d1.weights Try.prog 24, m ≤ reachBytes := fun m hm => by
    have := List.all_eq_true.1 hsz m (DataW.weights_mem_each (j := 1) (t := 24) rfl rfl m hm)
    simpa using this
  obtain ⟨x1, rfl, w1⟩ := open_ax (hval 1 24 v1 rfl rfl) h1
  have k2 := h2
  have lt2 : ∀ x ∈ p2, x.block < W.heap.size := by obtain ⟨m, hm⟩ := k2; exact DataW.trod_lt m _ _ _ hm
  have z2 : ∀ m ∈ d2.weights Try.prog 28, m ≤ reachBytes := fun m hm => by
    have := List.all_eq_true.1 hsz m (DataW.weights_mem_each (j := 2) (t := 28) rfl rfl m hm)
    simpa using this
  obtain ⟨x2, dv2, rfl, w2, dl2⟩ := open_mg (hval 2 28 v2 rfl rfl) h2 z2
  obtain ⟨a3, rfl, rfl, rfl, w3⟩ := open_int Try.underlying3 (hval 3 3 v3 rfl rfl) h3
  clear hA0 hval0
  refine (walk x0 x1 x2 dv2 a3 W w0 w1 w2 dl2 w3).mono fun e W' ⟨he, bel⟩ => ?_
  subst he
  exact ⟨_, rfl, _, _, _, [], _, [], hW', trodAll_mk1 (shut_bool Try.underlying4 _), (trodAll_cons_mk (Below.trod laidOut (by kernel_rfl) (of_decide_eq_true (by kernel_rfl)) k0 bel lt0) (trodAll_cons_mk (Below.trod laidOut (by kernel_rfl) (of_decide_eq_true (by kernel_rfl)) k1 bel lt1) (trodAll_cons_mk (Below.trod laidOut (by kernel_rfl) (of_decide_eq_true (by kernel_rfl)) k2 bel lt2) (trodAll_cons_mk (shut_int Try.underlying3 w3) trodAll_mk0)))), rfl, bel.frame _, fun h => by cases h⟩
theorem over : Rows.icmpTurnedRow.holds Try.pinned (OpenSpec.ofChange Rows.icmpTurnedSpec) :=
  OpenClaim.holds_of_wide 4 Try.f4 rfl rfl rfl rfl rfl rfl rfl ⟨rfl, rfl, rfl, rfl, rfl⟩ rfl rfl rfl rfl rfl (by kernel_rfl) Try.func4 (by kernel_rfl)
    (of_decide_eq_true (by kernel_rfl)) (by unfold Func.isWrapper; first | (rw [if_pos (by decide +kernel)]; kernel_rfl) | (rw [if_neg (by decide +kernel)]; exact ⟨rfl, rfl⟩))
    (fun os started H enc _ => lifted os started H enc)
end icmpTurned
theorem icmpTurned_holds : Rows.IcmpTurnedSaid := icmpTurned.over
#print axioms icmpTurned_holds
end Go.Proofs.Ytbgpjhekohabiaa
