/-
  The document: Print; RoutePrints, walked.
-/
import Derived.Test.YtoifolmcdkfniabGreatDoorAsZ
import Derived.Test.YtoifolmcdkfniabGreatDoorPn
import Derived.Test.YtoifolmcdkfniabGreatDoorFa
namespace Go.Proofs.YtoifolmcdkfniabGreatDoor
open Go.ChangeShapes Go.WideShapes Go.ChangeAt Go.RowKit
set_option linter.unusedVariables false
set_option linter.unusedSimpArgs false
set_option maxHeartbeats 8000000
set_option maxRecDepth 100000

theorem chD_nat : ∀ d : Fin 10, ((hexd d.val).toNat : Int) = 48 + (d.val : Int) := by decide
theorem itoa_step {n : Nat} (h : n < 256) : Lib.itoa (n : Int) = if n < 10 then [hexd n] else Lib.itoa ((n / 10 : Nat) : Int) ++ [hexd (n % 10)] := by
  rw [← dgs_itoa h, ← dgs_itoa (n := n / 10) (by omega)]
  unfold dec3_a
  by_cases h1 : n < 10
  · rw [if_pos h1, if_pos h1]
    simp only [dgs, Nat.pow_zero, Nat.div_one]
    rw [Nat.mod_eq_of_lt h1]
  · rw [if_neg h1, if_neg h1]
    by_cases h2 : n < 100
    · rw [if_pos h2, if_pos (by omega)]
      simp only [dgs, Nat.pow_zero, Nat.div_one, Nat.pow_one, List.cons_append, List.nil_append]
    · rw [if_neg h2, if_neg (by omega), if_pos (by omega)]
      simp only [dgs, Nat.pow_zero, Nat.div_one, Nat.pow_one, List.cons_append, List.nil_append, Nat.div_div_eq_div_mul]
theorem itoa_len3 {n : Nat} (h : n < 256) : (Lib.itoa (n : Int)).length ≤ 3 := itoa_len_a h
theorem dig_lt (n : Nat) (hn : n < 10) (w : World) : Calls Tryz.prog 16 #[.int .i64 (n : Int)] w fun e w' => e = .returned (.string ⟨[hexd n].toArray⟩) ∧ Below w.heap.size w w' := by
  have hrem : Int.tmod (n : Int) 10 = (n : Int) := by
    rw [Int.tmod_eq_emod_of_nonneg (by omega)]; omega
  have hz : 48 + (n : Int) = ((hexd n).toNat : Int) := (chD_nat ⟨n, hn⟩).symm
  have hwz : IntKind.u8.wrap (48 + (n : Int)) = 48 + (n : Int) := by rw [IntKind.wrap_u8]; omega
  have hwi : IntKind.i64.wrap (48 + (n : Int)) = 48 + (n : Int) := by rw [IntKind.wrap_i64]; omega
  have hcv := conv1 (c := 1) (d := hexd n) hz (cell_new w (48 + (n : Int)))
  have HB : Hid (Below w.heap.size w (w.alloc (.cells #[.int .u8 (48 + (n : Int))] 5))) := Lib.hid ((Below.refl _ _).alloc (Nat.le_refl _) _)
  have hlt : (n : Int) < 10 := by omega
  generalize hexd n = c at *
  clear hz
  go_enter Tryz.func16, Tryz.ntmps16
  go_wp2_with fail
  go_ret
  exact ⟨rfl, HB.out⟩
theorem dig_ge (n : Nat) (h10 : 10 ≤ n) (hn : n < 256) (T : List UInt8) (hT : T.length ≤ 10) (hc : ∀ w, Calls Tryz.prog 16 #[.int .i64 ((n / 10 : Nat) : Int)] w fun e w' => e = .returned (.string ⟨T.toArray⟩) ∧ Below w.heap.size w w') (w : World) :
    Calls Tryz.prog 16 #[.int .i64 (n : Int)] w fun e w' => e = .returned (.string ⟨(T ++ [hexd (n % 10)]).toArray⟩) ∧ Below w.heap.size w w' := by
  have HC := Lib.hid hc
  obtain ⟨d, hd⟩ : ∃ d, d = n % 10 := ⟨_, rfl⟩
  obtain ⟨q, hq⟩ : ∃ q, q = n / 10 := ⟨_, rfl⟩
  have hrem : Int.tmod (n : Int) 10 = (d : Int) := by
    rw [Int.tmod_eq_emod_of_nonneg (by omega)]; omega
  have hquo : Int.tdiv (n : Int) 10 = (q : Int) := by
    rw [Int.tdiv_eq_ediv_of_nonneg (by omega)]; omega
  have hd10 : d < 10 := by omega
  have hqb : q < 256 := by omega
  rw [← hd]
  rw [← hq] at HC
  have hz : 48 + (d : Int) = ((hexd d).toNat : Int) := (chD_nat ⟨d, hd10⟩).symm
  have hwz : IntKind.u8.wrap (48 + (d : Int)) = 48 + (d : Int) := by rw [IntKind.wrap_u8]; omega
  have hwi : IntKind.i64.wrap (48 + (d : Int)) = 48 + (d : Int) := by rw [IntKind.wrap_i64]; omega
  have hcv := conv1 (c := 1) (d := hexd d) hz (cell_new w (48 + (d : Int)))
  have HB : Hid (Below w.heap.size w (w.alloc (.cells #[.int .u8 (48 + (d : Int))] 5))) := Lib.hid ((Below.refl _ _).alloc (Nat.le_refl _) _)
  have HSZ : Hid (w.heap.size ≤ (w.alloc (.cells #[.int .u8 (48 + (d : Int))] 5)).heap.size) := Lib.hid HB.out.size
  have hlt : ¬ ((n : Int) < 10) := by omega
  obtain ⟨R, hR⟩ : ∃ R, R = T ++ [hexd d] := ⟨_, rfl⟩
  have cD : ∀ W, (Op.stringOp .add ⟨T.toArray⟩ ⟨#[hexd d]⟩).run Tryz.prog W = .ok (.string ⟨R.toArray⟩) W := fun W => by rw [hR]; exact concat_c T [hexd d] (by simp; omega) W
  rw [← hR]
  generalize hexd d = c at *
  clear hz hd hq hc hR
  go_enter Tryz.func16, Tryz.ntmps16
  go_wp2_with (go_at_call 16; refine (HC.out _).mono ?_; refine Hid.out ?_)
  refine Lib.hid ?_
  first
    | rintro e t1 rfl hb1
    | rintro e t1 ⟨rfl, hb1⟩
  have HB2 : Hid (Below w.heap.size w t1) := Lib.hid (HB.out.trans (hb1.mono (by first | omega | exact HSZ.out)))
  clear hb1
  go_wp2_with fail
  go_ret
  exact ⟨rfl, HB2.out⟩
theorem dig_c (n : Nat) (hn : n < 256) (w : World) : Calls Tryz.prog 16 #[.int .i64 (n : Int)] w fun e w' => e = .returned (.string ⟨(Lib.itoa (n : Int)).toArray⟩) ∧ Below w.heap.size w w' := by
  have k1 : ∀ m : Nat, m < 10 → ∀ w, Calls Tryz.prog 16 #[.int .i64 (m : Int)] w fun e w' => e = .returned (.string ⟨(Lib.itoa (m : Int)).toArray⟩) ∧ Below w.heap.size w w' := fun m hm w => by
    rw [itoa_step (by omega), if_pos hm]; exact dig_lt m hm w
  have k2 : ∀ m : Nat, m < 100 → ∀ w, Calls Tryz.prog 16 #[.int .i64 (m : Int)] w fun e w' => e = .returned (.string ⟨(Lib.itoa (m : Int)).toArray⟩) ∧ Below w.heap.size w w' := fun m hm w => by
    rcases Nat.lt_or_ge m 10 with h | h
    · exact k1 m h w
    · rw [itoa_step (by omega), if_neg (by omega)]
      exact dig_ge m h (by omega) _ (by have := itoa_len3 (n := m / 10) (by omega); omega) (k1 (m / 10) (by omega)) w
  rcases Nat.lt_or_ge n 100 with h | h
  · exact k2 n h w
  · rw [itoa_step hn, if_neg (by omega)]
    exact dig_ge n (by omega) hn _ (by have := itoa_len3 (n := n / 10) (by omega); omega) (k2 (n / 10) (by omega)) w
end Go.Proofs.YtoifolmcdkfniabGreatDoor

namespace Go.Proofs.YtoifolmcdkfniabGreatDoor
open Go.ChangeShapes Go.WideShapes Go.ChangeAt Go.RowKit
set_option linter.unusedVariables false
set_option linter.unusedSimpArgs false
set_option maxRecDepth 100000

theorem text_take {S : List Rt} {k : Nat} {x : Rt} (hx : S[k]? = some x) : textP (S.take (k + 1)) = textP (S.take k) ++ lineT x := by
  unfold textP
  rw [List.take_add_one, hx]
  simp
def DPrintOut (w : World) (L S : List Rt) (E : Ending) (w' : World) : Prop :=
  ((mayL L = false ∧ E = .returned (.tuple #[.string ⟨#[]⟩, .int .i64 1])) ∨ (mayL L = true ∧ E = .returned (.tuple #[.string ⟨(textP S).toArray⟩, .int .i64 0]))) ∧ Away [] w w'
set_option maxHeartbeats 16000000 in
theorem dprint_c {w : World} {u : Value} {L S : List Rt} (h : Rd w u L) (hl : L.length ≤ 3518437208790) (ho : mayL L = true → IsOrd L S) : Calls Tryz.prog 6 #[u] w (DPrintOut w L S) := by
  have HMA := Lib.hid (may_c h hl)
  have H := Lib.hid h
  have HO := Lib.hid ho
  obtain ⟨ua, uc, rfl, -, -⟩ := h.shp
  obtain ⟨un, hun⟩ : ∃ n, n = L.length := ⟨_, rfl⟩
  rw [← hun] at HMA H ⊢
  obtain ⟨q, hq⟩ : ∃ q, q = mayL L := ⟨_, rfl⟩
  rw [← hq] at HMA
  have HQ := Lib.hid hq
  clear h hl ho hun hq
  go_enter Tryz.func6, Tryz.ntmps6
  go_wp2_with (go_at_call 13; refine HMA.out.mono ?_; refine Hid.out ?_)
  refine Lib.hid ?_
  rintro E w1 ⟨rfl, haw⟩
  have HA := Lib.hid haw
  clear haw HMA
  cases q
  · go_wp2_with fail
    go_ret2
    exact ⟨.inl ⟨HQ.out.symm, rfl⟩, HA.out⟩
  · have HM : Hid (mayL L = true) := HQ.out.symm
    have HOS := Lib.hid (HO.out HM.out)
    have HAL := Lib.hid (dall_c (H.out.on HA.out) HM.out HOS.out)
    have HOK : Hid (∀ x ∈ S, Okr x) := fun x hx => H.out.ok x (HOS.out.1.mem_iff.1 hx)
    have HMR : Hid (∀ x ∈ S, mayR x = true) := fun x hx => (mayL_iff.1 HM.out).2.1 x (HOS.out.1.mem_iff.1 hx)
    have HSL : Hid (S.length ≤ 32) := by show _ ≤ _; rw [HOS.out.1.length_eq]; exact (mayL_iff.1 HM.out).1
    clear HO HQ
    go_wp2_with (go_at_call 14; refine HAL.out.mono ?_; refine Hid.out ?_)
    refine Lib.hid ?_
    rintro E w2 ⟨v5, rfl, hown, -, haw⟩
    replace HA := Lib.hid (HA.out.trans haw)
    have HRD := Lib.hid (hown.rd HOK.out)
    obtain ⟨a5, c5, hv5, hc5, hsh⟩ := HRD.out.shp
    obtain ⟨n, hn⟩ : ∃ n, n = S.length := ⟨_, rfl⟩
    rw [← hn] at hv5 hc5
    have HN := Lib.hid hn
    have HSH := Lib.hid hsh
    have hn32 : n ≤ 32 := by rw [hn]; exact HSL.out
    subst hv5
    clear hown haw HAL hsh hn
    go_wp2_with fail
    go_loopw [4, 6] (fun sv iv wr => ∃ k : Nat, iv = .int .i64 (k : Int) ∧ k ≤ n ∧ sv = .string ⟨(textP (S.take k)).toArray⟩ ∧ Away [] w2 wr) (fun _ iv _ => n - (intOf iv).toNat)
    case atStart => exact ⟨0, rfl, by omega, rfl, Away.refl _ _⟩
    case round =>
      obtain ⟨k, rfl, hk, rfl, haw⟩ := hrel
      have HB := Lib.hid haw
      clear haw
      by_cases hkn : k < n
      · have i1 : decide (k < n) = true := by simp; omega
        have i0 : (k : Int) < (n : Int) := by omega
        obtain ⟨x, hx, hxm⟩ := get_of (show k < S.length by rw [← HN.out]; omega)
        have HXO := Lib.hid (HOK.out x hxm)
        have hmx := HMR.out x hxm
        obtain ⟨b, o, ha5, hrg⟩ : ∃ b o, a5 = some ⟨b, o, none⟩ ∧ w2.rangeAt b (o + k * 19) (listD x) := by
          rcases HSH.out with he | ⟨b, o, ha, hr⟩
          · rw [he] at hx; simp at hx
          · exact ⟨b, o, ha, hr k x hx⟩
        subst ha5
        have HRG : Hid (∀ w', Away [] w2 w' → w'.rangeAt b (o + k * 19) (listD x)) := fun w' h => range_away h (by simp) hrg
        obtain ⟨m1, -, m3, m4⟩ := mayR_iff.1 hmx
        obtain ⟨-, m6, m7⟩ := ok_iff.1 m1
        obtain ⟨xb, hxb⟩ : ∃ n : Nat, x.b = (n : Int) := ⟨x.b.toNat, by omega⟩
        obtain ⟨xk, hxk⟩ : ∃ n : Nat, x.k = (n : Int) := ⟨x.k.toNat, by omega⟩
        have hb1 : xb < 256 := by split at m7 <;> omega
        have hk1 : xk < 256 := by omega
        have HTX := Lib.hid (text_take hx)
        have HTL : Hid ((textP (S.take k)).length ≤ 800 * 32) := by
          show _ ≤ _
          have h1 := text_len (S.take k) (fun y hy => ⟨HOK.out y (List.mem_of_mem_take hy), HMR.out y (List.mem_of_mem_take hy)⟩)
          have h2 : (S.take k).length ≤ 32 := by rw [List.length_take]; omega
          omega
        have HLL := Lib.hid (line_len HXO.out hmx)
        obtain ⟨P, hP⟩ : ∃ P, P = printP x.v x.l := ⟨_, rfl⟩
        obtain ⟨B, hB⟩ : ∃ B, B = Lib.itoa x.b := ⟨_, rfl⟩
        obtain ⟨K, hK⟩ : ∃ K, K = Lib.itoa x.k := ⟨_, rfl⟩
        have KP : Hid (∀ w', Away [] w2 w' → Calls Tryz.prog 15 #[.agg (csA x.v x.l)] w' fun E w3 => E = .returned (.string ⟨P.toArray⟩) ∧ Away [] w2 w3) := fun w' h => by
          rw [hP]; exact (rprint_c x.v x.l HXO.out.1 HXO.out.2 w').mono (by rintro E w3 ⟨rfl, h3⟩; exact ⟨rfl, h.trans (Away.of_below h3)⟩)
        have KB : Hid (∀ w', Away [] w2 w' → Calls Tryz.prog 16 #[.int .i64 x.b] w' fun E w3 => E = .returned (.string ⟨B.toArray⟩) ∧ Away [] w2 w3) := fun w' h => by
          rw [hB, hxb]; exact (dig_c xb hb1 w').mono (by rintro E w3 ⟨rfl, h3⟩; exact ⟨rfl, h.trans (Away.of_below h3)⟩)
        have KK : Hid (∀ w', Away [] w2 w' → Calls Tryz.prog 16 #[.int .i64 x.k] w' fun E w3 => E = .returned (.string ⟨K.toArray⟩) ∧ Away [] w2 w3) := fun w' h => by
          rw [hK, hxk]; exact (dig_c xk hk1 w').mono (by rintro E w3 ⟨rfl, h3⟩; exact ⟨rfl, h.trans (Away.of_below h3)⟩)
        have hll : P.length + B.length + K.length + 3 ≤ 800 := by
          have h1 := HLL.out
          unfold lineT at h1
          rw [← hP, ← hB, ← hK] at h1
          simp only [List.length_append, List.length_cons, List.length_nil] at h1
          omega
        obtain ⟨t, ht⟩ : ∃ t, t = textP (S.take k) := ⟨_, rfl⟩
        rw [← ht] at HTL HTX ⊢
        have htl := HTL.out
        obtain ⟨D1, hD1⟩ : ∃ D, D = t ++ P := ⟨_, rfl⟩
        have d1 : D1.length = t.length + P.length := by rw [hD1]; simp
        have e1 : ∀ W, (Op.stringOp .add ⟨t.toArray⟩ ⟨P.toArray⟩).run Tryz.prog W = .ok (.string ⟨D1.toArray⟩) W := fun W => by rw [hD1]; exact concat_c _ _ (by omega) W
        obtain ⟨D2, hD2⟩ : ∃ D, D = D1 ++ [47] := ⟨_, rfl⟩
        have d2 : D2.length = D1.length + 1 := by rw [hD2]; simp
        have e2 : ∀ W, (Op.stringOp .add ⟨D1.toArray⟩ ⟨#[47]⟩).run Tryz.prog W = .ok (.string ⟨D2.toArray⟩) W := fun W => by rw [hD2]; exact concat_c D1 [47] (by simp; omega) W
        obtain ⟨D3, hD3⟩ : ∃ D, D = D2 ++ B := ⟨_, rfl⟩
        have d3 : D3.length = D2.length + B.length := by rw [hD3]; simp
        have e3 : ∀ W, (Op.stringOp .add ⟨D2.toArray⟩ ⟨B.toArray⟩).run Tryz.prog W = .ok (.string ⟨D3.toArray⟩) W := fun W => by rw [hD3]; exact concat_c _ _ (by omega) W
        obtain ⟨D4, hD4⟩ : ∃ D, D = D3 ++ [32] := ⟨_, rfl⟩
        have d4 : D4.length = D3.length + 1 := by rw [hD4]; simp
        have e4 : ∀ W, (Op.stringOp .add ⟨D3.toArray⟩ ⟨#[32]⟩).run Tryz.prog W = .ok (.string ⟨D4.toArray⟩) W := fun W => by rw [hD4]; exact concat_c D3 [32] (by simp; omega) W
        obtain ⟨D5, hD5⟩ : ∃ D, D = D4 ++ K := ⟨_, rfl⟩
        have d5 : D5.length = D4.length + K.length := by rw [hD5]; simp
        have e5 : ∀ W, (Op.stringOp .add ⟨D4.toArray⟩ ⟨K.toArray⟩).run Tryz.prog W = .ok (.string ⟨D5.toArray⟩) W := fun W => by rw [hD5]; exact concat_c _ _ (by omega) W
        obtain ⟨D6, hD6⟩ : ∃ D, D = D5 ++ [10] := ⟨_, rfl⟩
        have e6 : ∀ W, (Op.stringOp .add ⟨D5.toArray⟩ ⟨#[10]⟩).run Tryz.prog W = .ok (.string ⟨D6.toArray⟩) W := fun W => by rw [hD6]; exact concat_c D5 [10] (by simp; omega) W
        have HD6 : Hid (textP (S.take (k + 1)) = D6) := by
          show _ = _
          rw [HTX.out, hD6, hD5, hD4, hD3, hD2, hD1]
          unfold lineT
          rw [← hP, ← hB, ← hK]
          simp
        clear hD1 hD2 hD3 hD4 hD5 hD6 d1 d2 d3 d4 d5 hP hB hK hll htl HTL HTX HLL ht hxb hxk hb1 hk1 m1 m3 m4 m6 m7 hmx hx hxm hrg hkn
        go_wp2_with fail
        refine wp_region_cls (C := fun w' => Away [] w2 w') (by kernel_rfl) (by kernel_rfl) (by exact HB.out.drew) ?_
        repeat (first
          | go_big_quiet_skip
          | (go_big_quiet_want
             first
               | (refine quiet_call 15 #[.agg (csA x.v x.l)] (.string ⟨P.toArray⟩) ?_ KP.out ?_; (focus (intro w; go_simp; done)); go_simp; go_big_quiet_on)
               | (refine quiet_call 16 #[.int .i64 x.b] (.string ⟨B.toArray⟩) ?_ KB.out ?_; (focus (intro w; go_simp; done)); go_simp; go_big_quiet_on)
               | (refine quiet_call 16 #[.int .i64 x.k] (.string ⟨K.toArray⟩) ?_ KK.out ?_; (focus (intro w; go_simp; done)); go_simp; go_big_quiet_on)
               | (refine quiet_ixR _ _ rfl b o n c5 k _ rfl rfl rfl (by omega) ?_; go_simp; go_big_quiet_on)
               | (refine quiet_ldAm _ rfl b (o + k * 19) rfl x.v x.l HXO.out.1 (fun w' h => range_a (HRG.out w' h) HXO.out) ?_; go_simp; go_big_quiet_on)
               | (refine quiet_ld3 _ rfl ⟨b, o + k * 19 + 17, none⟩ rfl x.b (fun w' h => range_b (HRG.out w' h) HXO.out) ?_; go_simp; go_big_quiet_on)
               | (refine quiet_ld3 _ rfl ⟨b, o + k * 19 + 18, none⟩ rfl x.k (fun w' h => range_k (HRG.out w' h) HXO.out) ?_; go_simp; go_big_quiet_on)
               | (go_big_quiet_op; go_big_quiet_on)
               | (refine quiet_val ?_ ?_ ?_
                  rotate_left
                  · intro w; go_simp; rfl
                  go_simp; go_big_quiet_on)))
        refine wpQuiet_nil ?_
        intro w3 hV
        have HV := Lib.hid hV
        clear hV
        go_wp2_with fail
        go_roundw
        case rel => exact ⟨k + 1, by go_num, by omega, by rw [HD6.out], HV.out⟩
        case measure => simp [intOf]; omega
      · have i1 : decide (k < n) = false := by simp; omega
        obtain rfl : k = n := by omega
        have HTT : Hid (textP (S.take k) = textP S) := by show _ = _; rw [HN.out, List.take_length]
        have htt := HTT.out
        rw [htt]
        clear htt hkn
        go_wp2_with fail
        go_ret2
        exact ⟨.inr ⟨HM.out, rfl⟩, HA.out.trans HB.out⟩
namespace routePrints
set_option maxHeartbeats 16000000 in
theorem walk (a : Option Addr) (L : List Rt) (cap : Nat) (W : World) (hg : Glob W) (hr : Rd W (.slice a L.length cap) L) (hl : L.length ≤ 3518437208780) :
    Calls Tryz.prog 3 #[.slice a L.length cap] W fun E w' => E = .returned (.bool true) ∧ Below W.heap.size W w' := by
  have HR := Lib.hid hr
  have HOK := Lib.hid hr.ok
  have HG := Lib.hid hg
  obtain ⟨n, hn⟩ : ∃ n, n = L.length := ⟨_, rfl⟩
  rw [← hn] at hl HR ⊢
  have HN := Lib.hid hn
  have HOW := Lib.hid (own_c HR.out (by rw [← HN.out]; omega))
  clear hr hg hn
  go_enter Tryz.func3, Tryz.ntmps3
  go_wp2_with (go_at_call 5; refine HOW.out.mono ?_; refine Hid.out ?_)
  refine Lib.hid ?_
  rintro E w1 ⟨v1, rfl, hown, -, haw⟩
  have HA := Lib.hid haw
  have HPR := Lib.hid (print_r (hown.rd HOK.out) (by rw [← HN.out]; omega) (HG.out.aw HA.out))
  obtain ⟨va, vc, rfl, -⟩ := hown.sl
  rw [← HN.out] at HPR ⊢
  clear hown haw HOW
  go_wp2_with (go_at_call 4; refine HPR.out.mono ?_; refine Hid.out ?_)
  refine Lib.hid ?_
  rintro E w2 ⟨hpr, haw⟩
  replace HA := Lib.hid (HA.out.trans haw)
  clear haw HPR
  rcases hpr with ⟨hm, rfl⟩ | ⟨hm, S, ho, rfl⟩
  · have HDP := Lib.hid (dprint_c (S := []) (HR.out.on HA.out) (by rw [← HN.out]; omega) (fun h => by rw [hm] at h; simp at h))
    have HM := Lib.hid hm
    clear hm
    go_wp2_with (go_at_call 6; refine HDP.out.mono ?_; refine Hid.out ?_)
    refine Lib.hid ?_
    rintro E w3 ⟨⟨hm, rfl⟩ | ⟨hm, -⟩, haw⟩
    rotate_left
    · rw [HM.out] at hm; simp at hm
    replace HA := Lib.hid (HA.out.trans haw)
    have HK := Lib.hid (known_c w3 (HG.out.aw HA.out))
    clear hm haw HDP
    go_wp2_with (go_at_call 7; refine HK.out.mono ?_; refine Hid.out ?_)
    refine Lib.hid ?_
    rintro E w4 ⟨rfl, haw⟩
    replace HA := Lib.hid (HA.out.trans haw)
    clear haw HK
    go_wp2_with fail
    go_ret
    exact ⟨rfl, HA.out.to_below⟩
  · have HDP := Lib.hid (dprint_c (S := S) (HR.out.on HA.out) (by rw [← HN.out]; omega) (fun _ => ho))
    have HM := Lib.hid hm
    obtain ⟨T, hT⟩ : ∃ T, T = textP S := ⟨_, rfl⟩
    unfold DPrintOut at HDP
    rw [← hT] at HDP ⊢
    clear hm ho hT
    go_wp2_with (go_at_call 6; refine HDP.out.mono ?_; refine Hid.out ?_)
    refine Lib.hid ?_
    rintro E w3 ⟨⟨hm, -⟩ | ⟨hm, rfl⟩, haw⟩
    · rw [HM.out] at hm; simp at hm
    replace HA := Lib.hid (HA.out.trans haw)
    have HK := Lib.hid (known_c w3 (HG.out.aw HA.out))
    clear hm haw HDP
    go_wp2_with (go_at_call 7; refine HK.out.mono ?_; refine Hid.out ?_)
    refine Lib.hid ?_
    rintro E w4 ⟨rfl, haw⟩
    replace HA := Lib.hid (HA.out.trans haw)
    clear haw HK
    go_wp2_with fail
    go_ret
    exact ⟨rfl, HA.out.to_below⟩
end routePrints
end Go.Proofs.YtoifolmcdkfniabGreatDoor
