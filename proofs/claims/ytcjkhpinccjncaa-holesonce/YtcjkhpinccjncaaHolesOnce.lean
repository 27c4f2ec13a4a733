/-
  HolesOnce.
-/
import Derived.Test.YtcjkhpinccjncaaOnceN
import Derived.Test.YtcjkhpinccjncaaQt
namespace Go.Proofs.Ytcjkhpinccjncaa
open Go.ChangeShapes Go.WideShapes Go.ChangeAt Go.RowKit Go.Deep
set_option linter.unusedVariables false
set_option linter.unusedSimpArgs false
set_option maxRecDepth 100000

/-- What the loop holds. -/
def OnceI (w wr : World) (g : Nat) (ua : Value) (k : Nat) : Prop :=
  ∃ v m e T all, Hl wr g v m e ∧ Ho T m e ∧ Lst wr ua all ∧ Tld T all k ∧ Beside ua g v ∧ w.heap.size ≤ g ∧ New w.heap.size v ∧ New w.heap.size ua ∧ Away [] w wr
theorem once_shape {w : World} {x : Value} {l : List Sp} (h : Lst w x l) (hi : ∀ s ∈ l, Is s) (hs : l.length ≤ 8796093022208) : ∃ a c, x = .slice a l.length c ∧ (a = none → c = 0) ∧ Row w a l := by
  obtain ⟨a, c, he, -, hn, hr, -⟩ := h.row hs (fun s h => is_ok (hi s h))
  exact ⟨a, c, he, hn, hr⟩
theorem row_of {w : World} {a : Option Addr} {n c : Nat} {l : List Sp} (h : Lst w (.slice a n c) l) (hi : ∀ s ∈ l, Is s) (hs : l.length ≤ 8796093022208) : Row w a l := by
  obtain ⟨a', c', he, -, hr⟩ := once_shape h hi hs
  simp only [Value.slice.injEq] at he
  obtain ⟨rfl, -, rfl⟩ := he
  exact hr
namespace holesOnce
set_option maxHeartbeats 16000000 in
theorem walk (wa : Option Addr) (ws : List Pc) (cap : Nat) (w : World) (hr : RowC w wa ws) (hlen : ws.length ≤ 5864062014634) :
    Calls Try.prog 6 #[.slice wa ws.length cap] w fun E w' => E = .returned (.bool true) ∧ Below w.heap.size w w' := by
  have HR := hidI hr
  clear hr
  obtain ⟨n, hn⟩ : ∃ n, n = ws.length := ⟨_, rfl⟩
  rw [← hn] at hlen ⊢
  have HN := hidI hn
  clear hn
  go_enter Try.func6, Try.ntmps6
  go_wp2_with fail
  refine (new_c w).mono ?_
  rintro E w0 ⟨g, v0, rfl, h0, hg, hv0, haw0⟩
  have H0 := hidI h0
  have HG := hidI hg
  have HV0 := hidI hv0
  have HA0 := hidI haw0
  clear h0 hg hv0 haw0
  have KK := hidI (known_c w0)
  go_wp2_with fail
  refine KK.out.mono ?_
  rintro E w9 ⟨rfl, haw9⟩
  have HST : Hid (OnceI w w9 g (.slice none 0 0) 0) := ⟨v0, _, _, _, [], H0.out.on haw9, ho_new, Lst.nil _, Tld.none, Beside.nil _ _, HG.out, HV0.out, New.nil _, HA0.out.trans haw9⟩
  clear haw9 H0 HA0 HV0 KK
  go_wp2_with fail
  go_loopw [4, 5] (fun ua i wr => ∃ (k : Nat), i = .int .i64 (k : Int) ∧ k ≤ 200 ∧ OnceI w wr g ua k) (fun _ i _ => 200 - (intOf i).toNat)
  case atStart => exact ⟨0, rfl, by omega, HST.out⟩
  case round =>
    clear HST
    obtain ⟨k, rfl, hk, v, m, e, T, all, hh, hho, hla, htl, hbe, hg, hnv, hnu, haw⟩ := hrel
    by_cases hlt : k < n
    · by_cases hk2 : k < 200
      · obtain ⟨x, hx⟩ : ∃ x, ws[k]? = some x := ⟨ws[k]'(by have := HN.out; omega), by simp⟩
        obtain ⟨ua, uc, hue, -, -⟩ := once_shape hla htl.is (by have := htl.short; omega)
        obtain ⟨na, hna⟩ : ∃ na, na = all.length := ⟨_, rfl⟩
        rw [← hna] at hue
        subst hue
        have hnab : na ≤ 8000000 := by rw [hna]; have := htl.short; omega
        have HNA := hidI hna.symm
        have H := hidI hh
        have HO := hidI hho
        have LA := hidI hla
        have TL := hidI htl
        have HBE := hidI hbe
        have HNV := hidI hnv
        have HNU := hidI hnu
        have HAW := hidI haw
        have HLT := hidI hh.lt
        have HVL := hidI hh.lst.lt
        have HUL := hidI hla.lt
        have KH := hidI (holes_c hh)
        clear hh hho hla htl hbe hg hnv hnu haw hna
        go_wp2_with fail
        refine KH.out.mono ?_
        rintro E w1 ⟨was, rfl, hmk⟩
        have A1 := hidI hmk.2.2
        have LW := hidI hmk.1
        have hs1 := hmk.2.2.size
        clear hmk KH
        replace H := hidI (H.out.on A1.out)
        replace LA := hidI (LA.out.on A1.out)
        have KE := hidI (end_c H.out)
        go_wp2_with fail
        refine KE.out.mono ?_
        rintro E w1 ⟨rfl, rfl⟩
        clear KE
        obtain ⟨b, off, rfl, ⟨c0, c1, c2⟩, hok⟩ := (HR.out.on (HAW.out.trans A1.out)).at hx
        obtain ⟨po, pn, pm⟩ := x
        simp only at c0 c1 c2
        obtain ⟨i1, i2⟩ := hok
        simp only at i1 i2
        have j2 : 0 ≤ (k : Int) := by omega
        have j3 : (k : Int) < (n : Int) := by omega
        have j4 : ((k : Int)).toNat = k := by omega
        obtain ⟨W, hW⟩ : ∃ W, W = w1.alloc (.cells #[.int .i64 po, .int .i64 pn, .bool pm] 32) := ⟨_, rfl⟩
        have AB : Hid (Away [] w1 W) := by show Away _ _ _; rw [hW]; exact (Away.refl _ _).alloc _
        have KP := hidI (put_c' po pn pm (H.out.on AB.out) i1 i2)
        replace H := hidI (H.out.on AB.out)
        replace LA := hidI (LA.out.on AB.out)
        replace LW := hidI (LW.out.on AB.out)
        unfold I64 at i1 i2
        go_wp2_with fail
        rw [← hW]
        have b0 : W.cell? ⟨w1.heap.size, 0, none⟩ = some (.int .i64 po) := by rw [hW]; simp
        have b1 : W.cell? ⟨w1.heap.size, 1, none⟩ = some (.int .i64 pn) := by rw [hW]; simp
        have b2 : W.cell? ⟨w1.heap.size, 2, none⟩ = some (.bool pm) := by rw [hW]; simp
        have hWs : W.heap.size = w1.heap.size + 1 := by rw [hW]; simp
        refine KP.out.mono ?_
        intro E w2 hp
        have HWS := hidI hWs
        clear hW c0 c1 c2 KP hx hWs
        rcases hp with ⟨hok, r, v2, rfl, t⟩ | ⟨hno, rfl, haw2⟩
        · have HT := hidI t
          have R := hidI (once_r HO.out hok TL.out)
          have HP := hidI (put_ho HO.out hok)
          have hok' := hok
          unfold putOk at hok'
          rw [Bool.and_eq_true, arg_iff] at hok'
          obtain ⟨⟨o1, o2, o3⟩, -⟩ := hok'
          have hbx : w1.heap.size ∉ g :: v.ownBlock.toList := fun hc => by
            simp only [List.mem_cons, Option.mem_toList] at hc
            rcases hc with hc | hc
            · have := HLT.out; omega
            · have := HVL.out _ hc; omega
          have HHU0 : Hid (w2.heap.size ≥ w1.heap.size + 1) := by show _ ≥ _; have := t.aw.size; have := HWS.out; omega
          replace b0 := t.aw.cell hbx b0
          replace b1 := t.aw.cell hbx b1
          replace b2 := t.aw.cell hbx b2
          have LA0 := t.keep LA.out HBE.out
          replace LA := hidI LA0.1
          replace HBE := hidI LA0.2
          have LR := hidI t.fresh
          have HBR := hidI (t.self (by have := HLT.out; have := HWS.out; omega))
          replace H := hidI t.hl
          have HNV2 := hidI (HNV.out.moved t.moved (by have := HWS.out; have := A1.out.size; have := HAW.out.size; omega))
          have HNR : Hid (New w.heap.size r) := t.new.mono (by have := HWS.out; have := A1.out.size; have := HAW.out.size; omega)
          have AW0 : Hid (Away [] w w2) := (HAW.out.trans (A1.out.trans AB.out)).next t.aw (fun z hz => .inr (by
            simp only [List.mem_cons, Option.mem_toList] at hz
            rcases hz with rfl | hz
            · exact HG.out
            · exact HNV.out z hz))
          have HEO : Hid (pm = true → putE e po pn pm = e) := fun h => by unfold putE; rw [if_pos h]
          have HEN : Hid (pm = false → putE e po pn pm = po + pn) := fun h => by unfold putE; rw [h, if_neg (by simp)]
          clear t hbx LA0 hok HNV LW
          obtain ⟨T', hT'⟩ : ∃ T', T' = (fun k => T k || inS (po, po + pn) k) := ⟨_, rfl⟩
          rw [← hT'] at HP
          have HT' := hidI hT'
          clear hT'
          generalize freshP m (po, po + pn) = f at *
          generalize putM m po pn pm = m2 at *
          generalize putE e po pn pm = e2 at *
          have hRa := R.out.ra
          have hRh := R.out.rh
          have hsf := right_short R.out.ra
          have hsm := right_short R.out.rh
          obtain ⟨ra, rc, hre, hrn, -⟩ := once_shape LR.out (right_is R.out.ra) (by omega)
          obtain ⟨nf, hnf⟩ : ∃ nf, nf = f.length := ⟨_, rfl⟩
          rw [← hnf] at hre hsf
          subst hre
          have HNF := hidI hnf.symm
          have HRN := hidI hrn
          have HRA := hidI hRa
          have HRH := hidI hRh
          have KH2 := hidI (holes_c H.out)
          clear hnf hRa hRh hrn HT
          go_wp2_with fail
          refine KH2.out.mono ?_
          rintro E w3 ⟨h, rfl, hmk3⟩
          have A3 := hidI hmk3.2.2
          have LH := hidI hmk3.1
          have HHU : Hid (∀ z, h.ownBlock = some z → (Value.slice ua na uc).ownBlock ≠ some z) := fun z hz hc => by have := hmk3.2.1 z hz; have := HUL.out z hc; have := HHU0.out; omega
          have HBH : Hid (Beside h g v2) := Beside.of_new hmk3.2.1 H.out.lt (fun z hz => H.out.lst.lt z hz)
          clear hmk3 KH2
          have AW := hidI (AW0.out.trans A3.out)
          replace H := hidI (H.out.on A3.out)
          replace LA := hidI (LA.out.on A3.out)
          replace LR := hidI (LR.out.on A3.out)
          replace b0 := A3.out.cell (by simp) b0
          replace b1 := A3.out.cell (by simp) b1
          replace b2 := A3.out.cell (by simp) b2
          obtain ⟨ha, hc, hhe, hhn, -⟩ := once_shape LH.out (right_is HRH.out) (by omega)
          obtain ⟨nm, hnm⟩ : ∃ nm, nm = m2.length := ⟨_, rfl⟩
          rw [← hnm] at hhe hsm
          subst hhe
          have HNM := hidI hnm.symm
          clear hnm hhn
          have K5 := hidI (lright_c ra f nf rc w3 HNF.out (row_of LR.out (right_is HRA.out) (by rw [HNF.out]; omega)) HRA.out)
          go_wp2_with fail
          refine K5.out.mono ?_
          rintro E w5 ⟨rfl, q5, h5⟩
          have A5 : Hid (Away [] w3 w5) := by show Away _ _ _; rw [h5]; exact (Away.refl _ _).drewN _
          clear h5 K5
          replace AW := hidI (AW.out.trans A5.out)
          replace H := hidI (H.out.on A5.out)
          replace LA := hidI (LA.out.on A5.out)
          replace LR := hidI (LR.out.on A5.out)
          replace LH := hidI (LH.out.on A5.out)
          replace b0 := A5.out.cell (by simp) b0
          replace b1 := A5.out.cell (by simp) b1
          replace b2 := A5.out.cell (by simp) b2
          have K6 := hidI (lright_c ha m2 nm hc w5 HNM.out (row_of LH.out (right_is HRH.out) (by rw [HNM.out]; omega)) HRH.out)
          go_wp2_with fail
          refine K6.out.mono ?_
          rintro E w6 ⟨rfl, q6, h6⟩
          have A6 : Hid (Away [] w5 w6) := by show Away _ _ _; rw [h6]; exact (Away.refl _ _).drewN _
          clear h6 K6
          replace AW := hidI (AW.out.trans A6.out)
          replace H := hidI (H.out.on A6.out)
          replace LA := hidI (LA.out.on A6.out)
          replace LR := hidI (LR.out.on A6.out)
          replace LH := hidI (LH.out.on A6.out)
          replace b0 := A6.out.cell (by simp) b0
          replace b1 := A6.out.cell (by simp) b1
          replace b2 := A6.out.cell (by simp) b2
          have K7 := hidI (within_c ra f po pn nf rc w6 HNF.out (row_of LR.out (right_is HRA.out) (by rw [HNF.out]; omega)) R.out.wi o1 (by omega) (by omega))
          go_wp2_with fail
          refine K7.out.mono ?_
          rintro E w7 ⟨rfl, q7, h7⟩
          have A7 : Hid (Away [] w6 w7) := by show Away _ _ _; rw [h7]; exact (Away.refl _ _).drewN _
          clear h7 K7
          replace AW := hidI (AW.out.trans A7.out)
          replace H := hidI (H.out.on A7.out)
          replace LA := hidI (LA.out.on A7.out)
          replace LR := hidI (LR.out.on A7.out)
          replace LH := hidI (LH.out.on A7.out)
          replace b0 := A7.out.cell (by simp) b0
          replace b1 := A7.out.cell (by simp) b1
          replace b2 := A7.out.cell (by simp) b2
          have K8 := hidI (lmeets_c ra ua f all nf na rc uc w7 HNF.out HNA.out (row_of LR.out (right_is HRA.out) (by rw [HNF.out]; omega)) (row_of LA.out TL.out.is (by rw [HNA.out]; omega)) R.out.m1)
          go_wp2_with fail
          refine K8.out.mono ?_
          rintro E w8 ⟨rfl, q8, h8⟩
          have A8 : Hid (Away [] w7 w8) := by show Away _ _ _; rw [h8]; exact (Away.refl _ _).drewN _
          clear h8 K8
          replace AW := hidI (AW.out.trans A8.out)
          replace H := hidI (H.out.on A8.out)
          replace LA := hidI (LA.out.on A8.out)
          replace LR := hidI (LR.out.on A8.out)
          replace LH := hidI (LH.out.on A8.out)
          replace b0 := A8.out.cell (by simp) b0
          replace b1 := A8.out.cell (by simp) b1
          replace b2 := A8.out.cell (by simp) b2
          have K9 := hidI (lmeets_c ha ra m2 f nm nf hc rc w8 HNM.out HNF.out (row_of LH.out (right_is HRH.out) (by rw [HNM.out]; omega)) (row_of LR.out (right_is HRA.out) (by rw [HNF.out]; omega)) R.out.m2)
          go_wp2_with fail
          refine K9.out.mono ?_
          rintro E w9 ⟨rfl, q9, h9⟩
          have A9 : Hid (Away [] w8 w9) := by show Away _ _ _; rw [h9]; exact (Away.refl _ _).drewN _
          clear h9 K9
          replace AW := hidI (AW.out.trans A9.out)
          replace H := hidI (H.out.on A9.out)
          replace LA := hidI (LA.out.on A9.out)
          replace LR := hidI (LR.out.on A9.out)
          replace LH := hidI (LH.out.on A9.out)
          replace b0 := A9.out.cell (by simp) b0
          replace b1 := A9.out.cell (by simp) b1
          replace b2 := A9.out.cell (by simp) b2
          have HRW := hidI (row_of LR.out (right_is HRA.out) (by rw [HNF.out]; omega))
          go_wp2_with (at_builtin; refine wpList_appL rfl _ _ rfl _ all f rfl (by exact LA.out) ra nf rc rfl HNF.out HRN.out (by exact HRW.out) (by rw [HNA.out]; omega) ?_)
          intro v9 w10 hown hgr hmov
          have A10 : Hid (Away (Value.slice ua na uc).ownBlock.toList w9 w10) := (Away.refl _ _).grown hgr (fun z hz => .inl (by simp [hz]))
          have HNU9 := hidI (HNU.out.moved hmov AW.out.size)
          have HB9 : Hid (Beside v9 g v2) := fun z hz => by
            rcases hmov z hz with h1 | h1
            · exact HBE.out z h1
            · exact ⟨by have := H.out.lt; omega, fun hc => by have := H.out.lst.lt z hc; omega⟩
          have hgn : g ∉ (Value.slice ua na uc).ownBlock.toList := fun hc => (HBE.out g (by simpa using hc)).1 rfl
          have hvn : ∀ z, v2.ownBlock = some z → z ∉ (Value.slice ua na uc).ownBlock.toList := fun z hz hc => (HBE.out z (by simpa using hc)).2 hz
          have hbn : w1.heap.size ∉ (Value.slice ua na uc).ownBlock.toList := fun hc => by have := HUL.out _ (by simpa using hc); omega
          have hhn : ∀ z, (Value.slice ha nm hc).ownBlock = some z → z ∉ (Value.slice ua na uc).ownBlock.toList := fun z hz hc => HHU.out z hz (by simpa using hc)
          replace b0 := A10.out.cell hbn b0
          replace b1 := A10.out.cell hbn b1
          replace b2 := A10.out.cell hbn b2
          replace H := hidI (H.out.away A10.out hgn hvn)
          replace LH := hidI (LH.out.away A10.out hhn)
          replace LA := hidI hown
          replace AW : Hid (Away [] w w10) := AW.out.next A10.out (fun z hz => .inr (HNU.out z (by simpa using hz)))
          have HBE := HB9
          have HNU := HNU9
          clear hown hgr hmov hgn hvn hbn hhn A10 HB9 HNU9 LR HRW
          obtain ⟨xa, xc, hxe, -, -⟩ := once_shape LA.out R.out.tld.is (by rw [List.length_append, HNA.out, HNF.out]; omega)
          obtain ⟨nx, hnx⟩ : ∃ nx, nx = (all ++ f).length := ⟨_, rfl⟩
          have hnxb : nx ≤ 8100000 := by rw [hnx, List.length_append, HNA.out, HNF.out]; omega
          rw [← hnx] at hxe
          subst hxe
          have HNX := hidI hnx.symm
          clear hnx
          have KE3 := hidI (end_c H.out)
          go_wp2_with fail
          refine KE3.out.mono ?_
          rintro E w10 ⟨rfl, rfl⟩
          obtain ⟨s1, hs1⟩ : ∃ s1, s1 = lenP (all ++ f) := ⟨_, rfl⟩
          obtain ⟨s2, hs2⟩ : ∃ s2, s2 = lenP m2 := ⟨_, rfl⟩
          have hsum := R.out.sum
          have hb1 := R.out.b1
          rw [← hs1, ← hs2] at hsum hb1
          have hee := R.out.ee
          have K18a : Hid (∀ q, Calls Try.prog 18 #[.slice xa nx xc] (w10.drewN q) fun E w' => E = .returned (.int .i64 s1) ∧ ∃ n, w' = (w10.drewN q).drewN n) := fun q => by rw [hs1]; exact size_c xa _ nx xc (w10.drewN q) HNX.out ((row_of LA.out R.out.tld.is (by rw [HNX.out]; omega)).drewN q) R.out.tld.is (by omega)
          have K18b : Hid (∀ q, Calls Try.prog 18 #[.slice ha nm hc] (w10.drewN q) fun E w' => E = .returned (.int .i64 s2) ∧ ∃ n, w' = (w10.drewN q).drewN n) := fun q => by rw [hs2]; exact size_c ha _ nm hc (w10.drewN q) HNM.out ((row_of LH.out (right_is HRH.out) (by rw [HNM.out]; omega)).drewN q) (right_is HRH.out) (by omega)
          have K21 : Hid (∀ q, Calls Try.prog 21 #[.slice xa nx xc, .slice ha nm hc] (w10.drewN q) fun E w' => E = .returned (.bool false) ∧ ∃ n, w' = (w10.drewN q).drewN n) := fun q => lmeets_c xa ha _ m2 nx nm xc hc (w10.drewN q) HNX.out HNM.out ((row_of LA.out R.out.tld.is (by rw [HNX.out]; omega)).drewN q) ((row_of LH.out (right_is HRH.out) (by rw [HNM.out]; omega)).drewN q) R.out.m3
          have K14 : Hid (∀ q, Calls Try.prog 14 #[.pointer (some ⟨g, 0, none⟩)] (w10.drewN q) fun E w' => E = .returned (.int .i64 e2) ∧ w' = w10.drewN q) := fun q => end_c (H.out.on ((Away.refl [] _).drewN q))
          have K15 : Hid (∀ q, Calls Try.prog 15 #[.pointer (some ⟨g, 0, none⟩)] (w10.drewN q) fun E w' => E = .returned (.bool (decide (0 ≤ e2) && decide (m2 = []))) ∧ w' = w10.drewN q) := fun q => by rw [← R.out.dn]; exact done_c (H.out.on ((Away.refl [] _).drewN q))
          have HFIN : Hid (∀ q, OnceI w (w10.drewN q) g (.slice xa nx xc) (k + 1)) := fun q => ⟨v2, m2, e2, T', all ++ f, H.out.on ((Away.refl [] _).drewN q), HP.out, LA.out.on ((Away.refl [] _).drewN q), by rw [HT'.out]; exact R.out.tld, HBE.out, HG.out, HNV2.out, HNU.out, AW.out.drewN q⟩
          have HML : Hid ((m2 = []) ↔ nm = 0) := by rw [← HNM.out]; exact List.length_eq_zero_iff.symm
          clear hs1 hs2 KE3
          have hw1 : IntKind.i64.wrap (s1 + s2) = s1 + s2 := by
            have : s1 + s2 ≤ 65535 := by rw [hsum]; unfold topOf; split <;> omega
            rw [IntKind.wrap_i64]; omega
          have hw2 : IntKind.i64.wrap (po + pn) = po + pn := by rw [IntKind.wrap_i64]; omega
          by_cases hen : e2 = -1
          · have hto : s1 + s2 = 65535 := by rw [hsum, hen]; rfl
            have hpm : pm = true := by
              cases pm
              · have := HEN.out rfl; omega
              · rfl
            have heo := HEO.out hpm
            subst hpm
            have HSS := hidI hto
            have hbn : (s1 + s2 != 65535) = false := by rw [hto]; rfl
            subst hen
            have hem : e = -1 := by omega
            subst hem
            have hd : (decide ((0 : Int) ≤ -1) && decide (m2 = [])) = false := rfl
            rw [hd] at K15
            clear hto hsum hb1 hee hd heo
            go_wp2_with fail
            refine wp_region_cls (C := DrewC w10) (by kernel_rfl) (by kernel_rfl) ⟨1, rfl⟩ ?_
            go_big_quiet_want; (refine quiet_val ?_ ?_ ?_; rotate_left; (intro w; go_simp; rfl); go_simp; go_big_quiet_on)
            go_big_quiet_want; refine quiet_call 18 #[.slice xa nx xc] (.int .i64 s1) ?_ (DrewC.call K18a.out) ?_
            · intro w; go_simp; done
            go_simp; go_big_quiet_on
            go_big_quiet_want; (refine quiet_val ?_ ?_ ?_; rotate_left; (intro w; go_simp; rfl); go_simp; go_big_quiet_on)
            go_big_quiet_want; refine quiet_call 18 #[.slice ha nm hc] (.int .i64 s2) ?_ (DrewC.call K18b.out) ?_
            · intro w; go_simp; done
            go_simp; go_big_quiet_on
            go_big_quiet_want; (refine quiet_val ?_ ?_ ?_; rotate_left; (intro w; go_simp; rfl); go_simp; go_big_quiet_on)
            go_big_quiet_want; (refine quiet_val ?_ ?_ ?_; rotate_left; (intro w; go_simp; rfl); go_simp; go_big_quiet_on)
            go_big_quiet_want; (refine quiet_val ?_ ?_ ?_; rotate_left; (intro w; go_simp; rfl); go_simp; go_big_quiet_on)
            go_big_quiet_want; (refine quiet_val ?_ ?_ ?_; rotate_left; (intro w; go_simp; rfl); go_simp; go_big_quiet_on)
            go_big_quiet_want; (refine quiet_val ?_ ?_ ?_; rotate_left; (intro w; go_simp; rfl); go_simp; go_big_quiet_on)
            go_big_quiet_want; (refine quiet_val ?_ ?_ ?_; rotate_left; (intro w; go_simp; rfl); go_simp; go_big_quiet_on)
            go_big_quiet_want; refine quiet_call 21 #[.slice xa nx xc, .slice ha nm hc] (.bool false) ?_ (DrewC.call K21.out) ?_
            · intro w; go_simp; done
            go_simp; go_big_quiet_on
            go_big_quiet_want; (refine quiet_val ?_ ?_ ?_; rotate_left; (intro w; go_simp; rfl); go_simp; go_big_quiet_on)
            go_big_quiet_want; (refine quiet_val ?_ ?_ ?_; rotate_left; (intro w; go_simp; rfl); go_simp; go_big_quiet_on)
            go_big_quiet_want; (refine quiet_val ?_ ?_ ?_; rotate_left; (intro w; go_simp; rfl); go_simp; go_big_quiet_on)
            go_big_quiet_want; refine quiet_ld _ rfl (ad := ⟨w1.heap.size, 2, none⟩) rfl (fun w' h => ld4 (h.cell b2)) ?_; go_simp; go_big_quiet_on
            go_big_quiet_want; (refine quiet_val ?_ ?_ ?_; rotate_left; (intro w; go_simp; rfl); go_simp; go_big_quiet_on)
            go_big_quiet_want; (refine quiet_val ?_ ?_ ?_; rotate_left; (intro w; go_simp; rfl); go_simp; go_big_quiet_on)
            go_big_quiet_skip
            go_big_quiet_skip
            go_big_quiet_skip
            go_big_quiet_skip
            go_big_quiet_skip
            go_big_quiet_skip
            go_big_quiet_skip
            go_big_quiet_skip
            go_big_quiet_want; (refine quiet_val ?_ ?_ ?_; rotate_left; (intro w; go_simp; rfl); go_simp; go_big_quiet_on)
            go_big_quiet_want; (refine quiet_val ?_ ?_ ?_; rotate_left; (intro w; go_simp; rfl); go_simp; go_big_quiet_on)
            go_big_quiet_want; (refine quiet_val ?_ ?_ ?_; rotate_left; (intro w; go_simp; rfl); go_simp; go_big_quiet_on)
            go_big_quiet_want; (refine quiet_val ?_ ?_ ?_; rotate_left; (intro w; go_simp; rfl); go_simp; go_big_quiet_on)
            go_big_quiet_want; refine quiet_ld _ rfl (ad := ⟨w1.heap.size, 2, none⟩) rfl (fun w' h => ld4 (h.cell b2)) ?_; go_simp; go_big_quiet_on
            go_big_quiet_want; (refine quiet_val ?_ ?_ ?_; rotate_left; (intro w; go_simp; rfl); go_simp; go_big_quiet_on)
            go_big_quiet_want; (refine quiet_val ?_ ?_ ?_; rotate_left; (intro w; go_simp; rfl); go_simp; go_big_quiet_on)
            go_big_quiet_want; refine quiet_call 14 #[.pointer (some ⟨g, 0, none⟩)] (.int .i64 (-1)) ?_ (DrewC.same K14.out) ?_
            · intro w; go_simp; done
            go_simp; go_big_quiet_on
            go_big_quiet_want; (refine quiet_val ?_ ?_ ?_; rotate_left; (intro w; go_simp; rfl); go_simp; go_big_quiet_on)
            go_big_quiet_want; (refine quiet_val ?_ ?_ ?_; rotate_left; (intro w; go_simp; rfl); go_simp; go_big_quiet_on)
            go_big_quiet_want; (refine quiet_val ?_ ?_ ?_; rotate_left; (intro w; go_simp; rfl); go_simp; go_big_quiet_on)
            go_big_quiet_want; (refine quiet_val ?_ ?_ ?_; rotate_left; (intro w; go_simp; rfl); go_simp; go_big_quiet_on)
            refine wpQuiet_nil ?_
            intro V hV
            obtain ⟨qV, rfl⟩ := hV
            go_wp2_with fail
            refine (K15.out _).mono ?_
            rintro E wZ ⟨rfl, rfl⟩
            go_wp2_with fail
            refine (K14.out _).mono ?_
            rintro E wZ ⟨rfl, rfl⟩
            go_wp2_with fail
            go_roundw
            case rel => exact ⟨k + 1, by go_num, by omega, HFIN.out _⟩
            case measure => simp [intOf]; omega
          · have hto : s1 + s2 = e2 := by rw [hsum]; unfold topOf; rw [if_neg hen]
            have hge : 0 ≤ e2 := by omega
            have hbn : (s1 + s2 != e2) = false := by rw [hto]; simp
            have hlt0 : ¬ (e2 < 0) := by omega
            rw [decide_eq_true hge, Bool.true_and] at K15
            have hz : decide (m2 = []) = ((nm : Int) == 0) := by
              rw [Bool.eq_iff_iff, decide_eq_true_eq, beq_iff_eq, HML.out]; omega
            rw [hz] at K15
            have HEQ := hidI hto
            cases pm
            · have he2 := HEN.out rfl
              have hbe : (e2 != po + pn) = false := by rw [he2]; simp
              have HE2 := hidI he2
              clear hto hsum hb1 hee hen he2 hz
              go_wp2_with fail
              refine wp_region_cls (C := DrewC w10) (by kernel_rfl) (by kernel_rfl) ⟨1, rfl⟩ ?_
              go_big_quiet_want; (refine quiet_val ?_ ?_ ?_; rotate_left; (intro w; go_simp; rfl); go_simp; go_big_quiet_on)
              go_big_quiet_want; refine quiet_call 18 #[.slice xa nx xc] (.int .i64 s1) ?_ (DrewC.call K18a.out) ?_
              · intro w; go_simp; done
              go_simp; go_big_quiet_on
              go_big_quiet_want; (refine quiet_val ?_ ?_ ?_; rotate_left; (intro w; go_simp; rfl); go_simp; go_big_quiet_on)
              go_big_quiet_want; refine quiet_call 18 #[.slice ha nm hc] (.int .i64 s2) ?_ (DrewC.call K18b.out) ?_
              · intro w; go_simp; done
              go_simp; go_big_quiet_on
              go_big_quiet_want; (refine quiet_val ?_ ?_ ?_; rotate_left; (intro w; go_simp; rfl); go_simp; go_big_quiet_on)
              go_big_quiet_want; (refine quiet_val ?_ ?_ ?_; rotate_left; (intro w; go_simp; rfl); go_simp; go_big_quiet_on)
              go_big_quiet_want; (refine quiet_val ?_ ?_ ?_; rotate_left; (intro w; go_simp; rfl); go_simp; go_big_quiet_on)
              go_big_quiet_want; (refine quiet_val ?_ ?_ ?_; rotate_left; (intro w; go_simp; rfl); go_simp; go_big_quiet_on)
              go_big_quiet_want; (refine quiet_val ?_ ?_ ?_; rotate_left; (intro w; go_simp; rfl); go_simp; go_big_quiet_on)
              go_big_quiet_want; (refine quiet_val ?_ ?_ ?_; rotate_left; (intro w; go_simp; rfl); go_simp; go_big_quiet_on)
              go_big_quiet_want; refine quiet_call 21 #[.slice xa nx xc, .slice ha nm hc] (.bool false) ?_ (DrewC.call K21.out) ?_
              · intro w; go_simp; done
              go_simp; go_big_quiet_on
              go_big_quiet_want; (refine quiet_val ?_ ?_ ?_; rotate_left; (intro w; go_simp; rfl); go_simp; go_big_quiet_on)
              go_big_quiet_want; (refine quiet_val ?_ ?_ ?_; rotate_left; (intro w; go_simp; rfl); go_simp; go_big_quiet_on)
              go_big_quiet_want; (refine quiet_val ?_ ?_ ?_; rotate_left; (intro w; go_simp; rfl); go_simp; go_big_quiet_on)
              go_big_quiet_want; refine quiet_ld _ rfl (ad := ⟨w1.heap.size, 2, none⟩) rfl (fun w' h => ld4 (h.cell b2)) ?_; go_simp; go_big_quiet_on
              go_big_quiet_want; (refine quiet_val ?_ ?_ ?_; rotate_left; (intro w; go_simp; rfl); go_simp; go_big_quiet_on)
              go_big_quiet_want; (refine quiet_val ?_ ?_ ?_; rotate_left; (intro w; go_simp; rfl); go_simp; go_big_quiet_on)
              go_big_quiet_want; (refine quiet_val ?_ ?_ ?_; rotate_left; (intro w; go_simp; rfl); go_simp; go_big_quiet_on)
              go_big_quiet_want; refine quiet_call 14 #[.pointer (some ⟨g, 0, none⟩)] (.int .i64 e2) ?_ (DrewC.same K14.out) ?_
              · intro w; go_simp; done
              go_simp; go_big_quiet_on
              go_big_quiet_want; (refine quiet_val ?_ ?_ ?_; rotate_left; (intro w; go_simp; rfl); go_simp; go_big_quiet_on)
              go_big_quiet_want; refine quiet_ld _ rfl (ad := ⟨w1.heap.size, 0, none⟩) rfl (fun w' h => ld3 (h.cell b0)) ?_; go_simp; go_big_quiet_on
              go_big_quiet_want; (refine quiet_val ?_ ?_ ?_; rotate_left; (intro w; go_simp; rfl); go_simp; go_big_quiet_on)
              go_big_quiet_want; refine quiet_ld _ rfl (ad := ⟨w1.heap.size, 1, none⟩) rfl (fun w' h => ld3 (h.cell b1)) ?_; go_simp; go_big_quiet_on
              go_big_quiet_want; (refine quiet_val ?_ ?_ ?_; rotate_left; (intro w; go_simp; rfl); go_simp; go_big_quiet_on)
              go_big_quiet_want; (refine quiet_val ?_ ?_ ?_; rotate_left; (intro w; go_simp; rfl); go_simp; go_big_quiet_on)
              go_big_quiet_want; (refine quiet_val ?_ ?_ ?_; rotate_left; (intro w; go_simp; rfl); go_simp; go_big_quiet_on)
              go_big_quiet_want; (refine quiet_val ?_ ?_ ?_; rotate_left; (intro w; go_simp; rfl); go_simp; go_big_quiet_on)
              go_big_quiet_want; (refine quiet_val ?_ ?_ ?_; rotate_left; (intro w; go_simp; rfl); go_simp; go_big_quiet_on)
              go_big_quiet_want; (refine quiet_val ?_ ?_ ?_; rotate_left; (intro w; go_simp; rfl); go_simp; go_big_quiet_on)
              go_big_quiet_want; refine quiet_ld _ rfl (ad := ⟨w1.heap.size, 2, none⟩) rfl (fun w' h => ld4 (h.cell b2)) ?_; go_simp; go_big_quiet_on
              go_big_quiet_want; (refine quiet_val ?_ ?_ ?_; rotate_left; (intro w; go_simp; rfl); go_simp; go_big_quiet_on)
              go_big_quiet_skip
              go_big_quiet_skip
              go_big_quiet_skip
              go_big_quiet_skip
              go_big_quiet_want; (refine quiet_val ?_ ?_ ?_; rotate_left; (intro w; go_simp; rfl); go_simp; go_big_quiet_on)
              go_big_quiet_want; (refine quiet_val ?_ ?_ ?_; rotate_left; (intro w; go_simp; rfl); go_simp; go_big_quiet_on)
              refine wpQuiet_nil ?_
              intro V hV
              obtain ⟨qV, rfl⟩ := hV
              go_wp2_with fail
              refine (K15.out _).mono ?_
              rintro E wZ ⟨rfl, rfl⟩
              go_wp2_with fail
              refine (K14.out _).mono ?_
              rintro E wZ ⟨rfl, rfl⟩
              go_wp2_with fail
              go_roundw
              case rel => exact ⟨k + 1, by go_num, by omega, HFIN.out _⟩
              case measure => simp [intOf]; omega
            · have he2 := HEO.out rfl
              have hbe : (e2 != e) = false := by rw [he2]; simp
              have HE2 := hidI he2
              clear hto hsum hb1 hee hen he2 hz
              go_wp2_with fail
              refine wp_region_cls (C := DrewC w10) (by kernel_rfl) (by kernel_rfl) ⟨1, rfl⟩ ?_
              go_big_quiet_want; (refine quiet_val ?_ ?_ ?_; rotate_left; (intro w; go_simp; rfl); go_simp; go_big_quiet_on)
              go_big_quiet_want; refine quiet_call 18 #[.slice xa nx xc] (.int .i64 s1) ?_ (DrewC.call K18a.out) ?_
              · intro w; go_simp; done
              go_simp; go_big_quiet_on
              go_big_quiet_want; (refine quiet_val ?_ ?_ ?_; rotate_left; (intro w; go_simp; rfl); go_simp; go_big_quiet_on)
              go_big_quiet_want; refine quiet_call 18 #[.slice ha nm hc] (.int .i64 s2) ?_ (DrewC.call K18b.out) ?_
              · intro w; go_simp; done
              go_simp; go_big_quiet_on
              go_big_quiet_want; (refine quiet_val ?_ ?_ ?_; rotate_left; (intro w; go_simp; rfl); go_simp; go_big_quiet_on)
              go_big_quiet_want; (refine quiet_val ?_ ?_ ?_; rotate_left; (intro w; go_simp; rfl); go_simp; go_big_quiet_on)
              go_big_quiet_want; (refine quiet_val ?_ ?_ ?_; rotate_left; (intro w; go_simp; rfl); go_simp; go_big_quiet_on)
              go_big_quiet_want; (refine quiet_val ?_ ?_ ?_; rotate_left; (intro w; go_simp; rfl); go_simp; go_big_quiet_on)
              go_big_quiet_want; (refine quiet_val ?_ ?_ ?_; rotate_left; (intro w; go_simp; rfl); go_simp; go_big_quiet_on)
              go_big_quiet_want; (refine quiet_val ?_ ?_ ?_; rotate_left; (intro w; go_simp; rfl); go_simp; go_big_quiet_on)
              go_big_quiet_want; refine quiet_call 21 #[.slice xa nx xc, .slice ha nm hc] (.bool false) ?_ (DrewC.call K21.out) ?_
              · intro w; go_simp; done
              go_simp; go_big_quiet_on
              go_big_quiet_want; (refine quiet_val ?_ ?_ ?_; rotate_left; (intro w; go_simp; rfl); go_simp; go_big_quiet_on)
              go_big_quiet_want; (refine quiet_val ?_ ?_ ?_; rotate_left; (intro w; go_simp; rfl); go_simp; go_big_quiet_on)
              go_big_quiet_want; (refine quiet_val ?_ ?_ ?_; rotate_left; (intro w; go_simp; rfl); go_simp; go_big_quiet_on)
              go_big_quiet_want; refine quiet_ld _ rfl (ad := ⟨w1.heap.size, 2, none⟩) rfl (fun w' h => ld4 (h.cell b2)) ?_; go_simp; go_big_quiet_on
              go_big_quiet_want; (refine quiet_val ?_ ?_ ?_; rotate_left; (intro w; go_simp; rfl); go_simp; go_big_quiet_on)
              go_big_quiet_want; (refine quiet_val ?_ ?_ ?_; rotate_left; (intro w; go_simp; rfl); go_simp; go_big_quiet_on)
              go_big_quiet_skip
              go_big_quiet_skip
              go_big_quiet_skip
              go_big_quiet_skip
              go_big_quiet_skip
              go_big_quiet_skip
              go_big_quiet_skip
              go_big_quiet_skip
              go_big_quiet_want; (refine quiet_val ?_ ?_ ?_; rotate_left; (intro w; go_simp; rfl); go_simp; go_big_quiet_on)
              go_big_quiet_want; (refine quiet_val ?_ ?_ ?_; rotate_left; (intro w; go_simp; rfl); go_simp; go_big_quiet_on)
              go_big_quiet_want; (refine quiet_val ?_ ?_ ?_; rotate_left; (intro w; go_simp; rfl); go_simp; go_big_quiet_on)
              go_big_quiet_want; (refine quiet_val ?_ ?_ ?_; rotate_left; (intro w; go_simp; rfl); go_simp; go_big_quiet_on)
              go_big_quiet_want; refine quiet_ld _ rfl (ad := ⟨w1.heap.size, 2, none⟩) rfl (fun w' h => ld4 (h.cell b2)) ?_; go_simp; go_big_quiet_on
              go_big_quiet_want; (refine quiet_val ?_ ?_ ?_; rotate_left; (intro w; go_simp; rfl); go_simp; go_big_quiet_on)
              go_big_quiet_want; (refine quiet_val ?_ ?_ ?_; rotate_left; (intro w; go_simp; rfl); go_simp; go_big_quiet_on)
              go_big_quiet_want; refine quiet_call 14 #[.pointer (some ⟨g, 0, none⟩)] (.int .i64 e2) ?_ (DrewC.same K14.out) ?_
              · intro w; go_simp; done
              go_simp; go_big_quiet_on
              go_big_quiet_want; (refine quiet_val ?_ ?_ ?_; rotate_left; (intro w; go_simp; rfl); go_simp; go_big_quiet_on)
              go_big_quiet_want; (refine quiet_val ?_ ?_ ?_; rotate_left; (intro w; go_simp; rfl); go_simp; go_big_quiet_on)
              go_big_quiet_want; (refine quiet_val ?_ ?_ ?_; rotate_left; (intro w; go_simp; rfl); go_simp; go_big_quiet_on)
              go_big_quiet_want; (refine quiet_val ?_ ?_ ?_; rotate_left; (intro w; go_simp; rfl); go_simp; go_big_quiet_on)
              refine wpQuiet_nil ?_
              intro V hV
              obtain ⟨qV, rfl⟩ := hV
              go_wp2_with fail
              refine (K15.out _).mono ?_
              rintro E wZ ⟨rfl, rfl⟩
              go_wp2_with fail
              refine (K14.out _).mono ?_
              rintro E wZ ⟨rfl, rfl⟩
              go_wp2_with fail
              go_roundw
              case rel => exact ⟨k + 1, by go_num, by omega, HFIN.out _⟩
              case measure => simp [intOf]; omega
        · have A2 := hidI haw2
          have HNO := hidI hno
          clear haw2 hno
          replace H := hidI (H.out.on A2.out)
          replace LA := hidI (LA.out.on A2.out)
          replace LW := hidI (LW.out.on A2.out)
          replace b0 := A2.out.cell (by simp) b0
          replace b1 := A2.out.cell (by simp) b1
          replace b2 := A2.out.cell (by simp) b2
          have KH2 := hidI (holes_c H.out)
          go_wp2_with fail
          refine KH2.out.mono ?_
          rintro E w3 ⟨h, rfl, hmk3⟩
          have A3 := hidI hmk3.2.2
          have LH := hidI hmk3.1
          clear hmk3 KH2
          replace H := hidI (H.out.on A3.out)
          replace LA := hidI (LA.out.on A3.out)
          replace LW := hidI (LW.out.on A3.out)
          replace b0 := A3.out.cell (by simp) b0
          replace b1 := A3.out.cell (by simp) b1
          replace b2 := A3.out.cell (by simp) b2
          have KS := hidI (same_yes LH.out LW.out (fun s hs => is_ok (right_is H.out.right s hs)) (by have := right_short H.out.right; omega))
          go_wp2_with fail
          refine KS.out.mono ?_
          rintro E w4 ⟨rfl, q4, h4⟩
          have A4 : Hid (Away [] w3 w4) := by show Away _ _ _; rw [h4]; exact (Away.refl _ _).drewN _
          clear h4 KS
          replace H := hidI (H.out.on A4.out)
          replace LA := hidI (LA.out.on A4.out)
          replace b0 := A4.out.cell (by simp) b0
          replace b1 := A4.out.cell (by simp) b1
          replace b2 := A4.out.cell (by simp) b2
          have KE2 := hidI (end_c H.out)
          go_wp2_with fail
          refine KE2.out.mono ?_
          rintro E w4 ⟨rfl, rfl⟩
          go_wp2_with fail
          go_roundw
          case rel => exact ⟨k + 1, by go_num, by omega, v, m, e, T, all, H.out, HO.out, LA.out, TL.out.mono (Nat.le_succ k), HBE.out, HG.out, HNV.out, HNU.out, (((HAW.out.trans (A1.out.trans AB.out)).trans A2.out).trans A3.out).trans A4.out⟩
          case measure => simp [intOf]; omega
      · have hk3 : ¬ ((k : Int) < 200) := by omega
        go_wp2_with fail
        go_ret
        exact ⟨rfl, haw.to_below⟩
    · go_wp2_with fail
      go_ret
      exact ⟨rfl, haw.to_below⟩
theorem lifted (os : Os) (started : os.Started) (H : Type) (enc : TypeId × Value → H) :
    ReturnsInHanded {} Try.checked os 6 .any (Rows.holesOnceSpec.pre6 enc Try.prog Try.f6 Rows.holesOnceRow.domain false) (Rows.holesOnceSpec.post enc Try.prog Try.f6 false true false false) := by
  refine returnsInHanded_of_change_sized (C := Try.checked) ownKn started (by kernel_rfl) Try.func6
    (ChangeSpec.witness6 (enc := enc) (C := Try.checked) false ⟨#[], #[.slice none 0 0], []⟩ 8 (by kernel_rfl) (by kernel_rfl) (by kernel_rfl) (by kernel_rfl)) ?_
  intro W base args ds gs before hval0 hW _ hsz0 _
  have hsz : (DataW.weightsEach Try.prog (Try.f6.params.toList ++ Rows.holesOnceSpec.plain.varTypes Try.prog) (ds ++ gs)).all (· ≤ reachBytes) = true := hsz0
  clear hsz0
  have hval : ∀ (j : Nat) t v, Try.f6.params[j]? = some t → args[j]? = some v → Value.okWide Try.prog W .any base t v := hval0
  have hW' := hW
  obtain ⟨p, q, hA0, hV, rfl, hfz, hnd⟩ := hW
  have hA : DataW.TrodAll enc Try.prog W 0 (fun _ => true) true Try.f6.params.toList args.toList ds p := hA0
  rw [Try.params6] at hA hval hsz
  obtain ⟨v0, vs0, d0, ds0, p0, q0, hargs, rfl, rfl, h0, r0⟩ := trodAll_cons hA
  obtain ⟨rfl, rfl, rfl⟩ := trodAll_nil r0
  obtain rfl : args = #[v0] := by cases args; simp_all
  have hV2 : DataW.TrodVars enc Try.prog W (fun _ => true) Rows.holesOnceSpec.vars gs q := hV
  obtain ⟨rfl, rfl⟩ := trodVars_none hV2
  have k0 := h0
  have lt0 : ∀ x ∈ p0, x.block < W.heap.size := by obtain ⟨m, hm⟩ := k0; exact DataW.trod_lt m _ _ _ hm
  have z0 : ∀ m ∈ d0.weights Try.prog 22, m ≤ reachBytes := fun m hm => by
    have := List.all_eq_true.1 hsz m (DataW.weights_mem_each (j := 0) (t := 22) rfl rfl m hm)
    simpa using this
  obtain ⟨a0, len0, cap0, rfl⟩ := okWide_slice Try.underlying22 (hval 0 22 v0 rfl rfl)
  obtain ⟨l0, rfl, w0, u0, b0⟩ := open_script h0 z0 lt0
  clear hA0 hval0
  refine (walk a0 l0 cap0 W w0 b0).mono fun e W' ⟨he, bel⟩ => ?_
  subst he
  exact ⟨_, rfl, _, _, _, [], _, [], hW', trodAll_mk1 (shut_bool Try.underlying4 _), (trodAll_cons_mk (Below.trod laidOut (by kernel_rfl) (of_decide_eq_true (by kernel_rfl)) k0 bel lt0) trodAll_mk0), rfl, bel.frame _, fun h => by cases h⟩
theorem over : Rows.holesOnceRow.holds Try.pinned (OpenSpec.ofChange Rows.holesOnceSpec) :=
  OpenClaim.holds_of_wide 6 Try.f6 rfl rfl rfl rfl rfl rfl rfl ⟨rfl, rfl, rfl, rfl, rfl⟩ rfl rfl rfl rfl rfl (by kernel_rfl) Try.func6 (by kernel_rfl)
    (of_decide_eq_true (by kernel_rfl)) (by unfold Func.isWrapper; first | (rw [if_pos (by decide +kernel)]; kernel_rfl) | (rw [if_neg (by decide +kernel)]; exact ⟨rfl, rfl⟩))
    (fun os started H enc _ => lifted os started H enc)
end holesOnce
theorem holesOnce_holds : Rows.HolesOnceSaid := holesOnce.over
#print axioms holesOnce_holds
end Go.Proofs.Ytcjkhpinccjncaa
