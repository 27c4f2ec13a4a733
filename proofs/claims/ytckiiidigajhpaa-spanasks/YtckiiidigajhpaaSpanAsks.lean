/-
  SpanAsks.
-/
import Derived.Test.YtckiiidigajhpaaAlive
import Derived.Test.YtckiiidigajhpaaRkit
import Derived.Test.YtckiiidigajhpaaAsk5
import Derived.Deep.RegionHeld3
namespace Go.Proofs.Ytckiiidigajhpaa
open Go.ChangeShapes Go.WideShapes Go.ChangeAt Go.RowKit Go.Deep
set_option linter.unusedVariables false
set_option maxRecDepth 100000

namespace spanAsks
set_option maxHeartbeats 8000000 in
theorem walk (a : Option Addr) (l : List Sp) (cap : Nat) (s : Sp) (to : Int) (W : World) (hsl : Sl W a cap l) (hl : l.length ≤ 8796093021952) (hsp : OkS s) (hto0 : (Lit.int .i64 to).wf = true) :
    Calls Try.prog 7 #[.slice a l.length cap, valS s, .int .i64 to] W fun e w' => e = .returned (.bool true) ∧ Below W.heap.size W w' := by
  have HL : Hid (Sl W a cap l) := hsl
  obtain ⟨nl, hnl⟩ : ∃ n, l.length = n := ⟨_, rfl⟩
  rw [hnl]
  have NL := hidI hnl
  clear hsl hto0 hsp hl hnl
  obtain ⟨s1, s2⟩ := s
  simp only [valS]
  have HW : Hid (Away [] W (W.alloc (.cells #[.int .i64 s1, .int .i64 s2] 29))) := (Away.refl _ _).alloc _
  have HC0 : Hid ((W.alloc (.cells #[.int .i64 s1, .int .i64 s2] 29)).cell? ⟨W.heap.size, 0, none⟩ = some (.int .i64 s1)) := by show _ = _; rw [World.cell?_alloc_at (hn := rfl)]; rfl
  have HC1 : Hid ((W.alloc (.cells #[.int .i64 s1, .int .i64 s2] 29)).cell? ⟨W.heap.size, 1, none⟩ = some (.int .i64 s2)) := by show _ = _; rw [World.cell?_alloc_at (hn := rfl)]; rfl
  go_enter Try.func7, Try.ntmps7
  go_upto_region 1 with fail
  obtain ⟨g, hg⟩ : ∃ g, g = W.heap.size := ⟨_, rfl⟩
  rw [← hg] at HC0 HC1 ⊢
  clear hg
  replace HL := hidI (HL.out.on HW.out)
  generalize W.alloc (.cells #[.int .i64 s1, .int .i64 s2] 29) = w0 at *
  go_wp2_with fail
  refine (alive_c _).mono ?_
  rintro E w2 ⟨rfl, haw⟩
  replace HW := hidI (HW.out.trans haw)
  replace HL := hidI (HL.out.on haw)
  replace HC0 := hidI (haw.cell (by simp) HC0.out)
  replace HC1 := hidI (haw.cell (by simp) HC1.out)
  clear haw
  go_wp2_with fail
  refine (own_s (by exact HL.out) NL.out).mono ?_
  rintro E w2 ⟨ao, co, rfl, hso, hoo, haw⟩
  replace HW := hidI (HW.out.trans haw)
  replace HL := hidI (HL.out.on haw)
  replace HC0 := hidI (haw.cell (by simp) HC0.out)
  replace HC1 := hidI (haw.cell (by simp) HC1.out)
  have Ho := hidI hso
  have HOo := hidI hoo
  clear hso hoo
  clear haw
  go_wp2_with fail
  refine (normA (by exact Ho.out) NL.out).mono ?_
  rintro E w2 ⟨r, e, hnorm, an, cn, nn, rfl, hnn, hsn, haw⟩
  replace HW := hidI (HW.out.trans haw)
  replace HL := hidI (HL.out.on haw)
  replace HC0 := hidI (haw.cell (by simp) HC0.out)
  replace HC1 := hidI (haw.cell (by simp) HC1.out)
  have Hn := hidI hsn
  have Nn := hidI hnn
  have HNO := hidI hnorm
  clear hsn hnn hnorm haw Ho HOo
  go_wp2_with fail
  refine (rnormA (by exact HL.out) NL.out HNO.out).mono ?_
  rintro E w2 ⟨am, cm, nm, rfl, hnm, hsm, haw⟩
  replace HW := hidI (HW.out.trans haw)
  replace HL := hidI (HL.out.on haw)
  replace HC0 := hidI (haw.cell (by simp) HC0.out)
  replace HC1 := hidI (haw.cell (by simp) HC1.out)
  replace Hn := hidI (Hn.out.on haw)
  have Hm := hidI hsm
  have Nm := hidI hnm
  clear hsm hnm
  clear haw
  have be : (e != e) = false := by simp
  go_wp2_with fail
  refine (same_s (z := true) (l := r) (m := r) (by exact Hn.out) (by exact Hm.out) Nn.out Nm.out (by simp)).mono ?_
  rintro E w2 ⟨rfl, haw⟩
  replace HW := hidI (HW.out.trans haw)
  replace HL := hidI (HL.out.on haw)
  replace HC0 := hidI (haw.cell (by simp) HC0.out)
  replace HC1 := hidI (haw.cell (by simp) HC1.out)
  replace Hm := hidI (Hm.out.on haw)
  clear haw
  obtain ⟨zr, hzr⟩ : ∃ z, rightP l = z := ⟨_, rfl⟩
  obtain ⟨zs, hzs⟩ : ∃ z, sizeP l = z := ⟨_, rfl⟩
  have HZR := hidI hzr
  have HZS := hidI hzs
  clear hzr hzs
  have br : (zr != zr) = false := by simp
  have bs : (zs != zs) = false := by simp
  go_wp2_with fail
  refine (own_s (by exact HL.out) NL.out).mono ?_
  rintro E w2 ⟨ap, cp, rfl, hsp, hop, haw⟩
  replace HW := hidI (HW.out.trans haw)
  replace HL := hidI (HL.out.on haw)
  replace HC0 := hidI (haw.cell (by simp) HC0.out)
  replace HC1 := hidI (haw.cell (by simp) HC1.out)
  replace Hm := hidI (Hm.out.on haw)
  have Hp := hidI hsp
  have HOp := hidI hop
  clear hsp hop
  clear haw
  go_wp2_with fail
  refine (rightS (by exact Hp.out) NL.out HZR.out).mono ?_
  rintro E w2 ⟨rfl, haw⟩
  replace HW := hidI (HW.out.trans haw)
  replace HL := hidI (HL.out.on haw)
  replace HC0 := hidI (haw.cell (by simp) HC0.out)
  replace HC1 := hidI (haw.cell (by simp) HC1.out)
  replace Hm := hidI (Hm.out.on haw)
  clear haw
  go_wp2_with fail
  refine (rrightS (by exact HL.out) NL.out HZR.out).mono ?_
  rintro E w2 ⟨rfl, haw⟩
  replace HW := hidI (HW.out.trans haw)
  replace HL := hidI (HL.out.on haw)
  replace HC0 := hidI (haw.cell (by simp) HC0.out)
  replace HC1 := hidI (haw.cell (by simp) HC1.out)
  replace Hm := hidI (Hm.out.on haw)
  clear haw
  go_wp2_with fail
  refine (own_s (by exact HL.out) NL.out).mono ?_
  rintro E w2 ⟨aq, cq, rfl, hsq, hoq, haw⟩
  replace HW := hidI (HW.out.trans haw)
  replace HL := hidI (HL.out.on haw)
  replace HC0 := hidI (haw.cell (by simp) HC0.out)
  replace HC1 := hidI (haw.cell (by simp) HC1.out)
  replace Hm := hidI (Hm.out.on haw)
  have Hq := hidI hsq
  have HOq := hidI hoq
  clear hsq hoq
  clear haw
  go_wp2_with fail
  refine (sizeS (by exact Hq.out) NL.out HZS.out).mono ?_
  rintro E w2 ⟨rfl, haw⟩
  replace HW := hidI (HW.out.trans haw)
  replace HL := hidI (HL.out.on haw)
  replace HC0 := hidI (haw.cell (by simp) HC0.out)
  replace HC1 := hidI (haw.cell (by simp) HC1.out)
  replace Hm := hidI (Hm.out.on haw)
  clear haw
  go_wp2_with fail
  refine (rsizeS (by exact HL.out) NL.out HZS.out).mono ?_
  rintro E w2 ⟨rfl, haw⟩
  replace HW := hidI (HW.out.trans haw)
  replace HL := hidI (HL.out.on haw)
  replace HC0 := hidI (haw.cell (by simp) HC0.out)
  replace HC1 := hidI (haw.cell (by simp) HC1.out)
  replace Hm := hidI (Hm.out.on haw)
  clear haw
  clear HNO Hn Nn Hp HOp Hq HOq HZR HZS br bs be
  go_wp2_with fail
  generalize hW8 : w2 = W8 at *
  clear hW8
  go_loopw [0, 12] (fun v i wr => ∃ (k : Nat) (la : Option Addr) (lc ln : Nat) (L : List Sp), k ≤ 2 ∧ i = .int .i64 (k : Int) ∧ v = .slice la ln lc ∧ L.length = ln ∧ Sl W8 la lc L ∧ Away [] W8 wr) (fun _ i _ => 2 - (intOf i).toNat)
  case atStart => exact ⟨0, a, cap, nl, l, by omega, rfl, rfl, NL.out, HL.out, Away.refl _ _⟩
  case round =>
    clear HL NL
    obtain ⟨k, la, lc, ln, L, hk, rfl, rfl, hLn, hLs, haw⟩ := hrel
    have NL := hidI hLn
    have HL := hidI (hLs.on haw)
    have HM8 := hidI Hm.out
    have HAW8 := hidI haw
    replace HW := hidI (HW.out.trans haw)
    replace HC0 := hidI (haw.cell (by simp) HC0.out)
    replace HC1 := hidI (haw.cell (by simp) HC1.out)
    clear hLn hLs haw
    by_cases hlt : k < 2
    · obtain ⟨bb, hbb⟩ : ∃ b, (rightP L && isB (s1, s2)) = b := ⟨_, rfl⟩
      obtain ⟨bh, hbh⟩ : ∃ b, (rightP L && decide (0 ≤ to ∧ to ≤ 65535)) = b := ⟨_, rfl⟩
      obtain ⟨ra, hra⟩ : ∃ r, resR bb (addP L (s1, s2)) = r := ⟨_, rfl⟩
      obtain ⟨rc, hrc⟩ : ∃ r, resR bb (cutP L (s1, s2)) = r := ⟨_, rfl⟩
      obtain ⟨rh, hrh⟩ : ∃ r, resR bh (holesP L to) = r := ⟨_, rfl⟩
      obtain ⟨ee, hee⟩ : ∃ e, resE bb = e := ⟨_, rfl⟩
      obtain ⟨eh, heh⟩ : ∃ e, resE bh = e := ⟨_, rfl⟩
      have KA : Hid (∀ W' a' c', Sl W' a' c' L → Old W' a' → Calls Try.prog 13 #[.slice a' ln c', .agg #[.int .i64 s1, .int .i64 s2]] W' fun E w' => AnsS W' ra ee E w') := fun W' a' c' h ho => by rw [← hra, ← hee, ← hbb]; exact addA (s1, s2) h NL.out ho
      have KB : Hid (∀ W' a' c', Sl W' a' c' L → Calls Try.prog 27 #[.slice a' ln c', .agg #[.int .i64 s1, .int .i64 s2]] W' fun E w' => AnsS W' ra ee E w') := fun W' a' c' h => by rw [← hra, ← hee, ← hbb]; exact raddA (s1, s2) h NL.out
      have KC : Hid (∀ W' a' c', Sl W' a' c' L → Calls Try.prog 14 #[.slice a' ln c', .agg #[.int .i64 s1, .int .i64 s2]] W' fun E w' => AnsS W' rc ee E w') := fun W' a' c' h => by rw [← hrc, ← hee, ← hbb]; exact cutA (s1, s2) h NL.out
      have KD : Hid (∀ W' a' c', Sl W' a' c' L → Calls Try.prog 28 #[.slice a' ln c', .agg #[.int .i64 s1, .int .i64 s2]] W' fun E w' => AnsS W' rc ee E w') := fun W' a' c' h => by rw [← hrc, ← hee, ← hbb]; exact rcutA (s1, s2) h NL.out
      have KE : Hid (∀ W' a' c', Sl W' a' c' L → Calls Try.prog 15 #[.slice a' ln c', .int .i64 to] W' fun E w' => AnsS W' rh eh E w') := fun W' a' c' h => by rw [← hrh, ← heh, ← hbh]; exact holesA to h NL.out
      have KF : Hid (∀ W' a' c', Sl W' a' c' L → Calls Try.prog 29 #[.slice a' ln c', .int .i64 to] W' fun E w' => AnsS W' rh eh E w') := fun W' a' c' h => by rw [← hrh, ← heh, ← hbh]; exact rholesA to h NL.out
      obtain ⟨zh, hzh⟩ : ∃ z, (rightP L && isB (s1, s2) && hasP L (s1, s2)) = z := ⟨_, rfl⟩
      obtain ⟨zm, hzm⟩ : ∃ z, (rightP L && isB (s1, s2) && meetsP L (s1, s2)) = z := ⟨_, rfl⟩
      obtain ⟨zs, hzs⟩ : ∃ z, sizeP L = z := ⟨_, rfl⟩
      have HZH := hidI hzh
      have HZM := hidI hzm
      have HZS := hidI hzs
      clear hbb hbh hra hrc hrh hee heh hzh hzm hzs
      have b1 : (ee != ee) = false := by simp
      have b2 : (eh != eh) = false := by simp
      have b3 : (zh != zh) = false := by simp
      have b4 : (zm != zm) = false := by simp
      have b5 : (zs != zs) = false := by simp
      go_wp2_with fail
      have c0 := HC0.out
      have c1 := HC1.out
      go_region_held3 (fun w' => w'.cell? ⟨g, 0, none⟩ = some (.int .i64 s1) ∧ w'.cell? ⟨g, 1, none⟩ = some (.int .i64 s2)) (go_keep)
        (first
          | (go_at_call 10; refine (own_s (by exact HL.out.on ((Away.refl [] _).drew)) NL.out).mono ?_; rintro E w2 ⟨ao, co, rfl, hso, hoo, haw⟩; have HSO := hidI hso; have HOO := hidI hoo; have hawD := ((Away.refl [] wr).drew).trans haw; have z0 := hawD.cell (by simp) c0; have z1 := hawD.cell (by simp) c1)
          | (go_at_call 13; refine (KA.out _ _ _ (by exact HSO.out) (by exact HOO.out)).mono ?_; rintro E w3 ⟨aA, cA, nA, rfl, hnA, hsA, haw3⟩; have y0 := haw3.cell (by simp) z0; have y1 := haw3.cell (by simp) z1))
      all_goals
        have haw := hawD.trans haw3
        clear hawD haw3 z0 z1 y0 y1 c0 c1 hso hoo HSO HOO
        replace HW := hidI (HW.out.trans haw)
        replace HL := hidI (HL.out.on haw)
        replace HC0 := hidI (haw.cell (by simp) HC0.out)
        replace HC1 := hidI (haw.cell (by simp) HC1.out)
        replace HAW8 := hidI (HAW8.out.trans haw)
        have HA := hidI hsA
        have NA := hidI hnA
        clear hsA hnA haw
        go_wp2_with fail
        refine (KB.out _ _ _ (by exact HL.out)).mono ?_
        rintro E w2 ⟨aB, cB, nB, rfl, hnB, hsB, haw⟩
        replace HW := hidI (HW.out.trans haw)
        replace HL := hidI (HL.out.on haw)
        replace HC0 := hidI (haw.cell (by simp) HC0.out)
        replace HC1 := hidI (haw.cell (by simp) HC1.out)
        replace HA := hidI (HA.out.on haw)
        replace HAW8 := hidI (HAW8.out.trans haw)
        have HB := hidI hsB
        have NB := hidI hnB
        clear hsB hnB haw
        generalize hWY : w2 = WY at *
        clear hWY
        go_wp2_with fail
        have c0 := HC0.out
        have c1 := HC1.out
        go_region_held3 (fun w' => w'.cell? ⟨g, 0, none⟩ = some (.int .i64 s1) ∧ w'.cell? ⟨g, 1, none⟩ = some (.int .i64 s2)) (go_keep)
          (first
            | (go_at_call 10; refine (own_s (by exact HL.out.on ((Away.refl [] _).drew)) NL.out).mono ?_; rintro E w2 ⟨ao, co, rfl, hso, hoo, haw⟩; have HSO := hidI hso; have HOO := hidI hoo; have hawD := ((Away.refl [] WY).drew).trans haw; have z0 := hawD.cell (by simp) c0; have z1 := hawD.cell (by simp) c1)
            | (go_at_call 14; refine (KC.out _ _ _ (by exact HSO.out)).mono ?_; rintro E w3 ⟨aC, cC, nC, rfl, hnC, hsC, haw3⟩; have y0 := haw3.cell (by simp) z0; have y1 := haw3.cell (by simp) z1))
        all_goals
          have haw := hawD.trans haw3
          clear hawD haw3 z0 z1 y0 y1 c0 c1 hso hoo HSO HOO
          replace HW := hidI (HW.out.trans haw)
          replace HL := hidI (HL.out.on haw)
          replace HC0 := hidI (haw.cell (by simp) HC0.out)
          replace HC1 := hidI (haw.cell (by simp) HC1.out)
          replace HA := hidI (HA.out.on haw)
          replace HB := hidI (HB.out.on haw)
          replace HAW8 := hidI (HAW8.out.trans haw)
          have HC := hidI hsC
          have NC := hidI hnC
          clear hsC hnC haw
          go_wp2_with fail
          refine (KD.out _ _ _ (by exact HL.out)).mono ?_
          rintro E w2 ⟨aD, cD, nD, rfl, hnD, hsD, haw⟩
          replace HW := hidI (HW.out.trans haw)
          replace HL := hidI (HL.out.on haw)
          replace HC0 := hidI (haw.cell (by simp) HC0.out)
          replace HC1 := hidI (haw.cell (by simp) HC1.out)
          replace HA := hidI (HA.out.on haw)
          replace HB := hidI (HB.out.on haw)
          replace HC := hidI (HC.out.on haw)
          replace HAW8 := hidI (HAW8.out.trans haw)
          have HD := hidI hsD
          have ND := hidI hnD
          clear hsD hnD haw
          go_wp2_with fail
          refine (own_s (by exact HL.out) NL.out).mono ?_
          rintro E w2 ⟨ax, cx, rfl, hsx, -, haw⟩
          replace HW := hidI (HW.out.trans haw)
          replace HL := hidI (HL.out.on haw)
          replace HC0 := hidI (haw.cell (by simp) HC0.out)
          replace HC1 := hidI (haw.cell (by simp) HC1.out)
          replace HA := hidI (HA.out.on haw)
          replace HB := hidI (HB.out.on haw)
          replace HC := hidI (HC.out.on haw)
          replace HD := hidI (HD.out.on haw)
          replace HAW8 := hidI (HAW8.out.trans haw)
          have Hx := hidI hsx
          clear hsx haw
          go_wp2_with fail
          refine (KE.out _ _ _ (by exact Hx.out)).mono ?_
          rintro E w2 ⟨aE, cE, nE, rfl, hnE, hsE, haw⟩
          replace HW := hidI (HW.out.trans haw)
          replace HL := hidI (HL.out.on haw)
          replace HC0 := hidI (haw.cell (by simp) HC0.out)
          replace HC1 := hidI (haw.cell (by simp) HC1.out)
          replace HA := hidI (HA.out.on haw)
          replace HB := hidI (HB.out.on haw)
          replace HC := hidI (HC.out.on haw)
          replace HD := hidI (HD.out.on haw)
          replace HAW8 := hidI (HAW8.out.trans haw)
          have HE := hidI hsE
          have NE := hidI hnE
          clear hsE hnE haw
          clear Hx
          go_wp2_with fail
          refine (KF.out _ _ _ (by exact HL.out)).mono ?_
          rintro E w2 ⟨aF, cF, nF, rfl, hnF, hsF, haw⟩
          replace HW := hidI (HW.out.trans haw)
          replace HL := hidI (HL.out.on haw)
          replace HC0 := hidI (haw.cell (by simp) HC0.out)
          replace HC1 := hidI (haw.cell (by simp) HC1.out)
          replace HA := hidI (HA.out.on haw)
          replace HB := hidI (HB.out.on haw)
          replace HC := hidI (HC.out.on haw)
          replace HD := hidI (HD.out.on haw)
          replace HE := hidI (HE.out.on haw)
          replace HAW8 := hidI (HAW8.out.trans haw)
          have HF := hidI hsF
          have NF := hidI hnF
          clear hsF hnF haw
          go_wp2_with fail
          refine (same_s (z := true) (l := ra) (m := ra) (by exact HA.out) (by exact HB.out) NA.out NB.out (by simp)).mono ?_
          rintro E w2 ⟨rfl, haw⟩
          replace HW := hidI (HW.out.trans haw)
          replace HL := hidI (HL.out.on haw)
          replace HC0 := hidI (haw.cell (by simp) HC0.out)
          replace HC1 := hidI (haw.cell (by simp) HC1.out)
          replace HC := hidI (HC.out.on haw)
          replace HD := hidI (HD.out.on haw)
          replace HE := hidI (HE.out.on haw)
          replace HF := hidI (HF.out.on haw)
          replace HAW8 := hidI (HAW8.out.trans haw)
          clear haw
          go_wp2_with fail
          refine (same_s (z := true) (l := rc) (m := rc) (by exact HC.out) (by exact HD.out) NC.out ND.out (by simp)).mono ?_
          rintro E w2 ⟨rfl, haw⟩
          replace HW := hidI (HW.out.trans haw)
          replace HL := hidI (HL.out.on haw)
          replace HC0 := hidI (haw.cell (by simp) HC0.out)
          replace HC1 := hidI (haw.cell (by simp) HC1.out)
          replace HE := hidI (HE.out.on haw)
          replace HF := hidI (HF.out.on haw)
          replace HAW8 := hidI (HAW8.out.trans haw)
          clear haw
          go_wp2_with fail
          refine (same_s (z := true) (l := rh) (m := rh) (by exact HE.out) (by exact HF.out) NE.out NF.out (by simp)).mono ?_
          rintro E w2 ⟨rfl, haw⟩
          replace HW := hidI (HW.out.trans haw)
          replace HL := hidI (HL.out.on haw)
          replace HC0 := hidI (haw.cell (by simp) HC0.out)
          replace HC1 := hidI (haw.cell (by simp) HC1.out)
          replace HAW8 := hidI (HAW8.out.trans haw)
          clear haw
          clear HA HB HC HD HE HF NA NB NC ND NE NF KA KB KC KD KE KF
          generalize hWZ : w2 = WZ at *
          clear hWZ
          go_wp2_with fail
          have c0 := HC0.out
          have c1 := HC1.out
          have hawN : Away [] WZ WZ.drew := (Away.refl [] _).drew
          go_region_held3 (fun w' => w'.cell? ⟨g, 0, none⟩ = some (.int .i64 s1) ∧ w'.cell? ⟨g, 1, none⟩ = some (.int .i64 s2)) (go_keep)
            (first
              | (go_at_call 10; refine (own_s (by exact HL.out.on hawN) NL.out).mono ?_; rintro E w2 ⟨ao, co, rfl, hso, -, haw⟩; replace hawN := hawN.trans haw; have z0 := hawN.cell (by simp) c0; have z1 := hawN.cell (by simp) c1)
              | (go_at_call 16; refine (hasS (s1, s2) (by exact hso) NL.out HZH.out).mono ?_; rintro E w2 ⟨rfl, haw⟩; replace hawN := hawN.trans haw; have z0 := hawN.cell (by simp) c0; have z1 := hawN.cell (by simp) c1)
              | (go_at_call 30; refine (rhasS (s1, s2) (by exact HL.out.on hawN) NL.out HZH.out).mono ?_; rintro E w2 ⟨rfl, haw⟩; replace hawN := hawN.trans haw; have z0 := hawN.cell (by simp) c0; have z1 := hawN.cell (by simp) c1)
              | (go_at_call 17; refine (meetsS (s1, s2) (by exact hso) NL.out HZM.out).mono ?_; rintro E w2 ⟨rfl, haw⟩; replace hawN := hawN.trans haw; have z0 := hawN.cell (by simp) c0; have z1 := hawN.cell (by simp) c1)
              | (go_at_call 31; refine (rmeetsS (s1, s2) (by exact HL.out.on hawN) NL.out HZM.out).mono ?_; rintro E w2 ⟨rfl, haw⟩; replace hawN := hawN.trans haw; have z0 := hawN.cell (by simp) c0; have z1 := hawN.cell (by simp) c1)
              | (go_at_call 18; refine (sizeS (by exact hso) NL.out HZS.out).mono ?_; rintro E w2 ⟨rfl, haw⟩; replace hawN := hawN.trans haw; have z0 := hawN.cell (by simp) c0; have z1 := hawN.cell (by simp) c1)
              | (go_at_call 26; refine (rsizeS (by exact HL.out.on hawN) NL.out HZS.out).mono ?_; rintro E w2 ⟨rfl, haw⟩; replace hawN := hawN.trans haw; have z0 := hawN.cell (by simp) c0; have z1 := hawN.cell (by simp) c1))
          all_goals
            go_wp2_with fail
            go_roundw
            case rel => exact ⟨k + 1, am, cm, nm, r, by omega, by go_num, rfl, Nm.out, HM8.out, HAW8.out.trans hawN⟩
            case measure => simp [intOf]; omega
    · obtain rfl : k = 2 := by omega
      go_wp2_with fail
      go_ret
      exact ⟨rfl, HW.out.to_below⟩
end spanAsks
namespace spanAsks
theorem lifted (os : Os) (started : os.Started) (H : Type) (enc : TypeId × Value → H) :
    ReturnsInHanded {} Try.checked os 7 .any (Rows.spanAsksSpec.pre6 enc Try.prog Try.f7 Rows.spanAsksRow.domain false) (Rows.spanAsksSpec.post enc Try.prog Try.f7 false true false false) := by
  refine returnsInHanded_of_change_sized (C := Try.checked) ownKn started (by kernel_rfl) Try.func7
    (ChangeSpec.witness6 (enc := enc) (C := Try.checked) false ⟨#[], #[.slice none 0 0, .agg #[.int .i64 0, .int .i64 0], .int .i64 0], []⟩ 8 (by kernel_rfl) (by kernel_rfl) (by kernel_rfl) (by kernel_rfl)) ?_
  intro W base args ds gs before hval0 hW _ hsz0 _
  have hsz : (DataW.weightsEach Try.prog (Try.f7.params.toList ++ Rows.spanAsksSpec.plain.varTypes Try.prog) (ds ++ gs)).all (· ≤ reachBytes) = true := hsz0
  clear hsz0
  have hval : ∀ (j : Nat) t v, Try.f7.params[j]? = some t → args[j]? = some v → Value.okWide Try.prog W .any base t v := hval0
  have hW' := hW
  obtain ⟨p, q, hA0, hV, rfl, hfz, hnd⟩ := hW
  have hA : DataW.TrodAll enc Try.prog W 0 (fun _ => true) true Try.f7.params.toList args.toList ds p := hA0
  rw [Try.params7] at hA hval hsz
  obtain ⟨v0, vs0, d0, ds0, p0, q0, hargs, rfl, rfl, h0, r0⟩ := trodAll_cons hA
  obtain ⟨v1, vs1, d1, ds1, p1, q1, rfl, rfl, rfl, h1, r1⟩ := trodAll_cons r0
  obtain ⟨v2, vs2, d2, ds2, p2, q2, rfl, rfl, rfl, h2, r2⟩ := trodAll_cons r1
  obtain ⟨rfl, rfl, rfl⟩ := trodAll_nil r2
  obtain rfl : args = #[v0, v1, v2] := by cases args; simp_all
  have hV2 : DataW.TrodVars enc Try.prog W (fun _ => true) Rows.spanAsksSpec.vars gs q := hV
  obtain ⟨rfl, rfl⟩ := trodVars_none hV2
  have k0 := h0
  have lt0 : ∀ x ∈ p0, x.block < W.heap.size := by obtain ⟨m, hm⟩ := k0; exact DataW.trod_lt m _ _ _ hm
  have z0 : ∀ m ∈ d0.weights Try.prog 22, m ≤ reachBytes := fun m hm => by
    have := List.all_eq_true.1 hsz m (DataW.weights_mem_each (j := 0) (t := 22) rfl rfl m hm)
    simpa using this
  obtain ⟨a0, len0, cap0, rfl⟩ := okWide_slice Try.underlying22 (hval 0 22 v0 rfl rfl)
  obtain ⟨l0, rfl, w0, u0, b0⟩ := open_spans h0 z0 lt0
  have k1 := h1
  have lt1 : ∀ x ∈ p1, x.block < W.heap.size := by obtain ⟨m, hm⟩ := k1; exact DataW.trod_lt m _ _ _ hm
  have z1 : ∀ m ∈ d1.weights Try.prog 29, m ≤ reachBytes := fun m hm => by
    have := List.all_eq_true.1 hsz m (DataW.weights_mem_each (j := 1) (t := 29) rfl rfl m hm)
    simpa using this
  obtain ⟨x1, rfl, w1⟩ := open_sp (hval 1 29 v1 rfl rfl) h1
  obtain ⟨a2, rfl, rfl, rfl, w2⟩ := open_int Try.underlying3 (hval 2 3 v2 rfl rfl) h2
  clear hA0 hval0
  refine (walk a0 l0 cap0 x1 a2 W w0 b0 w1 w2).mono fun e W' ⟨he, bel⟩ => ?_
  subst he
  exact ⟨_, rfl, _, _, _, [], _, [], hW', trodAll_mk1 (shut_bool Try.underlying4 _), (trodAll_cons_mk (Below.trod laidOut (by kernel_rfl) (of_decide_eq_true (by kernel_rfl)) k0 bel lt0) (trodAll_cons_mk (Below.trod laidOut (by kernel_rfl) (of_decide_eq_true (by kernel_rfl)) k1 bel lt1) (trodAll_cons_mk (shut_int Try.underlying3 w2) trodAll_mk0))), rfl, bel.frame _, fun h => by cases h⟩
theorem over : Rows.spanAsksRow.holds Try.pinned (OpenSpec.ofChange Rows.spanAsksSpec) :=
  OpenClaim.holds_of_wide 7 Try.f7 rfl rfl rfl rfl rfl rfl rfl ⟨rfl, rfl, rfl, rfl, rfl⟩ rfl rfl rfl rfl rfl (by kernel_rfl) Try.func7 (by kernel_rfl)
    (of_decide_eq_true (by kernel_rfl)) (by unfold Func.isWrapper; first | (rw [if_pos (by decide +kernel)]; kernel_rfl) | (rw [if_neg (by decide +kernel)]; exact ⟨rfl, rfl⟩))
    (fun os started H enc _ => lifted os started H enc)
end spanAsks
theorem spanAsks_holds : Rows.SpanAsksSaid := spanAsks.over
#print axioms spanAsks_holds
end Go.Proofs.Ytckiiidigajhpaa
