/-
  QueueOrders.
-/
import Derived.Test.YtdgkkbiodhbmeaaTak
namespace Go.Proofs.Ytdgkkbiodhbmeaa
open Go.ChangeShapes Go.WideShapes Go.ChangeAt Go.RowKit Go.Deep
set_option linter.unusedVariables false
set_option linter.unusedSimpArgs false
set_option maxRecDepth 100000
set_option maxHeartbeats 8000000

namespace queueOrders
theorem drop_cons {T : List (Int × Int)} {p : Nat} (h : p < T.length) : ∃ q, T[p]? = some q ∧ (T.drop p).map thP = thP q :: (T.drop (p + 1)).map thP := by
  refine ⟨T[p], by simp [h], ?_⟩
  rw [List.drop_eq_getElem_cons h, List.map_cons]
theorem drop_snoc {T : List (Int × Int)} {p : Nat} (q : Int × Int) (h : p ≤ T.length) : ((T ++ [q]).drop p).map thP = (T.drop p).map thP ++ [thP q] := by
  rw [List.drop_append_of_le_length h, List.map_append]; rfl
theorem get_op {S : List Op2} {i : Nat} (h : i < S.length) : ∃ x, S[i]? = some x := ⟨S[i], by simp [h]⟩
theorem walk (c b : Int) (sa : Option Addr) (S : List Op2) (scap : Nat) (w : World) (hc0 : (Lit.int .i64 c).wf = true) (hb0 : (Lit.int .i64 b).wf = true) (hS : RowC (fun _ => 0) w sa S) (hSl : S.length ≤ 8796093021952) : Calls Try.prog 4 #[.int .i64 c, .int .i64 b, .slice sa S.length scap] w fun E w' => E = .returned (.bool true) ∧ Below w.heap.size w w' := by
  have hc := bounds_i64 hc0
  have hb := bounds_i64 hb0
  clear hc0 hb0
  obtain ⟨o0, ho, hR⟩ : ∃ o, Out o w w ∧ RowC o w sa S := ⟨_, Out.start w, hS⟩
  have HO := Lib.hid ho
  have HR := Lib.hid hR
  clear ho hR hS
  by_cases hm : 0 ≤ c ∧ c ≤ 64 ∧ 0 ≤ b
  · obtain ⟨m1, m2, m3⟩ := hm
    have hcc := hc
    clear hc
    go_enter Try.func4, Try.ntmps4
    go_wp2_with fail
    refine (KP.new_o o0 1 c b 18 _ m1 m2 m3 (by omega)).mono ?_
    rintro E w1 ⟨g, rfl, hq, hc⟩
    replace HO := Lib.hid (HO.out.keep hc (by decide))
    replace HR := Lib.hid (HR.out.keep hc (by decide))
    have HQ := Lib.hid hq
    clear hq hc
    generalize give o0 w 1 = o1 at *
    go_wp2_with fail
    refine (known_c _).mono ?_
    rintro E w2 ⟨rfl, haw⟩
    have hc := Chg.on (o := o1) 9 haw
    clear haw
    replace HO := Lib.hid (HO.out.keep hc (by decide))
    replace HR := Lib.hid (HR.out.keep hc (by decide))
    replace HQ := Lib.hid (HQ.out.keep hc (by decide))
    clear hc
    generalize give o1 w1 9 = o2 at *
    go_wp2_with fail
    go_loopw [9, 10, 11, 12] (fun vt po he ix wr => ∃ (i p : Nat) (T : List (Int × Int)) (o : Nat → Nat) (L : List Th), ix = .int .i64 (i : Int) ∧ po = .int .i64 (p : Int) ∧ he = .int .i64 (sumT L) ∧ i ≤ S.length ∧ p ≤ T.length ∧ T.length ≤ i ∧ L = (T.drop p).map thP ∧ Out o w wr ∧ RowC o wr sa S ∧ KP.Ow o 1 wr g c b 18 L ∧ Tk o 2 wr vt T) (fun _ _ _ ix _ => S.length - (intOf ix).toNat)
    case atStart => exact ⟨0, 0, [], o2, [], rfl, rfl, rfl, by omega, by simp, by simp, rfl, HO.out, HR.out, HQ.out, Tk.nil _ _ _⟩
    case round =>
      clear HO HR HQ
      obtain ⟨i, p, T, q0, L, rfl, rfl, rfl, hi, hp, hTi, hL, ho, hR, hQ, hT⟩ := hrel
      have HO := Lib.hid ho
      have HR := Lib.hid hR
      have HQ := Lib.hid hQ
      have HT := Lib.hid hT
      have HL := Lib.hid hL
      have hLn : (L.length : Int) + p = T.length := by rw [hL]; simp; omega
      clear ho hR hQ hT hL
      have HLN := Lib.hid hLn
      have hbn := HQ.out.bnd
      have hlen := hbn.len
      have hsum := hbn.sum
      have hs0 := sumT_pos hbn.pos
      clear hbn
      obtain ⟨ta, tc, hte⟩ := HT.out.shape
      subst hte
      by_cases hlt : i < S.length
      · have i1 : decide ((i : Int) < (S.length : Int)) = true := decide_eq_true (by omega)
        obtain ⟨x, hx⟩ := get_op hlt
        obtain ⟨sb, so, hsa, cx1, cx2, hx64⟩ := HR.out.at hx
        subst hsa
        obtain ⟨xp, xv⟩ := x
        simp only at cx1 cx2 hx64
        unfold I64 at hx64
        have x1 : 0 ≤ (i : Int) := by omega
        have x2 : (i : Int) < (S.length : Int) := by omega
        have x3 : (i : Int).toNat = i := by omega
        clear hx
        have hc := Chg.on (o := q0) 3 ((Away.refl [] wr).alloc (.cells #[.bool xp, .int .i64 xv] 47))
        have HOa := Lib.hid (HO.out.keep hc (by decide))
        have HRa := Lib.hid (HR.out.keep hc (by decide))
        have HQa := Lib.hid (HQ.out.keep hc (by decide))
        have HTa := Lib.hid (HT.out.keep hc (by decide))
        have HXa := Lib.hid (BxO.new q0 3 wr #[.bool xp, .int .i64 xv] 47)
        clear hc HO HR HQ HT
        have HO := HOa
        clear HOa
        have HR := HRa
        clear HRa
        have HQ := HQa
        clear HQa
        have HT := HTa
        clear HTa
        go_upto_region 11 with fail
        have HX := HXa
        clear HXa
        generalize give q0 wr 3 = q1 at *
        generalize hbk : wr.heap.size = bk at HX ⊢
        clear hbk
        generalize wr.alloc (.cells #[.bool xp, .int .i64 xv] 47) = wa at *
        clear cx1 cx2
        have cb0 : wa.cell? ⟨bk, 0, none⟩ = some (.bool xp) := HX.out.at 0
        have cb1 : wa.cell? ⟨bk, 1, none⟩ = some (.int .i64 xv) := HX.out.at 1
        cases xp
        · by_cases hpt : p < T.length
          · obtain ⟨y, hy, hdr⟩ := drop_cons hpt
            obtain ⟨y1, y2⟩ := y
            have hL2 := HL.out.trans hdr
            simp only [thP, encT] at hL2
            have HL2 := Lib.hid hL2
            rw [HL2.out] at HQ hs0 hsum hlen HLN ⊢
            clear hL2 hdr HL
            obtain ⟨tg, tcc, hte2, cy1, cy2⟩ := HT.out.at hy
            simp only [Value.slice.injEq] at hte2
            obtain ⟨rfl, -, rfl⟩ := hte2
            generalize hLr : (T.drop (p + 1)).map thP = Lr at *
            have HLR := Lib.hid hLr
            clear hLr
            rw [sumT_cons] at hs0 hsum ⊢
            simp only at hs0 hsum ⊢
            clear cy1 cy2
            go_wp2_with fail
            refine (KP.pop_s y1 y2 (max y2 0) (by exact HQ.out)).mono ?_
            rintro E w3 ⟨rfl, hq, hc⟩
            replace HO := Lib.hid (HO.out.keep hc (by decide))
            replace HR := Lib.hid (HR.out.keep hc (by decide))
            replace HT := Lib.hid (HT.out.keep hc (by decide))
            replace HX := Lib.hid (HX.out.keep hc (by decide))
            replace HQ := Lib.hid hq
            clear hq hc
            generalize give q1 wa 1 = o2 at *
            obtain ⟨tg, tcc, hte2, cy1, cy2⟩ := HT.out.at hy
            simp only [Value.slice.injEq] at hte2
            obtain ⟨hte3, -, rfl⟩ := hte2
            simp only [Option.some.injEq, Addr.mk.injEq] at hte3
            obtain ⟨rfl, -, -⟩ := hte3
            have i2 : decide ((p : Int) < (T.length : Int)) = true := decide_eq_true (by omega)
            go_upto_region 22 with fail
            clear cy1 cy2 cb0 cb1
            have hc := Chg.on (o := o2) 9 ((Away.refl [] w3).alloc (.cells #[.int .i64 y1, .int .i64 y2] 43))
            replace HO := Lib.hid (HO.out.keep hc (by decide))
            replace HR := Lib.hid (HR.out.keep hc (by decide))
            replace HQ := Lib.hid (HQ.out.keep hc (by decide))
            replace HT := Lib.hid (HT.out.keep hc (by decide))
            replace HX := Lib.hid (HX.out.keep hc (by decide))
            have db0 := cell_of_block (block_new w3 (.cells #[.int .i64 y1, .int .i64 y2] 43)) 0
            have db1 := cell_of_block (block_new w3 (.cells #[.int .i64 y1, .int .i64 y2] 43)) 1
            simp only [List.getElem?_toArray, List.getElem?_cons_zero, List.getElem?_cons_succ] at db0 db1
            clear hc
            generalize give o2 w3 9 = q30 at *
            generalize hbk : w3.heap.size = dbk at db0 db1 ⊢
            clear hbk
            generalize w3.alloc (.cells #[.int .i64 y1, .int .i64 y2] 43) = w4 at *
            obtain ⟨tg2, tcc2, hte2, cy1, cy2⟩ := HT.out.at hy
            simp only [Value.slice.injEq] at hte2
            obtain ⟨hte3, -, hte4⟩ := hte2
            simp only [Option.some.injEq, Addr.mk.injEq] at hte3
            obtain ⟨hte5, -, -⟩ := hte3
            subst hte5 hte4
            have y5 : 0 ≤ (p : Int) := by omega
            have y6 : (p : Int).toNat = p := by omega
            have y7 : (p : Int) < (T.length : Int) := by omega
            have y8 : max y2 0 + sumT Lr - max y2 0 = sumT Lr := by omega
            have y9 := sumT_pos HQ.out.bnd.pos
            have HLN2 : Hid ((Lr.length : Int) + ((p : Int) + 1) = T.length) := by have h1 := HLN.out; simp at h1; show _ = _; omega
            clear HLN
            have g43 := guard43
            have q43 := eq43 y1 y2
            go_quiet (fail)
            clear g43 q43
            have hc := Chg.on (o := q30) 9 ((Away.refl [] w4).drewN nq)
            replace HO := Lib.hid (HO.out.keep hc (by decide))
            replace HR := Lib.hid (HR.out.keep hc (by decide))
            replace HQ := Lib.hid (HQ.out.keep hc (by decide))
            replace HT := Lib.hid (HT.out.keep hc (by decide))
            replace HX := Lib.hid (HX.out.keep hc (by decide))
            replace db1 : (w4.drewN nq).cell? ⟨dbk, 1, none⟩ = some (.int .i64 y2) := db1
            clear hc db0 cy1 cy2
            generalize give q30 w4 9 = q7 at *
            generalize w4.drewN nq = w7 at *
            go_upto_region 25 with fail
            clear db1 y8
            clear hlen hsum hs0
            have hbn := HQ.out.bnd
            have hlen := hbn.len
            have hsum := hbn.sum
            clear hbn
            have j1 : ((Lr.length : Int) != (T.length : Int) - ((p : Int) + 1)) = false := by simp; have h1 := HLN2.out; omega
            have j2 : decide (c < (Lr.length : Int)) = false := decide_eq_false (by omega)
            have j4 : decide (b < sumT Lr) = false := decide_eq_false (by omega)
            generalize hln : (Lr.length : Int) = ln at j1 j2
            have KL := Lib.hid (KP.len_o HQ.out)
            have KB := Lib.hid (KP.bytes_o HQ.out)
            rw [hln] at KL
            clear hln
            go_wp2_with fail
            refine KL.out.mono ?_
            rintro E w99 ⟨rfl, h9⟩
            replace h9 := h9.symm
            subst h9
            go_wp2_with fail
            refine KL.out.mono ?_
            rintro E w99 ⟨rfl, h9⟩
            replace h9 := h9.symm
            subst h9
            go_wp2_with fail
            refine KB.out.mono ?_
            rintro E w99 ⟨rfl, h9⟩
            replace h9 := h9.symm
            subst h9
            go_wp2_with fail
            go_roundw
            case rel => exact ⟨i + 1, p + 1, T, _, Lr, by go_num, by go_num, rfl, by omega, by omega, by omega, HLR.out.symm, HO.out, HR.out, HQ.out, HT.out⟩
            case measure => simp [intOf]; omega
          · have hL0 : L = [] := by rw [HL.out, List.drop_of_length_le (by omega)]; rfl
            subst hL0
            have HLN2 := HLN
            clear HLN
            go_wp2_with fail
            refine (KP.pop_n (by exact HQ.out)).mono ?_
            rintro E w3 ⟨rfl, hq, hc⟩
            replace HO := Lib.hid (HO.out.keep hc (by decide))
            replace HR := Lib.hid (HR.out.keep hc (by decide))
            replace HT := Lib.hid (HT.out.keep hc (by decide))
            replace HX := Lib.hid (HX.out.keep hc (by decide))
            replace HQ := Lib.hid hq
            clear hq hc
            generalize give q1 wa 1 = o2 at *
            have i2 : decide ((p : Int) < (T.length : Int)) = false := decide_eq_false (by omega)
            go_upto_region 19 with fail
            clear cb0 cb1
            have hc := Chg.on (o := o2) 9 ((Away.refl [] w3).alloc (.cells #[.int .i64 0, .int .i64 0] 43))
            replace HO := Lib.hid (HO.out.keep hc (by decide))
            replace HR := Lib.hid (HR.out.keep hc (by decide))
            replace HQ := Lib.hid (HQ.out.keep hc (by decide))
            replace HT := Lib.hid (HT.out.keep hc (by decide))
            replace HX := Lib.hid (HX.out.keep hc (by decide))
            have db0 := cell_of_block (block_new w3 (.cells #[.int .i64 0, .int .i64 0] 43)) 0
            have db1 := cell_of_block (block_new w3 (.cells #[.int .i64 0, .int .i64 0] 43)) 1
            simp only [List.getElem?_toArray, List.getElem?_cons_zero, List.getElem?_cons_succ] at db0 db1
            clear hc
            generalize give o2 w3 9 = q30 at *
            generalize hbk : w3.heap.size = dbk at db0 db1 ⊢
            clear hbk
            generalize w3.alloc (.cells #[.int .i64 0, .int .i64 0] 43) = w4 at *
            go_upto_region 26 with fail
            clear db0 db1
            clear hlen hsum hs0
            have hbn := HQ.out.bnd
            have hlen := hbn.len
            have hsum := hbn.sum
            clear hbn
            have j1 : ((([] : List Th).length : Int) != (T.length : Int) - (p : Int)) = false := by simp; have h1 := HLN2.out; omega
            have j2 : decide (c < (([] : List Th).length : Int)) = false := decide_eq_false (by omega)
            have j4 : decide (b < sumT ([] : List Th)) = false := decide_eq_false (by omega)
            generalize hln : (([] : List Th).length : Int) = ln at j1 j2
            have KL := Lib.hid (KP.len_o HQ.out)
            have KB := Lib.hid (KP.bytes_o HQ.out)
            rw [hln] at KL
            clear hln
            go_wp2_with fail
            refine KL.out.mono ?_
            rintro E w99 ⟨rfl, h9⟩
            replace h9 := h9.symm
            subst h9
            go_wp2_with fail
            refine KL.out.mono ?_
            rintro E w99 ⟨rfl, h9⟩
            replace h9 := h9.symm
            subst h9
            go_wp2_with fail
            refine KB.out.mono ?_
            rintro E w99 ⟨rfl, h9⟩
            replace h9 := h9.symm
            subst h9
            go_wp2_with fail
            go_roundw
            case rel => exact ⟨i + 1, p, T, _, ([] : List Th), by go_num, by go_num, rfl, by omega, by omega, by omega, HL.out, HO.out, HR.out, HQ.out, HT.out⟩
            case measure => simp [intOf]; omega
        · go_wp2_with fail
          by_cases hroom : roomP c b L (max xv 0) = true
          · refine (KP.push18_y (i : Int) xv (max xv 0) HQ.out (by omega) rfl hroom).mono ?_
            rintro E w3 ⟨rfl, hq, hc⟩
            replace HO := Lib.hid (HO.out.keep hc (by decide))
            replace HR := Lib.hid (HR.out.keep hc (by decide))
            replace HT := Lib.hid (HT.out.keep hc (by decide))
            replace HX := Lib.hid (HX.out.keep hc (by decide))
            replace HQ := Lib.hid hq
            clear hq hc
            generalize give q1 wa 1 = o2 at *
            have hrm := of_decide_eq_true hroom
            clear cb0 cb1 hroom
            have cb1 : w3.cell? ⟨bk, 1, none⟩ = some (.int .i64 xv) := HX.out.at 1
            go_wp2_with (at_builtin; refine wpList_appT rfl _ _ rfl (.slice ta T.length tc) T rfl (by exact HT.out) ((i : Int), xv) rfl rfl (by omega) ?_; refine Hid.out ?_)
            refine Lib.hid ?_
            intro vt2 w4 hq hc
            replace HO := Lib.hid (HO.out.keep hc (by decide))
            replace HR := Lib.hid (HR.out.keep hc (by decide))
            replace HQ := Lib.hid (HQ.out.keep hc (by decide))
            replace HX := Lib.hid (HX.out.keep hc (by decide))
            replace HT := Lib.hid hq
            clear hq hc
            generalize give o2 w3 2 = o3 at *
            obtain ⟨ta2, tc2, hte⟩ := HT.out.shape
            subst hte
            clear cb1
            have HLX : Hid (L ++ [⟨[.int .i64 (i : Int), .int .i64 xv], max xv 0⟩] = ((T ++ [((i : Int), xv)]).drop p).map thP) := by show _ = _; rw [drop_snoc _ hp, ← HL.out]; rfl
            have hTX : (T ++ [((i : Int), xv)]).length = T.length + 1 := by simp
            have hSX := sumT_snoc L ⟨[.int .i64 (i : Int), .int .i64 xv], max xv 0⟩
            have hLX : ((L ++ [(⟨[.int .i64 (i : Int), .int .i64 xv], max xv 0⟩ : Th)]).length : Int) = L.length + 1 := by simp
            generalize L ++ [(⟨[.int .i64 (i : Int), .int .i64 xv], max xv 0⟩ : Th)] = Lx at *
            generalize T ++ [((i : Int), xv)] = Tx at *
            simp only at hSX
            have HSX := Lib.hid hSX
            have hTx2 : Tx.length ≤ 8796093021952 := by omega
            have hpx : p ≤ Tx.length := by omega
            have hTxi : Tx.length ≤ i + 1 := by omega
            have HLN2 : Hid ((Lx.length : Int) + (p : Int) = Tx.length) := by have h1 := HLN.out; show _ = _; omega
            clear hSX hTX hLX HLN
            go_upto_region 26 with fail
            rw [← HSX.out]
            clear hlen hsum hs0
            have hbn := HQ.out.bnd
            have hlen := hbn.len
            have hsum := hbn.sum
            clear hbn
            have j1 : ((Lx.length : Int) != (Tx.length : Int) - (p : Int)) = false := by simp; have h1 := HLN2.out; omega
            have j2 : decide (c < (Lx.length : Int)) = false := decide_eq_false (by omega)
            have j4 : decide (b < sumT Lx) = false := decide_eq_false (by omega)
            generalize hln : (Lx.length : Int) = ln at j1 j2
            have KL := Lib.hid (KP.len_o HQ.out)
            have KB := Lib.hid (KP.bytes_o HQ.out)
            rw [hln] at KL
            clear hln
            go_wp2_with fail
            refine KL.out.mono ?_
            rintro E w99 ⟨rfl, h9⟩
            replace h9 := h9.symm
            subst h9
            go_wp2_with fail
            refine KL.out.mono ?_
            rintro E w99 ⟨rfl, h9⟩
            replace h9 := h9.symm
            subst h9
            go_wp2_with fail
            refine KB.out.mono ?_
            rintro E w99 ⟨rfl, h9⟩
            replace h9 := h9.symm
            subst h9
            go_wp2_with fail
            go_roundw
            case rel => exact ⟨i + 1, p, Tx, _, Lx, by go_num, by go_num, rfl, by omega, by omega, by omega, HLX.out, HO.out, HR.out, HQ.out, HT.out⟩
            case measure => simp [intOf]; omega
          · simp only [Bool.not_eq_true] at hroom
            refine (KP.push18_x (i : Int) xv (max xv 0) HQ.out (by omega) rfl hroom).mono ?_
            rintro E w3 ⟨rfl, hq, hc⟩
            replace HO := Lib.hid (HO.out.keep hc (by decide))
            replace HR := Lib.hid (HR.out.keep hc (by decide))
            replace HT := Lib.hid (HT.out.keep hc (by decide))
            replace HX := Lib.hid (HX.out.keep hc (by decide))
            replace HQ := Lib.hid hq
            clear hq hc
            generalize give q1 wa 1 = o2 at *
            have hrm := of_decide_eq_false hroom
            clear cb0 cb1 hroom
            have HLN2 := HLN
            by_cases hcn : (L.length : Int) < c
            · have k1 : decide ((T.length : Int) - (p : Int) < c) = true := decide_eq_true (by have h1 := HLN.out; omega)
              have k2 : decide (max xv 0 ≤ b - sumT L) = false := decide_eq_false (by omega)
              clear HLN hcn hrm
              go_upto_region 26 with fail
              clear k1 k2
              clear hlen hsum hs0
              have hbn := HQ.out.bnd
              have hlen := hbn.len
              have hsum := hbn.sum
              clear hbn
              have j1 : ((L.length : Int) != (T.length : Int) - (p : Int)) = false := by simp; have h1 := HLN2.out; omega
              have j2 : decide (c < (L.length : Int)) = false := decide_eq_false (by omega)
              have j4 : decide (b < sumT L) = false := decide_eq_false (by omega)
              generalize hln : (L.length : Int) = ln at j1 j2
              have KL := Lib.hid (KP.len_o HQ.out)
              have KB := Lib.hid (KP.bytes_o HQ.out)
              rw [hln] at KL
              clear hln
              go_wp2_with fail
              refine KL.out.mono ?_
              rintro E w99 ⟨rfl, h9⟩
              replace h9 := h9.symm
              subst h9
              go_wp2_with fail
              refine KL.out.mono ?_
              rintro E w99 ⟨rfl, h9⟩
              replace h9 := h9.symm
              subst h9
              go_wp2_with fail
              refine KB.out.mono ?_
              rintro E w99 ⟨rfl, h9⟩
              replace h9 := h9.symm
              subst h9
              go_wp2_with fail
              go_roundw
              case rel => exact ⟨i + 1, p, T, _, L, by go_num, by go_num, rfl, by omega, by omega, by omega, HL.out, HO.out, HR.out, HQ.out, HT.out⟩
              case measure => simp [intOf]; omega
            · have k1 : decide ((T.length : Int) - (p : Int) < c) = false := decide_eq_false (by have h1 := HLN.out; omega)
              clear HLN hcn hrm
              go_upto_region 26 with fail
              clear k1
              clear hlen hsum hs0
              have hbn := HQ.out.bnd
              have hlen := hbn.len
              have hsum := hbn.sum
              clear hbn
              have j1 : ((L.length : Int) != (T.length : Int) - (p : Int)) = false := by simp; have h1 := HLN2.out; omega
              have j2 : decide (c < (L.length : Int)) = false := decide_eq_false (by omega)
              have j4 : decide (b < sumT L) = false := decide_eq_false (by omega)
              generalize hln : (L.length : Int) = ln at j1 j2
              have KL := Lib.hid (KP.len_o HQ.out)
              have KB := Lib.hid (KP.bytes_o HQ.out)
              rw [hln] at KL
              clear hln
              go_wp2_with fail
              refine KL.out.mono ?_
              rintro E w99 ⟨rfl, h9⟩
              replace h9 := h9.symm
              subst h9
              go_wp2_with fail
              refine KL.out.mono ?_
              rintro E w99 ⟨rfl, h9⟩
              replace h9 := h9.symm
              subst h9
              go_wp2_with fail
              refine KB.out.mono ?_
              rintro E w99 ⟨rfl, h9⟩
              replace h9 := h9.symm
              subst h9
              go_wp2_with fail
              go_roundw
              case rel => exact ⟨i + 1, p, T, _, L, by go_num, by go_num, rfl, by omega, by omega, by omega, HL.out, HO.out, HR.out, HQ.out, HT.out⟩
              case measure => simp [intOf]; omega
      · obtain rfl : i = S.length := by omega
        have i1 : decide ((S.length : Int) < (S.length : Int)) = false := by simp
        go_wp2_with fail
        go_loopw [10] (fun po wr2 => ∃ (p : Nat) (o : Nat → Nat) (L : List Th), po = .int .i64 (p : Int) ∧ p ≤ T.length ∧ L = (T.drop p).map thP ∧ Out o w wr2 ∧ KP.Ow o 1 wr2 g c b 18 L ∧ Tk o 2 wr2 (.slice ta T.length tc) T) (fun po _ => T.length - (intOf po).toNat)
        case atStart => exact ⟨p, q0, L, rfl, hp, HL.out, HO.out, HQ.out, HT.out⟩
        case round =>
          clear HO HR HQ HT HL HLN hlen hsum hs0 hp hLn
          obtain ⟨p2, q2, L2, rfl, hp2, hL, ho, hQ, hT⟩ := hrel
          have HO := Lib.hid ho
          have HQ := Lib.hid hQ
          have HT := Lib.hid hT
          have HL := Lib.hid hL
          clear ho hQ hT hL
          by_cases hpt : p2 < T.length
          · have i2 : decide ((p2 : Int) < (T.length : Int)) = true := decide_eq_true (by omega)
            obtain ⟨y, hy, hdr⟩ := drop_cons hpt
            obtain ⟨y1, y2⟩ := y
            have hL2 := HL.out.trans hdr
            simp only [thP, encT] at hL2
            have HL2 := Lib.hid hL2
            rw [HL2.out] at HQ
            clear hL2 hdr HL
            generalize hLr : (T.drop (p2 + 1)).map thP = Lr at *
            have HLR := Lib.hid hLr
            clear hLr
            go_wp2_with fail
            refine (KP.pop_s y1 y2 (max y2 0) (by exact HQ.out)).mono ?_
            rintro E w3 ⟨rfl, hq, hc⟩
            replace HO := Lib.hid (HO.out.keep hc (by decide))
            replace HT := Lib.hid (HT.out.keep hc (by decide))
            replace HQ := Lib.hid hq
            clear hq hc
            generalize give q2 wr 1 = o3 at *
            go_upto_region 30 with fail
            have hc := Chg.on (o := o3) 9 ((Away.refl [] w3).alloc (.cells #[.int .i64 y1, .int .i64 y2] 43))
            replace HO := Lib.hid (HO.out.keep hc (by decide))
            replace HQ := Lib.hid (HQ.out.keep hc (by decide))
            replace HT := Lib.hid (HT.out.keep hc (by decide))
            have db0 := cell_of_block (block_new w3 (.cells #[.int .i64 y1, .int .i64 y2] 43)) 0
            have db1 := cell_of_block (block_new w3 (.cells #[.int .i64 y1, .int .i64 y2] 43)) 1
            simp only [List.getElem?_toArray, List.getElem?_cons_zero, List.getElem?_cons_succ] at db0 db1
            clear hc
            generalize give o3 w3 9 = q40 at *
            generalize hbk : w3.heap.size = dbk at db0 db1 ⊢
            clear hbk
            generalize w3.alloc (.cells #[.int .i64 y1, .int .i64 y2] 43) = w4 at *
            obtain ⟨tg2, tcc2, hte2, cy1, cy2⟩ := HT.out.at hy
            simp only [Value.slice.injEq] at hte2
            obtain ⟨hte3, -, hte4⟩ := hte2
            subst hte3 hte4
            have y5 : 0 ≤ (p2 : Int) := by omega
            have y6 : (p2 : Int).toNat = p2 := by omega
            have y7 : (p2 : Int) < (T.length : Int) := by omega
            have g43 := guard43
            have q43 := eq43 y1 y2
            go_quiet (fail)
            clear g43 q43
            have hc := Chg.on (o := q40) 9 ((Away.refl [] w4).drewN nq)
            replace HO := Lib.hid (HO.out.keep hc (by decide))
            replace HQ := Lib.hid (HQ.out.keep hc (by decide))
            replace HT := Lib.hid (HT.out.keep hc (by decide))
            clear hc db0 db1 cy1 cy2
            generalize give q40 w4 9 = q7 at *
            generalize w4.drewN nq = w7 at *
            go_wp2_with fail
            go_roundw
            case rel => exact ⟨p2 + 1, _, Lr, by go_num, by omega, HLR.out.symm, HO.out, HQ.out, HT.out⟩
            case measure => simp [intOf]; omega
          · obtain rfl : p2 = T.length := by omega
            have i2 : decide ((T.length : Int) < (T.length : Int)) = false := by simp
            have hL0 : L2 = [] := by rw [HL.out, List.drop_of_length_le (by omega)]; rfl
            subst hL0
            go_wp2_with fail
            refine (KP.pop_n (by exact HQ.out)).mono ?_
            rintro E w3 ⟨rfl, hq, hc⟩
            replace HO := Lib.hid (HO.out.keep hc (by decide))
            replace HT := Lib.hid (HT.out.keep hc (by decide))
            replace HQ := Lib.hid hq
            clear hq hc
            generalize give q2 wr 1 = o3 at *
            go_upto_region 34 with fail
            have hc := Chg.on (o := o3) 9 ((Away.refl [] w3).alloc (.cells #[.int .i64 0, .int .i64 0] 43))
            replace HO := Lib.hid (HO.out.keep hc (by decide))
            replace HQ := Lib.hid (HQ.out.keep hc (by decide))
            replace HT := Lib.hid (HT.out.keep hc (by decide))
            have db0 := cell_of_block (block_new w3 (.cells #[.int .i64 0, .int .i64 0] 43)) 0
            have db1 := cell_of_block (block_new w3 (.cells #[.int .i64 0, .int .i64 0] 43)) 1
            simp only [List.getElem?_toArray, List.getElem?_cons_zero, List.getElem?_cons_succ] at db0 db1
            clear hc
            generalize give o3 w3 9 = q40 at *
            generalize hbk : w3.heap.size = dbk at db0 db1 ⊢
            clear hbk
            generalize w3.alloc (.cells #[.int .i64 0, .int .i64 0] 43) = w4 at *
            go_wp2_with fail
            refine (KP.len_o HQ.out).mono ?_
            rintro E w99 ⟨rfl, h9⟩
            replace h9 := h9.symm
            subst h9
            go_wp2_with fail
            refine (KP.bytes_o HQ.out).mono ?_
            rintro E w99 ⟨rfl, h9⟩
            replace h9 := h9.symm
            subst h9
            go_wp2_with fail
            go_ret
            exact ⟨rfl, HO.out.below⟩
  · have HN := Lib.hid hm
    clear hm
    go_enter Try.func4, Try.ntmps4
    go_wp2_with fail
    refine (KP.new_no c b 18 _ HN.out).mono ?_
    rintro E w9 ⟨rfl, h9⟩
    replace h9 := h9.symm
    subst h9
    go_wp2_with fail
    refine (known_c _).mono ?_
    rintro E w1 ⟨rfl, haw⟩
    have hc := Chg.on (o := o0) 9 haw
    clear haw
    replace HO := Lib.hid (HO.out.keep hc (by decide))
    replace HR := Lib.hid (HR.out.keep hc (by decide))
    clear hc
    generalize give o0 w 9 = o1 at *
    go_wp2_with fail
    refine (known_c _).mono ?_
    rintro E w2 ⟨rfl, haw⟩
    have hc := Chg.on (o := o1) 9 haw
    clear haw
    replace HO := Lib.hid (HO.out.keep hc (by decide))
    replace HR := Lib.hid (HR.out.keep hc (by decide))
    clear hc
    generalize give o1 w1 9 = o2 at *
    go_wp2_with fail
    go_ret
    exact ⟨rfl, HO.out.below⟩
end queueOrders
namespace queueOrders
theorem lifted (os : Os) (started : os.Started) (H : Type) (enc : TypeId × Value → H) :
    ReturnsInHanded {} Try.checked os 4 .any (Rows.queueOrdersSpec.pre6 enc Try.prog Try.f4 Rows.queueOrdersRow.domain false) (Rows.queueOrdersSpec.post enc Try.prog Try.f4 false true false false) := by
  refine returnsInHanded_of_change_sized (C := Try.checked) ownKn started (by kernel_rfl) Try.func4
    (ChangeSpec.witness6 (enc := enc) (C := Try.checked) false ⟨#[], #[.int .i64 0, .int .i64 0, .slice none 0 0], []⟩ 8 (by kernel_rfl) (by kernel_rfl) (by kernel_rfl) (by kernel_rfl)) ?_
  intro W base args ds gs before hval0 hW _ hsz0 _
  have hsz : (DataW.weightsEach Try.prog (Try.f4.params.toList ++ Rows.queueOrdersSpec.plain.varTypes Try.prog) (ds ++ gs)).all (· ≤ reachBytes) = true := hsz0
  clear hsz0
  have hval : ∀ (j : Nat) t v, Try.f4.params[j]? = some t → args[j]? = some v → Value.okWide Try.prog W .any base t v := hval0
  have hW' := hW
  obtain ⟨p, q, hA0, hV, rfl, hfz, hnd⟩ := hW
  have hA : DataW.TrodAll enc Try.prog W 0 (fun _ => true) true Try.f4.params.toList args.toList ds p := hA0
  rw [Try.params4] at hA hval hsz
  obtain ⟨v0, vs0, d0, ds0, p0, q0, hargs, rfl, rfl, h0, r0⟩ := trodAll_cons hA
  obtain ⟨v1, vs1, d1, ds1, p1, q1, rfl, rfl, rfl, h1, r1⟩ := trodAll_cons r0
  obtain ⟨v2, vs2, d2, ds2, p2, q2, rfl, rfl, rfl, h2, r2⟩ := trodAll_cons r1
  obtain ⟨rfl, rfl, rfl⟩ := trodAll_nil r2
  obtain rfl : args = #[v0, v1, v2] := by cases args; simp_all
  have hV2 : DataW.TrodVars enc Try.prog W (fun _ => true) Rows.queueOrdersSpec.vars gs q := hV
  obtain ⟨rfl, rfl⟩ := trodVars_none hV2
  obtain ⟨a0, rfl, rfl, rfl, w0⟩ := open_int Try.underlying3 (hval 0 3 v0 rfl rfl) h0
  obtain ⟨a1, rfl, rfl, rfl, w1⟩ := open_int Try.underlying3 (hval 1 3 v1 rfl rfl) h1
  have k2 := h2
  have lt2 : ∀ x ∈ p2, x.block < W.heap.size := by obtain ⟨m, hm⟩ := k2; exact DataW.trod_lt m _ _ _ hm
  have z2 : ∀ m ∈ d2.weights Try.prog 39, m ≤ reachBytes := fun m hm => by
    have := List.all_eq_true.1 hsz m (DataW.weights_mem_each (j := 2) (t := 39) rfl rfl m hm)
    simpa using this
  obtain ⟨a2, len2, cap2, rfl⟩ := okWide_slice Try.underlying39 (hval 2 39 v2 rfl rfl)
  obtain ⟨l2, rfl, w2, u2, b2⟩ := open_script h2 z2 lt2
  clear hA0 hval0
  refine (walk a0 a1 a2 l2 cap2 W w0 w1 w2 b2).mono fun e W' ⟨he, bel⟩ => ?_
  subst he
  exact ⟨_, rfl, _, _, _, [], _, [], hW', trodAll_mk1 (shut_bool Try.underlying4 _), (trodAll_cons_mk (shut_int Try.underlying3 w0) (trodAll_cons_mk (shut_int Try.underlying3 w1) (trodAll_cons_mk (Below.trod laidOut (by kernel_rfl) (of_decide_eq_true (by kernel_rfl)) k2 bel lt2) trodAll_mk0))), rfl, bel.frame _, fun h => by cases h⟩
theorem over : Rows.queueOrdersRow.holds Try.pinned (OpenSpec.ofChange Rows.queueOrdersSpec) :=
  OpenClaim.holds_of_wide 4 Try.f4 rfl rfl rfl rfl rfl rfl rfl ⟨rfl, rfl, rfl, rfl, rfl⟩ rfl rfl rfl rfl rfl (by kernel_rfl) Try.func4 (by kernel_rfl)
    (of_decide_eq_true (by kernel_rfl)) (by unfold Func.isWrapper; first | (rw [if_pos (by decide +kernel)]; kernel_rfl) | (rw [if_neg (by decide +kernel)]; exact ⟨rfl, rfl⟩))
    (fun os started H enc _ => lifted os started H enc)
end queueOrders
theorem queueOrders_holds : Rows.QueueOrdersSaid := queueOrders.over
#print axioms queueOrders_holds
end Go.Proofs.Ytdgkkbiodhbmeaa
