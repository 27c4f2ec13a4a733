/-
  QueueKinds.
-/
import Derived.Test.YtdgkkbiodhbmeaaKd
namespace Go.Proofs.Ytdgkkbiodhbmeaa
open Go.ChangeShapes Go.WideShapes Go.ChangeAt Go.RowKit Go.Deep
set_option linter.unusedVariables false
set_option linter.unusedSimpArgs false
set_option maxRecDepth 100000
set_option maxHeartbeats 8000000

namespace queueKinds
theorem ld3 {w : World} {ad : Addr} {n : Int} (h : w.cell? ad = some (.int .i64 n)) : (Instr.loadAt 3 (.pointer (some ad))).run Try.prog w = .ok (.int .i64 n) w := by
  simp [go_sem, Instr.loadAt, Instr.sureAddr, h]
theorem ld60 {w : World} {ad : Addr} {p : Option Addr} (h : w.cell? ad = some (.pointer p)) : (Instr.loadAt 60 (.pointer (some ad))).run Try.prog w = .ok (.pointer p) w := by
  simp [go_sem, Instr.loadAt, Instr.sureAddr, h]
theorem ld61 {w : World} {ad : Addr} {a : Option Addr} {n c : Nat} (h : w.cell? ad = some (.slice a n c)) : (Instr.loadAt 61 (.pointer (some ad))).run Try.prog w = .ok (.slice a n c) w := by
  simp [go_sem, Instr.loadAt, Instr.sureAddr, h]
theorem get_op {S : List Op2} {i : Nat} (h : i < S.length) : ∃ x, S[i]? = some x := ⟨S[i], by simp [h]⟩
def txt : ByteArray := ⟨#[46, 46, 46, 46, 46, 46, 46, 46, 46, 46, 46, 46, 46, 46, 46, 46, 46, 46, 46, 46, 46, 46, 46, 46, 46, 46, 46, 46, 46, 46, 46, 46, 46, 46, 46, 46, 46, 46, 46, 46, 46, 46, 46, 46, 46, 46, 46, 46, 46, 46, 46, 46, 46, 46, 46, 46, 46, 46, 46, 46, 46, 46, 46, 46]⟩
theorem txt_size : txt.size = 64 := rfl
theorem slice_str (s : ByteArray) (n : Nat) (hn : n ≤ s.size) (w : World) : (Instr.sliceAt 9 (.string s) none (some (.int .i64 (n : Int))) none).run Try.prog w = .ok (.string (s.extract 0 n)) w := by
  have h1 : (0 : Int) ≤ (n : Int) := by omega
  have h2 : (n : Int) ≤ (s.size : Int) := by omega
  have h3 : (n : Int).toNat = n := by omega
  simp [go_sem, h1, h2, h3]
theorem yields_str {ops : Array Oper} {S : World → Prop} {op : Oper} {a : Act} (hw : Region.wanted op (yielded ops a.tmps) = true) (x h : Operand) (ho : op.op = .slice 9 x none (some h) none) (n : Nat) (hx : a.eval x = .string txt) (hh : a.eval h = .int .i64 (n : Int)) (hn : n ≤ 63) {sn : ByteArray} (hs : txt.extract 0 n = sn) :
    YieldsIf Try.prog ops S op (.string sn) a := by
  refine .inl ⟨hw, fun w _ => ?_⟩
  have hr := slice_str txt n (by rw [txt_size]; omega) w
  rw [hs] at hr
  unfold execOp
  simp only [ho, Option.map_none, Option.map_some, hx, hh, Sem.run_bind, hr, Result.andThen_ok, Sem.run_pure]
theorem str_n {n : Nat} (hn : n ≤ 63) : ∃ sn : ByteArray, txt.extract 0 n = sn ∧ sn.size = n := ⟨_, rfl, by rw [ByteArray.size_extract, txt_size]; omega⟩
theorem wrap_id {x : Int} (h : -9223372036854775808 ≤ x ∧ x ≤ 9223372036854775807) : IntKind.i64.wrap x = x := by rw [IntKind.wrap_i64]; omega
def ptr (g : Nat) : Value := .pointer (some ⟨g, 0, none⟩)
def cellsG (G : List Nat) : Array Value := (G.map ptr ++ List.replicate (4 - G.length) (.pointer none : Value)).toArray
theorem cellsG_put {G : List Nat} (h : G.length < 4) (g : Nat) : (cellsG G).setIfInBounds G.length (ptr g) = cellsG (G ++ [g]) := by
  rcases G with _ | ⟨a, _ | ⟨b, _ | ⟨c, _ | ⟨d, r⟩⟩⟩⟩
  · rfl
  · rfl
  · rfl
  · rfl
  · simp at h; omega
theorem cellsG_at {G : List Nat} (h : G.length < 4) : (cellsG G)[G.length]? = some (.pointer none) := by
  rcases G with _ | ⟨a, _ | ⟨b, _ | ⟨c, _ | ⟨d, r⟩⟩⟩⟩
  · rfl
  · rfl
  · rfl
  · rfl
  · simp at h; omega
theorem four_of {G : List Nat} (h : G.length = 4) : ∃ a b c d, G = [a, b, c, d] := by
  match G, h with
  | [a, b, c, d], _ => exact ⟨a, b, c, d, rfl⟩
theorem BxO.put {f : Nat → Nat} {k : Nat} {w : World} {g : Nat} {cs : Array Value} {t : TypeId} (h : BxO f k w g cs t) (i : Nat) (u : Value) : BxO (give f w k) k (w.setCell ⟨g, i, none⟩ u) g (cs.setIfInBounds i u) t ∧ Chg f k w (w.setCell ⟨g, i, none⟩ u) :=
  ⟨⟨block_set h.1 i u, by rw [give_old (lt_of_block h.1)]; exact h.2⟩, [g], (Away.refl [g] w).setCell (.inl (by simp)) u, fun s hs => by simp at hs; subst hs; exact h.2⟩
theorem walk (c b : Int) (sa : Option Addr) (S : List Op2) (scap : Nat) (w : World) (hc0 : (Lit.int .i64 c).wf = true) (hb0 : (Lit.int .i64 b).wf = true) (hS : RowC (fun _ => 0) w sa S) (hSl : S.length ≤ 8796093021952) : Calls Try.prog 7 #[.int .i64 c, .int .i64 b, .slice sa S.length scap] w fun E w' => E = .returned (.bool true) ∧ Below w.heap.size w w' := by
  have hc := bounds_i64 hc0
  have hb := bounds_i64 hb0
  clear hc0 hb0
  obtain ⟨o0, ho, hR⟩ : ∃ o, Out o w w ∧ RowC o w sa S := ⟨_, Out.start w, hS⟩
  have HO := Lib.hid ho
  have HR := Lib.hid hR
  clear ho hR hS
  by_cases hm : 0 ≤ c ∧ c ≤ 64 ∧ 0 ≤ b
  · have HM : Hid (mayP c b = true) := decide_eq_true hm
    obtain ⟨m1, m2, m3⟩ := hm
    have hcc := hc
    clear hc
    go_enter Try.func7, Try.ntmps7
    go_wp2_with fail
    refine (KT.new_o o0 1 c b 30 _ m1 m2 m3 (by omega)).mono ?_
    rintro E w1 ⟨ga, rfl, hq, hc⟩
    replace HO := Lib.hid (HO.out.keep hc (by decide))
    replace HR := Lib.hid (HR.out.keep hc (by decide))
    have HA := Lib.hid hq
    clear hq hc
    generalize give o0 w 1 = o1 at *
    go_wp2_with fail
    refine (KI.new_o o1 2 c b 31 _ m1 m2 m3 (by omega)).mono ?_
    rintro E w2 ⟨gb, rfl, hq, hc⟩
    replace HO := Lib.hid (HO.out.keep hc (by decide))
    replace HR := Lib.hid (HR.out.keep hc (by decide))
    replace HA := Lib.hid (HA.out.keep hc (by decide))
    have HB := Lib.hid hq
    clear hq hc
    generalize give o1 w1 2 = o2 at *
    go_wp2_with fail
    refine (KP.new_o o2 3 c b 18 _ m1 m2 m3 (by omega)).mono ?_
    rintro E w3 ⟨gc, rfl, hq, hc⟩
    replace HO := Lib.hid (HO.out.keep hc (by decide))
    replace HR := Lib.hid (HR.out.keep hc (by decide))
    replace HA := Lib.hid (HA.out.keep hc (by decide))
    replace HB := Lib.hid (HB.out.keep hc (by decide))
    have HC := Lib.hid hq
    clear hq hc
    generalize give o2 w2 3 = o3 at *
    go_wp2_with fail
    refine (KS.new_o o3 4 c b 33 _ m1 m2 m3 (by omega)).mono ?_
    rintro E w4 ⟨gd, rfl, hq, hc⟩
    replace HO := Lib.hid (HO.out.keep hc (by decide))
    replace HR := Lib.hid (HR.out.keep hc (by decide))
    replace HA := Lib.hid (HA.out.keep hc (by decide))
    replace HB := Lib.hid (HB.out.keep hc (by decide))
    replace HC := Lib.hid (HC.out.keep hc (by decide))
    have HD := Lib.hid hq
    clear hq hc
    generalize give o3 w3 4 = o4 at *
    go_wp2_with fail
    refine (known_c _).mono ?_
    rintro E w5 ⟨rfl, haw⟩
    have hc := Chg.on (o := o4) 20 haw
    clear haw
    replace HO := Lib.hid (HO.out.keep hc (by decide))
    replace HR := Lib.hid (HR.out.keep hc (by decide))
    replace HA := Lib.hid (HA.out.keep hc (by decide))
    replace HB := Lib.hid (HB.out.keep hc (by decide))
    replace HC := Lib.hid (HC.out.keep hc (by decide))
    replace HD := Lib.hid (HD.out.keep hc (by decide))
    clear hc
    generalize give o4 w4 20 = o5 at *
    go_wp2_with fail
    refine (may_c c b _).mono ?_
    rw [HM.out]
    rintro E w9 ⟨rfl, h9⟩
    replace h9 := h9.symm
    subst h9
    go_upto_region 10 with fail
    have hc := Chg.on (o := o5) 10 ((Away.refl [] w5).alloc (.cells #[.pointer none, .pointer none, .pointer none, .pointer none] 69))
    have HV := Lib.hid (BxO.new o5 10 w5 #[.pointer none, .pointer none, .pointer none, .pointer none] 69)
    replace HO := Lib.hid (HO.out.keep hc (by decide))
    replace HR := Lib.hid (HR.out.keep hc (by decide))
    replace HA := Lib.hid (HA.out.keep hc (by decide))
    replace HB := Lib.hid (HB.out.keep hc (by decide))
    replace HC := Lib.hid (HC.out.keep hc (by decide))
    replace HD := Lib.hid (HD.out.keep hc (by decide))
    clear hc
    generalize give o5 w5 10 = p6 at *
    generalize hbk : w5.heap.size = gv at HV ⊢
    clear hbk
    generalize w5.alloc (.cells #[.pointer none, .pointer none, .pointer none, .pointer none] 69) = w6 at *
    replace HV : Hid (BxO p6 10 w6 gv (cellsG []) 69) := HV.out
    go_wp2_with fail
    go_loopw [16] (fun x wr => ∃ (G : List Nat) (o : Nat → Nat), x = .int .i64 (G.length : Int) ∧ G.length ≤ 4 ∧ Out o w wr ∧ RowC o wr sa S ∧ KT.Ow o 1 wr ga c b 30 [] ∧ KI.Ow o 2 wr gb c b 31 [] ∧ KP.Ow o 3 wr gc c b 18 [] ∧ KS.Ow o 4 wr gd c b 33 [] ∧ BxO o 10 wr gv (cellsG G) 69 ∧ ∀ j g, G[j]? = some g → RO o (11 + j) wr g c b []) (fun x _ => 4 - (intOf x).toNat)
    case atStart => exact ⟨[], p6, rfl, by simp, HO.out, HR.out, HA.out, HB.out, HC.out, HD.out, HV.out, by simp⟩
    case round =>
      clear HO HR HA HB HC HD HV
      obtain ⟨G, q0, rfl, hG, ho, hR, hA, hB, hC, hD, hV, hGs⟩ := hrel
      have HO := Lib.hid ho
      have HR := Lib.hid hR
      have HA := Lib.hid hA
      have HB := Lib.hid hB
      have HC := Lib.hid hC
      have HD := Lib.hid hD
      have HV := Lib.hid hV
      have HGS := Lib.hid hGs
      clear ho hR hA hB hC hD hV hGs
      by_cases hlt : G.length < 4
      · have i1 : decide ((G.length : Int) < 4) = true := decide_eq_true (by omega)
        have x1 : 0 ≤ (G.length : Int) := by omega
        have x2 : (G.length : Int) < 4 := by omega
        have x3 : (G.length : Int).toNat = G.length := by omega
        have hc := Chg.on (o := q0) (11 + G.length) ((Away.refl [] wr).alloc (.cells #[.int .i64 c, .int .i64 b, .slice none 0 0, .slice none 0 0] 63))
        replace HO := Lib.hid (HO.out.keep hc (by omega))
        replace HR := Lib.hid (HR.out.keep hc (by omega))
        replace HA := Lib.hid (HA.out.keep hc (by omega))
        replace HB := Lib.hid (HB.out.keep hc (by omega))
        replace HC := Lib.hid (HC.out.keep hc (by omega))
        replace HD := Lib.hid (HD.out.keep hc (by omega))
        replace HV := Lib.hid (HV.out.keep hc (by omega))
        replace HGS := Lib.hid (fun j g hj => (HGS.out j g hj).keep hc (by have h1 := (List.getElem?_eq_some_iff.1 hj).1; omega))
        have HN := Lib.hid (RO.new q0 (11 + G.length) wr c b m1 m2 m3 (by omega))
        have hcv := HV.out.at G.length
        rw [cellsG_at hlt] at hcv
        have hfv := free_of_block HV.out.1 G.length
        clear hc
        generalize give q0 wr (11 + G.length) = q1 at *
        go_wp2_with fail
        generalize wr.heap.size = gn at *
        generalize wr.alloc (.cells #[.int .i64 c, .int .i64 b, .slice none 0 0, .slice none 0 0] 63) = wa at *
        obtain ⟨hv, hc⟩ := BxO.put HV.out G.length (ptr gn)
        rw [cellsG_put hlt] at hv
        replace HO := Lib.hid (HO.out.keep hc (by decide))
        replace HR := Lib.hid (HR.out.keep hc (by decide))
        replace HA := Lib.hid (HA.out.keep hc (by decide))
        replace HB := Lib.hid (HB.out.keep hc (by decide))
        replace HC := Lib.hid (HC.out.keep hc (by decide))
        replace HD := Lib.hid (HD.out.keep hc (by decide))
        replace HGS := Lib.hid (fun j g hj => (HGS.out j g hj).keep hc (by omega))
        replace HN := Lib.hid (HN.out.keep hc (by omega))
        have HV2 := Lib.hid hv
        clear hv hc
        go_roundw
        case rel =>
          refine ⟨G ++ [gn], _, by simp, by simp; omega, HO.out, HR.out, HA.out, HB.out, HC.out, HD.out, HV2.out, fun j g hj => ?_⟩
          rcases Nat.lt_or_ge j G.length with h1 | h1
          · rw [List.getElem?_append_left h1] at hj; exact HGS.out j g hj
          · rw [List.getElem?_append_right h1] at hj
            have h2 := (List.getElem?_eq_some_iff.1 hj).1
            simp at h2
            obtain rfl : j = G.length := by omega
            simp at hj
            subst hj
            exact HN.out
        case measure => simp [intOf]; omega
      · obtain ⟨g0, g1, g2, g3, rfl⟩ := four_of (show G.length = 4 by omega)
        have R0 := Lib.hid (HGS.out 0 g0 rfl)
        simp only [Nat.add_zero, Nat.reduceAdd] at R0
        have R1 := Lib.hid (HGS.out 1 g1 rfl)
        simp only [Nat.add_zero, Nat.reduceAdd] at R1
        have R2 := Lib.hid (HGS.out 2 g2 rfl)
        simp only [Nat.add_zero, Nat.reduceAdd] at R2
        have R3 := Lib.hid (HGS.out 3 g3 rfl)
        simp only [Nat.add_zero, Nat.reduceAdd] at R3
        have i1 : decide ((([g0, g1, g2, g3] : List Nat).length : Int) < 4) = false := by simp
        clear HGS hlt hG
        replace HV : Hid (BxO q0 10 wr gv #[.pointer (some ⟨g0, 0, none⟩), .pointer (some ⟨g1, 0, none⟩), .pointer (some ⟨g2, 0, none⟩), .pointer (some ⟨g3, 0, none⟩)] 69) := HV.out
        go_wp2_with fail
        go_loopw [17] (fun ix wr => ∃ (i : Nat) (o : Nat → Nat) (La Lb Lc Ld : List Th), ix = .int .i64 (i : Int) ∧ i ≤ S.length ∧ Out o w wr ∧ RowC o wr sa S ∧ KT.Ow o 1 wr ga c b 30 La ∧ KI.Ow o 2 wr gb c b 31 Lb ∧ KP.Ow o 3 wr gc c b 18 Lc ∧ KS.Ow o 4 wr gd c b 33 Ld ∧ BxO o 10 wr gv #[.pointer (some ⟨g0, 0, none⟩), .pointer (some ⟨g1, 0, none⟩), .pointer (some ⟨g2, 0, none⟩), .pointer (some ⟨g3, 0, none⟩)] 69 ∧ RO o 11 wr g0 c b (La.map (kt keyS)) ∧ RO o 12 wr g1 c b (Lb.map (kt keyI)) ∧ RO o 13 wr g2 c b (Lc.map (kt keyI)) ∧ RO o 14 wr g3 c b (Ld.map (kt keyS))) (fun ix _ => S.length - (intOf ix).toNat)
        case atStart => exact ⟨0, q0, [], [], [], [], rfl, by omega, HO.out, HR.out, HA.out, HB.out, HC.out, HD.out, HV.out, R0.out, R1.out, R2.out, R3.out⟩
        case round =>
          clear HO HR HA HB HC HD HV R0 R1 R2 R3
          obtain ⟨i, q2, La, Lb, Lc, Ld, rfl, hi, ho, hR, hA, hB, hC, hD, hV, h0, h1, h2, h3⟩ := hrel
          have HO := Lib.hid ho
          have HR := Lib.hid hR
          have HA := Lib.hid hA
          have HB := Lib.hid hB
          have HC := Lib.hid hC
          have HD := Lib.hid hD
          have HV := Lib.hid hV
          have R0 := Lib.hid h0
          have R1 := Lib.hid h1
          have R2 := Lib.hid h2
          have R3 := Lib.hid h3
          clear ho hR hA hB hC hD hV h0 h1 h2 h3
          by_cases hlt : i < S.length
          · have i1 : decide ((i : Int) < (S.length : Int)) = true := decide_eq_true (by omega)
            obtain ⟨x, hx⟩ := get_op hlt
            obtain ⟨sb, so, hsa, cx1, cx2, hx64⟩ := HR.out.at hx
            subst hsa
            obtain ⟨xp, xv⟩ := x
            simp only at cx1 cx2 hx64
            unfold I64 at hx64
            have x1 : 0 ≤ (i : Int) := by omega
            have x2 : (i : Int) < (S.length : Int) := by omega
            have x3 : (i : Int).toNat = i := by omega
            clear hx
            go_upto_region 18 with fail
            have hc := Chg.on (o := q2) 15 ((Away.refl [] wr).alloc (.cells #[.bool xp, .int .i64 xv] 47))
            have HX := Lib.hid (BxO.new q2 15 wr #[.bool xp, .int .i64 xv] 47)
            replace HO := Lib.hid (HO.out.keep hc (by decide))
            replace HR := Lib.hid (HR.out.keep hc (by decide))
            replace HA := Lib.hid (HA.out.keep hc (by decide))
            replace HB := Lib.hid (HB.out.keep hc (by decide))
            replace HC := Lib.hid (HC.out.keep hc (by decide))
            replace HD := Lib.hid (HD.out.keep hc (by decide))
            replace HV := Lib.hid (HV.out.keep hc (by decide))
            replace R0 := Lib.hid (R0.out.keep hc (by decide))
            replace R1 := Lib.hid (R1.out.keep hc (by decide))
            replace R2 := Lib.hid (R2.out.keep hc (by decide))
            replace R3 := Lib.hid (R3.out.keep hc (by decide))
            clear hc
            generalize give q2 wr 15 = p7 at *
            generalize hbk : wr.heap.size = bk at HX ⊢
            clear hbk
            generalize wr.alloc (.cells #[.bool xp, .int .i64 xv] 47) = w7 at *
            clear cx1 cx2
            have cb0 : w7.cell? ⟨bk, 0, none⟩ = some (.bool xp) := HX.out.at 0
            have cb1 : w7.cell? ⟨bk, 1, none⟩ = some (.int .i64 xv) := HX.out.at 1
            go_upto_if 124 with fail
            go_cut [19] (fun v wc => ∃ n : Nat, v = .int .i64 (n : Int) ∧ n ≤ 63 ∧ wc = w7)
            case first =>
              by_cases hx0 : 0 < xv
              · have e1 : decide (0 < xv) = true := decide_eq_true hx0
                have e2 : 0 ≤ xv := by omega
                go_wp2_with fail
                go_meet
                case rel => exact ⟨(xv % 64).toNat, by congr 1; omega, by omega, rfl⟩
              · have e1 : decide (0 < xv) = false := decide_eq_false hx0
                go_wp2_with fail
                go_meet
                case rel => exact ⟨0, rfl, by omega, rfl⟩
            case rest =>
            obtain ⟨n, rfl, hn, hwc⟩ := hcut
            replace hwc := hwc.symm
            subst hwc
            go_upto_if 129 with fail
            go_cut [] (fun wc => ∃ (o : Nat → Nat) (La Lb Lc Ld : List Th), Out o w wc ∧ RowC o wc (some ⟨sb, so, none⟩) S ∧ KT.Ow o 1 wc ga c b 30 La ∧ KI.Ow o 2 wc gb c b 31 Lb ∧ KP.Ow o 3 wc gc c b 18 Lc ∧ KS.Ow o 4 wc gd c b 33 Ld ∧ BxO o 10 wc gv #[.pointer (some ⟨g0, 0, none⟩), .pointer (some ⟨g1, 0, none⟩), .pointer (some ⟨g2, 0, none⟩), .pointer (some ⟨g3, 0, none⟩)] 69 ∧ RO o 11 wc g0 c b (La.map (kt keyS)) ∧ RO o 12 wc g1 c b (Lb.map (kt keyI)) ∧ RO o 13 wc g2 c b (Lc.map (kt keyI)) ∧ RO o 14 wc g3 c b (Ld.map (kt keyS)))
            case first =>
              cases xp
              · as_aux_lemma =>
                  clear cb1
                  go_wp2_with fail
                  refine (KT.pop_k HA.out).mono ?_
                  rintro E w8 ⟨sx, a1, a2, n2, c2, rfl, hky, hq, hc⟩
                  have HKY := Lib.hid hky
                  clear hky
                  replace HO := Lib.hid (HO.out.keep hc (by decide))
                  replace HR := Lib.hid (HR.out.keep hc (by decide))
                  replace HB := Lib.hid (HB.out.keep hc (by decide))
                  replace HC := Lib.hid (HC.out.keep hc (by decide))
                  replace HD := Lib.hid (HD.out.keep hc (by decide))
                  replace HV := Lib.hid (HV.out.keep hc (by decide))
                  replace R0 := Lib.hid (R0.out.keep hc (by decide))
                  replace R1 := Lib.hid (R1.out.keep hc (by decide))
                  replace R2 := Lib.hid (R2.out.keep hc (by decide))
                  replace R3 := Lib.hid (R3.out.keep hc (by decide))
                  replace HX := Lib.hid (HX.out.keep hc (by decide))
                  replace HA := Lib.hid hq
                  clear hq hc
                  generalize give p7 w7 1 = o8 at *
                  clear cb0
                  go_upto_region 25 with fail
                  have hc := Chg.on (o := o8) 16 ((Away.refl [] w8).alloc (.cells #[.string sx, .int .i64 a1, .slice a2 n2 c2] 32))
                  have HXA := Lib.hid (BxO.new o8 16 w8 #[.string sx, .int .i64 a1, .slice a2 n2 c2] 32)
                  replace HO := Lib.hid (HO.out.keep hc (by decide))
                  replace HR := Lib.hid (HR.out.keep hc (by decide))
                  replace HA := Lib.hid (HA.out.keep hc (by decide))
                  replace HB := Lib.hid (HB.out.keep hc (by decide))
                  replace HC := Lib.hid (HC.out.keep hc (by decide))
                  replace HD := Lib.hid (HD.out.keep hc (by decide))
                  replace HV := Lib.hid (HV.out.keep hc (by decide))
                  replace R0 := Lib.hid (R0.out.keep hc (by decide))
                  replace R1 := Lib.hid (R1.out.keep hc (by decide))
                  replace R2 := Lib.hid (R2.out.keep hc (by decide))
                  replace R3 := Lib.hid (R3.out.keep hc (by decide))
                  replace HX := Lib.hid (HX.out.keep hc (by decide))
                  clear hc
                  generalize give o8 w8 16 = p9 at *
                  generalize hbk : w8.heap.size = bx at HXA ⊢
                  clear hbk
                  generalize w8.alloc (.cells #[.string sx, .int .i64 a1, .slice a2 n2 c2] 32) = w9 at *
                  have cv0 : w9.cell? ⟨gv, 0, none⟩ = some (.pointer (some ⟨g0, 0, none⟩)) := HV.out.at 0
                  go_wp2_with fail
                  refine (rpop_k keyS R0.out).mono ?_
                  rw [← HKY.out]
                  rintro E w10 ⟨rfl, hq, hc⟩
                  replace HO := Lib.hid (HO.out.keep hc (by decide))
                  replace HR := Lib.hid (HR.out.keep hc (by decide))
                  replace HA := Lib.hid (HA.out.keep hc (by decide))
                  replace HB := Lib.hid (HB.out.keep hc (by decide))
                  replace HC := Lib.hid (HC.out.keep hc (by decide))
                  replace HD := Lib.hid (HD.out.keep hc (by decide))
                  replace HV := Lib.hid (HV.out.keep hc (by decide))
                  replace R1 := Lib.hid (R1.out.keep hc (by decide))
                  replace R2 := Lib.hid (R2.out.keep hc (by decide))
                  replace R3 := Lib.hid (R3.out.keep hc (by decide))
                  replace HX := Lib.hid (HX.out.keep hc (by decide))
                  replace HXA := Lib.hid (HXA.out.keep hc (by decide))
                  replace R0 := Lib.hid hq
                  clear hq hc
                  generalize give p9 w9 11 = o10 at *
                  clear HKY
                  clear cv0
                  go_wp2_with fail
                  refine (KI.pop_k HB.out).mono ?_
                  rintro E w11 ⟨b0, rfl, hky, hq, hc⟩
                  have HKY := Lib.hid hky
                  clear hky
                  replace HO := Lib.hid (HO.out.keep hc (by decide))
                  replace HR := Lib.hid (HR.out.keep hc (by decide))
                  replace HA := Lib.hid (HA.out.keep hc (by decide))
                  replace HC := Lib.hid (HC.out.keep hc (by decide))
                  replace HD := Lib.hid (HD.out.keep hc (by decide))
                  replace HV := Lib.hid (HV.out.keep hc (by decide))
                  replace R0 := Lib.hid (R0.out.keep hc (by decide))
                  replace R1 := Lib.hid (R1.out.keep hc (by decide))
                  replace R2 := Lib.hid (R2.out.keep hc (by decide))
                  replace R3 := Lib.hid (R3.out.keep hc (by decide))
                  replace HX := Lib.hid (HX.out.keep hc (by decide))
                  replace HXA := Lib.hid (HXA.out.keep hc (by decide))
                  replace HB := Lib.hid hq
                  clear hq hc
                  generalize give o10 w10 2 = o11 at *
                  have cv1 : w11.cell? ⟨gv, 1, none⟩ = some (.pointer (some ⟨g1, 0, none⟩)) := HV.out.at 1
                  go_wp2_with fail
                  refine (rpop_k keyI R1.out).mono ?_
                  rw [← HKY.out]
                  rintro E w12 ⟨rfl, hq, hc⟩
                  replace HO := Lib.hid (HO.out.keep hc (by decide))
                  replace HR := Lib.hid (HR.out.keep hc (by decide))
                  replace HA := Lib.hid (HA.out.keep hc (by decide))
                  replace HB := Lib.hid (HB.out.keep hc (by decide))
                  replace HC := Lib.hid (HC.out.keep hc (by decide))
                  replace HD := Lib.hid (HD.out.keep hc (by decide))
                  replace HV := Lib.hid (HV.out.keep hc (by decide))
                  replace R0 := Lib.hid (R0.out.keep hc (by decide))
                  replace R2 := Lib.hid (R2.out.keep hc (by decide))
                  replace R3 := Lib.hid (R3.out.keep hc (by decide))
                  replace HX := Lib.hid (HX.out.keep hc (by decide))
                  replace HXA := Lib.hid (HXA.out.keep hc (by decide))
                  replace R1 := Lib.hid hq
                  clear hq hc
                  generalize give o11 w11 12 = o12 at *
                  clear HKY
                  clear cv1
                  go_wp2_with fail
                  refine (KP.pop_k HC.out).mono ?_
                  rintro E w13 ⟨z0, z1, rfl, hky, hq, hc⟩
                  have HKY := Lib.hid hky
                  clear hky
                  replace HO := Lib.hid (HO.out.keep hc (by decide))
                  replace HR := Lib.hid (HR.out.keep hc (by decide))
                  replace HA := Lib.hid (HA.out.keep hc (by decide))
                  replace HB := Lib.hid (HB.out.keep hc (by decide))
                  replace HD := Lib.hid (HD.out.keep hc (by decide))
                  replace HV := Lib.hid (HV.out.keep hc (by decide))
                  replace R0 := Lib.hid (R0.out.keep hc (by decide))
                  replace R1 := Lib.hid (R1.out.keep hc (by decide))
                  replace R2 := Lib.hid (R2.out.keep hc (by decide))
                  replace R3 := Lib.hid (R3.out.keep hc (by decide))
                  replace HX := Lib.hid (HX.out.keep hc (by decide))
                  replace HXA := Lib.hid (HXA.out.keep hc (by decide))
                  replace HC := Lib.hid hq
                  clear hq hc
                  generalize give o12 w12 3 = o13 at *
                  go_upto_region 29 with fail
                  have hc := Chg.on (o := o13) 17 ((Away.refl [] w13).alloc (.cells #[.int .i64 z0, .int .i64 z1] 43))
                  have HXC := Lib.hid (BxO.new o13 17 w13 #[.int .i64 z0, .int .i64 z1] 43)
                  replace HO := Lib.hid (HO.out.keep hc (by decide))
                  replace HR := Lib.hid (HR.out.keep hc (by decide))
                  replace HA := Lib.hid (HA.out.keep hc (by decide))
                  replace HB := Lib.hid (HB.out.keep hc (by decide))
                  replace HC := Lib.hid (HC.out.keep hc (by decide))
                  replace HD := Lib.hid (HD.out.keep hc (by decide))
                  replace HV := Lib.hid (HV.out.keep hc (by decide))
                  replace R0 := Lib.hid (R0.out.keep hc (by decide))
                  replace R1 := Lib.hid (R1.out.keep hc (by decide))
                  replace R2 := Lib.hid (R2.out.keep hc (by decide))
                  replace R3 := Lib.hid (R3.out.keep hc (by decide))
                  replace HX := Lib.hid (HX.out.keep hc (by decide))
                  replace HXA := Lib.hid (HXA.out.keep hc (by decide))
                  clear hc
                  generalize give o13 w13 17 = p14 at *
                  generalize hbk : w13.heap.size = bz at HXC ⊢
                  clear hbk
                  generalize w13.alloc (.cells #[.int .i64 z0, .int .i64 z1] 43) = w14 at *
                  have cv2 : w14.cell? ⟨gv, 2, none⟩ = some (.pointer (some ⟨g2, 0, none⟩)) := HV.out.at 2
                  go_wp2_with fail
                  refine (rpop_k keyI R2.out).mono ?_
                  rw [← HKY.out]
                  rintro E w15 ⟨rfl, hq, hc⟩
                  replace HO := Lib.hid (HO.out.keep hc (by decide))
                  replace HR := Lib.hid (HR.out.keep hc (by decide))
                  replace HA := Lib.hid (HA.out.keep hc (by decide))
                  replace HB := Lib.hid (HB.out.keep hc (by decide))
                  replace HC := Lib.hid (HC.out.keep hc (by decide))
                  replace HD := Lib.hid (HD.out.keep hc (by decide))
                  replace HV := Lib.hid (HV.out.keep hc (by decide))
                  replace R0 := Lib.hid (R0.out.keep hc (by decide))
                  replace R1 := Lib.hid (R1.out.keep hc (by decide))
                  replace R3 := Lib.hid (R3.out.keep hc (by decide))
                  replace HX := Lib.hid (HX.out.keep hc (by decide))
                  replace HXA := Lib.hid (HXA.out.keep hc (by decide))
                  replace HXC := Lib.hid (HXC.out.keep hc (by decide))
                  replace R2 := Lib.hid hq
                  clear hq hc
                  generalize give p14 w14 13 = o15 at *
                  clear HKY
                  clear cv2
                  go_wp2_with fail
                  refine (KS.pop_k HD.out).mono ?_
                  rintro E w16 ⟨sd, rfl, hky, hq, hc⟩
                  have HKY := Lib.hid hky
                  clear hky
                  replace HO := Lib.hid (HO.out.keep hc (by decide))
                  replace HR := Lib.hid (HR.out.keep hc (by decide))
                  replace HA := Lib.hid (HA.out.keep hc (by decide))
                  replace HB := Lib.hid (HB.out.keep hc (by decide))
                  replace HC := Lib.hid (HC.out.keep hc (by decide))
                  replace HV := Lib.hid (HV.out.keep hc (by decide))
                  replace R0 := Lib.hid (R0.out.keep hc (by decide))
                  replace R1 := Lib.hid (R1.out.keep hc (by decide))
                  replace R2 := Lib.hid (R2.out.keep hc (by decide))
                  replace R3 := Lib.hid (R3.out.keep hc (by decide))
                  replace HX := Lib.hid (HX.out.keep hc (by decide))
                  replace HXA := Lib.hid (HXA.out.keep hc (by decide))
                  replace HXC := Lib.hid (HXC.out.keep hc (by decide))
                  replace HD := Lib.hid hq
                  clear hq hc
                  generalize give o15 w15 4 = o16 at *
                  have cv3 : w16.cell? ⟨gv, 3, none⟩ = some (.pointer (some ⟨g3, 0, none⟩)) := HV.out.at 3
                  go_wp2_with fail
                  refine (rpop_k keyS R3.out).mono ?_
                  rw [← HKY.out]
                  rintro E w17 ⟨rfl, hq, hc⟩
                  replace HO := Lib.hid (HO.out.keep hc (by decide))
                  replace HR := Lib.hid (HR.out.keep hc (by decide))
                  replace HA := Lib.hid (HA.out.keep hc (by decide))
                  replace HB := Lib.hid (HB.out.keep hc (by decide))
                  replace HC := Lib.hid (HC.out.keep hc (by decide))
                  replace HD := Lib.hid (HD.out.keep hc (by decide))
                  replace HV := Lib.hid (HV.out.keep hc (by decide))
                  replace R0 := Lib.hid (R0.out.keep hc (by decide))
                  replace R1 := Lib.hid (R1.out.keep hc (by decide))
                  replace R2 := Lib.hid (R2.out.keep hc (by decide))
                  replace HX := Lib.hid (HX.out.keep hc (by decide))
                  replace HXA := Lib.hid (HXA.out.keep hc (by decide))
                  replace HXC := Lib.hid (HXC.out.keep hc (by decide))
                  replace R3 := Lib.hid hq
                  clear hq hc
                  generalize give o16 w16 14 = o17 at *
                  clear HKY
                  clear cv3
                  have cxa : w17.cell? ⟨bx, 0, none⟩ = some (.string sx) := HXA.out.at 0
                  have cxc : w17.cell? ⟨bz, 0, none⟩ = some (.int .i64 z0) := HXC.out.at 0
                  generalize ne La = ea at *
                  generalize ne Lb = eb at *
                  generalize ne Lc = ec at *
                  generalize ne Ld = ed at *
                  generalize La.tail = La2 at *
                  generalize Lb.tail = Lb2 at *
                  generalize Lc.tail = Lc2 at *
                  generalize Ld.tail = Ld2 at *
                  go_wp2_with fail
                  go_meet
                  case rel => exact ⟨_, _, _, _, _, HO.out, HR.out, HA.out, HB.out, HC.out, HD.out, HV.out, R0.out, R1.out, R2.out, R3.out⟩
              · as_aux_lemma =>
                  obtain ⟨sn, hsn, hsz⟩ := str_n hn
                  have HSN := Lib.hid hsn
                  have HSZ := Lib.hid hsz
                  clear hsn hsz
                  have hmin : min (n : Int) 64 = (n : Int) := by omega
                  have hhf := half_bd (a := xv) ⟨hx64.1, hx64.2⟩
                  have hwh := wrap_id hhf
                  go_upto_region 22 with fail
                  clear cb0 cb1
                  refine wp_region_held_drew (S := (fun w' => w'.heap[bk]? = some (.cells #[.bool true, .int .i64 xv] 47 (0, 0)) ∧ w'.heap[gv]? = some (.cells #[.pointer (some ⟨g0, 0, none⟩), .pointer (some ⟨g1, 0, none⟩), .pointer (some ⟨g2, 0, none⟩), .pointer (some ⟨g3, 0, none⟩)] 69 (0, 0)))) (by kernel_rfl) ⟨by exact HX.out.1, by exact HV.out.1⟩ (fun hHeld => ?_)
                  clear hHeld
                  have hc := Chg.on (o := p7) 20 ((Away.refl [] w7).drew)
                  replace HO := Lib.hid (HO.out.keep hc (by decide))
                  replace HR := Lib.hid (HR.out.keep hc (by decide))
                  replace HA := Lib.hid (HA.out.keep hc (by decide))
                  replace HB := Lib.hid (HB.out.keep hc (by decide))
                  replace HC := Lib.hid (HC.out.keep hc (by decide))
                  replace HD := Lib.hid (HD.out.keep hc (by decide))
                  replace HV := Lib.hid (HV.out.keep hc (by decide))
                  replace R0 := Lib.hid (R0.out.keep hc (by decide))
                  replace R1 := Lib.hid (R1.out.keep hc (by decide))
                  replace R2 := Lib.hid (R2.out.keep hc (by decide))
                  replace R3 := Lib.hid (R3.out.keep hc (by decide))
                  replace HX := Lib.hid (HX.out.keep hc (by decide))
                  clear hc
                  generalize give p7 w7 20 = o8 at *
                  generalize w7.drew = w8 at *
                  have hHeld : w8.heap[bk]? = some (.cells #[.bool true, .int .i64 xv] 47 (0, 0)) ∧ w8.heap[gv]? = some (.cells #[.pointer (some ⟨g0, 0, none⟩), .pointer (some ⟨g1, 0, none⟩), .pointer (some ⟨g2, 0, none⟩), .pointer (some ⟨g3, 0, none⟩)] 69 (0, 0)) := ⟨HX.out.1, HV.out.1⟩
                  refine wpAnyH_take (i := 0) (v := ?_) (by simp only [List.getElem?_toArray, List.getElem?_cons_zero]; rfl) (by kernel_rfl) (by kernel_rfl) (by kernel_rfl) (by exact fun _ _ _ h => h) (Or.inl ⟨by rfl, ?_⟩) (by assumption) ?_
                  rotate_left
                  · intro wq hSw
                    (try dsimp only at hSw)
                    go_simp
                    all_goals (with_reducible rfl)
                  try simp only [Act.put, List.setIfInBounds_toArray, List.set_cons_zero, List.set_cons_succ]
                  refine wpAnyH_take (i := 1) (v := ?_) (by simp only [List.getElem?_toArray, List.getElem?_cons_succ, List.getElem?_cons_zero]; rfl) (by kernel_rfl) (by kernel_rfl) (by kernel_rfl) (by exact fun _ _ _ h => h) (Or.inl ⟨by rfl, ?_⟩) (by assumption) ?_
                  rotate_left
                  · intro wq hSw
                    (try dsimp only at hSw)
                    go_simp
                    all_goals (with_reducible rfl)
                  try simp only [Act.put, List.setIfInBounds_toArray, List.set_cons_zero, List.set_cons_succ]
                  refine wpAnyH_take (i := 2) (by simp only [List.getElem?_toArray, List.getElem?_cons_succ, List.getElem?_cons_zero]; rfl) (by kernel_rfl) (by kernel_rfl) (by kernel_rfl) (by exact fun _ _ _ h => h) (yields_str (by rfl) _ _ rfl n rfl rfl hn HSN.out) (by assumption) ?_
                  try simp only [Act.put, List.setIfInBounds_toArray, List.set_cons_zero, List.set_cons_succ]
                  refine wpAnyH_take (i := 3) (v := ?_) (by simp only [List.getElem?_toArray, List.getElem?_cons_succ, List.getElem?_cons_zero]; rfl) (by kernel_rfl) (by kernel_rfl) (by kernel_rfl) (by exact fun _ _ _ h => h) (Or.inl ⟨by rfl, ?_⟩) (by assumption) ?_
                  rotate_left
                  · intro wq hSw
                    (try dsimp only at hSw)
                    go_simp
                    all_goals (with_reducible rfl)
                  try simp only [Act.put, List.setIfInBounds_toArray, List.set_cons_zero, List.set_cons_succ]
                  refine wpAnyH_take (i := 4) (by simp only [List.getElem?_toArray, List.getElem?_cons_succ, List.getElem?_cons_zero]; rfl) (by kernel_rfl) (by kernel_rfl) (by kernel_rfl) (by exact fun _ _ _ h => h) (yields_ld (ad := ⟨bk, 1, none⟩) (by rfl) _ rfl rfl (fun w' h => ld3 (cell_of_block h.1 1))) (by assumption) ?_
                  try simp only [Act.put, List.setIfInBounds_toArray, List.set_cons_zero, List.set_cons_succ]
                  refine wpAnyH_take (i := 5) (v := ?_) (by simp only [List.getElem?_toArray, List.getElem?_cons_succ, List.getElem?_cons_zero]; rfl) (by kernel_rfl) (by kernel_rfl) (by kernel_rfl) (by exact fun _ _ _ h => h) (Or.inl ⟨by rfl, ?_⟩) (by assumption) ?_
                  rotate_left
                  · intro wq hSw
                    (try dsimp only at hSw)
                    go_simp
                    all_goals (with_reducible rfl)
                  try simp only [Act.put, List.setIfInBounds_toArray, List.set_cons_zero, List.set_cons_succ]
                  refine wpAnyH_take (i := 7) (v := ?_) (by simp only [List.getElem?_toArray, List.getElem?_cons_succ, List.getElem?_cons_zero]; rfl) (by kernel_rfl) (by kernel_rfl) (by kernel_rfl) (by exact fun _ _ _ h => h) (Or.inl ⟨by rfl, ?_⟩) (by assumption) ?_
                  rotate_left
                  · intro wq hSw
                    (try dsimp only at hSw)
                    go_simp
                    all_goals (with_reducible rfl)
                  try simp only [Act.put, List.setIfInBounds_toArray, List.set_cons_zero, List.set_cons_succ]
                  refine wpAnyH_take (i := 8) (by simp only [List.getElem?_toArray, List.getElem?_cons_succ, List.getElem?_cons_zero]; rfl) (by kernel_rfl) (by kernel_rfl) (by kernel_rfl) (by exact fun _ _ _ h => h) (yields_ld (ad := ⟨gv, 0, none⟩) (by rfl) _ rfl rfl (fun w' h => ld60 (cell_of_block h.2 0))) (by assumption) ?_
                  try simp only [Act.put, List.setIfInBounds_toArray, List.set_cons_zero, List.set_cons_succ]
                  refine wpAnyH_take (i := 9) (v := ?_) (by simp only [List.getElem?_toArray, List.getElem?_cons_succ, List.getElem?_cons_zero]; rfl) (by kernel_rfl) (by kernel_rfl) (by kernel_rfl) (by exact fun _ _ _ h => h) (Or.inl ⟨by rfl, ?_⟩) (by assumption) ?_
                  rotate_left
                  · intro wq hSw
                    (try dsimp only at hSw)
                    go_simp
                    all_goals (with_reducible rfl)
                  try simp only [Act.put, List.setIfInBounds_toArray, List.set_cons_zero, List.set_cons_succ]
                  refine wpAnyH_take (i := 10) (v := ?_) (by simp only [List.getElem?_toArray, List.getElem?_cons_succ, List.getElem?_cons_zero]; rfl) (by kernel_rfl) (by kernel_rfl) (by kernel_rfl) (by exact fun _ _ _ h => h) (Or.inl ⟨by rfl, ?_⟩) (by assumption) ?_
                  rotate_left
                  · intro wq hSw
                    (try dsimp only at hSw)
                    go_simp
                    all_goals (with_reducible rfl)
                  try simp only [Act.put, List.setIfInBounds_toArray, List.set_cons_zero, List.set_cons_succ]
                  refine wpAnyH_take (i := 11) (by simp only [List.getElem?_toArray, List.getElem?_cons_succ, List.getElem?_cons_zero]; rfl) (by kernel_rfl) (by kernel_rfl) (by kernel_rfl) (by exact fun _ _ _ h => h) (yields_ld (ad := ⟨bk, 1, none⟩) (by rfl) _ rfl rfl (fun w' h => ld3 (cell_of_block h.1 1))) (by assumption) ?_
                  try simp only [Act.put, List.setIfInBounds_toArray, List.set_cons_zero, List.set_cons_succ]
                  refine wpAnyH_ready (rs := [6]) (by kernel_rfl) (by simp) ?_
                  refine AllReadyH.cons (by simp only [List.getElem?_toArray, List.getElem?_cons_succ, List.getElem?_cons_zero]; rfl) (fun K hK => ?_) AllReadyH.nil
                  go_simp
                  refine (KT.push30_o sn xv none 0 0 (max xv 0) HA.out (by omega) rfl).mono ?_
                  rintro E w9 ⟨rfl, hq, hc⟩
                  replace HO := Lib.hid (HO.out.keep hc (by decide))
                  replace HR := Lib.hid (HR.out.keep hc (by decide))
                  replace HB := Lib.hid (HB.out.keep hc (by decide))
                  replace HC := Lib.hid (HC.out.keep hc (by decide))
                  replace HD := Lib.hid (HD.out.keep hc (by decide))
                  replace HV := Lib.hid (HV.out.keep hc (by decide))
                  replace R0 := Lib.hid (R0.out.keep hc (by decide))
                  replace R1 := Lib.hid (R1.out.keep hc (by decide))
                  replace R2 := Lib.hid (R2.out.keep hc (by decide))
                  replace R3 := Lib.hid (R3.out.keep hc (by decide))
                  replace HX := Lib.hid (HX.out.keep hc (by decide))
                  replace HA := Lib.hid hq
                  clear hq hc
                  generalize give o8 w8 1 = o9 at *
                  have hS : w9.heap[bk]? = some (.cells #[.bool true, .int .i64 xv] 47 (0, 0)) ∧ w9.heap[gv]? = some (.cells #[.pointer (some ⟨g0, 0, none⟩), .pointer (some ⟨g1, 0, none⟩), .pointer (some ⟨g2, 0, none⟩), .pointer (some ⟨g3, 0, none⟩)] 69 (0, 0)) := ⟨HX.out.1, HV.out.1⟩
                  clear hHeld
                  go_wp2_with fail
                  refine hK.out _ _ hS (fun hHeld => ?_)
                  clear hK K
                  try simp only [Act.put, List.setIfInBounds_toArray, List.set_cons_zero, List.set_cons_succ]
                  clear hS
                  refine wpAnyH_ready (rs := [12]) (by kernel_rfl) (by simp) ?_
                  refine AllReadyH.cons (by simp only [List.getElem?_toArray, List.getElem?_cons_succ, List.getElem?_cons_zero]; rfl) (fun K hK => ?_) AllReadyH.nil
                  go_simp
                  refine (rpush_k keyS (⟨[.string sn, .int .i64 xv, .slice none 0 0], max xv 0⟩ : Th) (n : Int) (xv) R0.out (by omega) rfl (by simp [keyS, HSZ.out])).mono ?_
                  rintro E w10 ⟨rfl, hq, hc⟩
                  replace HO := Lib.hid (HO.out.keep hc (by decide))
                  replace HR := Lib.hid (HR.out.keep hc (by decide))
                  replace HA := Lib.hid (HA.out.keep hc (by decide))
                  replace HB := Lib.hid (HB.out.keep hc (by decide))
                  replace HC := Lib.hid (HC.out.keep hc (by decide))
                  replace HD := Lib.hid (HD.out.keep hc (by decide))
                  replace HV := Lib.hid (HV.out.keep hc (by decide))
                  replace R1 := Lib.hid (R1.out.keep hc (by decide))
                  replace R2 := Lib.hid (R2.out.keep hc (by decide))
                  replace R3 := Lib.hid (R3.out.keep hc (by decide))
                  replace HX := Lib.hid (HX.out.keep hc (by decide))
                  replace R0 := Lib.hid hq
                  clear hq hc
                  generalize give o9 w9 11 = o10 at *
                  have hS : w10.heap[bk]? = some (.cells #[.bool true, .int .i64 xv] 47 (0, 0)) ∧ w10.heap[gv]? = some (.cells #[.pointer (some ⟨g0, 0, none⟩), .pointer (some ⟨g1, 0, none⟩), .pointer (some ⟨g2, 0, none⟩), .pointer (some ⟨g3, 0, none⟩)] 69 (0, 0)) := ⟨HX.out.1, HV.out.1⟩
                  clear hHeld
                  go_wp2_with fail
                  refine hK.out _ _ hS (fun hHeld => ?_)
                  clear hK K
                  try simp only [Act.put, List.setIfInBounds_toArray, List.set_cons_zero, List.set_cons_succ]
                  clear hS
                  refine wpAnyH_take (i := 13) (v := ?_) (by simp only [List.getElem?_toArray, List.getElem?_cons_succ, List.getElem?_cons_zero]; rfl) (by kernel_rfl) (by kernel_rfl) (by kernel_rfl) (by exact fun _ _ _ h => h) (Or.inl ⟨by rfl, ?_⟩) (by assumption) ?_
                  rotate_left
                  · intro wq hSw
                    (try dsimp only at hSw)
                    go_simp
                    all_goals (with_reducible rfl)
                  try simp only [Act.put, List.setIfInBounds_toArray, List.set_cons_zero, List.set_cons_succ]
                  refine wpAnyH_take (i := 14) (v := ?_) (by simp only [List.getElem?_toArray, List.getElem?_cons_succ, List.getElem?_cons_zero]; rfl) (by kernel_rfl) (by kernel_rfl) (by kernel_rfl) (by exact fun _ _ _ h => h) (Or.inl ⟨by rfl, ?_⟩) (by assumption) ?_
                  rotate_left
                  · intro wq hSw
                    (try dsimp only at hSw)
                    go_simp
                    all_goals (with_reducible rfl)
                  try simp only [Act.put, List.setIfInBounds_toArray, List.set_cons_zero, List.set_cons_succ]
                  refine wpAnyH_take (i := 15) (v := ?_) (by simp only [List.getElem?_toArray, List.getElem?_cons_succ, List.getElem?_cons_zero]; rfl) (by kernel_rfl) (by kernel_rfl) (by kernel_rfl) (by exact fun _ _ _ h => h) (Or.inl ⟨by rfl, ?_⟩) (by assumption) ?_
                  rotate_left
                  · intro wq hSw
                    (try dsimp only at hSw)
                    go_simp
                    all_goals (with_reducible rfl)
                  try simp only [Act.put, List.setIfInBounds_toArray, List.set_cons_zero, List.set_cons_succ]
                  refine wpAnyH_take (i := 16) (v := ?_) (by simp only [List.getElem?_toArray, List.getElem?_cons_succ, List.getElem?_cons_zero]; rfl) (by kernel_rfl) (by kernel_rfl) (by kernel_rfl) (by exact fun _ _ _ h => h) (Or.inl ⟨by rfl, ?_⟩) (by assumption) ?_
                  rotate_left
                  · intro wq hSw
                    (try dsimp only at hSw)
                    go_simp
                    all_goals (with_reducible rfl)
                  try simp only [Act.put, List.setIfInBounds_toArray, List.set_cons_zero, List.set_cons_succ]
                  refine wpAnyH_take (i := 17) (by simp only [List.getElem?_toArray, List.getElem?_cons_succ, List.getElem?_cons_zero]; rfl) (by kernel_rfl) (by kernel_rfl) (by kernel_rfl) (by exact fun _ _ _ h => h) (yields_ld (ad := ⟨bk, 1, none⟩) (by rfl) _ rfl rfl (fun w' h => ld3 (cell_of_block h.1 1))) (by assumption) ?_
                  try simp only [Act.put, List.setIfInBounds_toArray, List.set_cons_zero, List.set_cons_succ]
                  refine wpAnyH_take (i := 19) (v := ?_) (by simp only [List.getElem?_toArray, List.getElem?_cons_succ, List.getElem?_cons_zero]; rfl) (by kernel_rfl) (by kernel_rfl) (by kernel_rfl) (by exact fun _ _ _ h => h) (Or.inl ⟨by rfl, ?_⟩) (by assumption) ?_
                  rotate_left
                  · intro wq hSw
                    (try dsimp only at hSw)
                    go_simp
                    all_goals (with_reducible rfl)
                  try simp only [Act.put, List.setIfInBounds_toArray, List.set_cons_zero, List.set_cons_succ]
                  refine wpAnyH_take (i := 20) (by simp only [List.getElem?_toArray, List.getElem?_cons_succ, List.getElem?_cons_zero]; rfl) (by kernel_rfl) (by kernel_rfl) (by kernel_rfl) (by exact fun _ _ _ h => h) (yields_ld (ad := ⟨gv, 1, none⟩) (by rfl) _ rfl rfl (fun w' h => ld60 (cell_of_block h.2 1))) (by assumption) ?_
                  try simp only [Act.put, List.setIfInBounds_toArray, List.set_cons_zero, List.set_cons_succ]
                  refine wpAnyH_take (i := 21) (v := ?_) (by simp only [List.getElem?_toArray, List.getElem?_cons_succ, List.getElem?_cons_zero]; rfl) (by kernel_rfl) (by kernel_rfl) (by kernel_rfl) (by exact fun _ _ _ h => h) (Or.inl ⟨by rfl, ?_⟩) (by assumption) ?_
                  rotate_left
                  · intro wq hSw
                    (try dsimp only at hSw)
                    go_simp
                    all_goals (with_reducible rfl)
                  try simp only [Act.put, List.setIfInBounds_toArray, List.set_cons_zero, List.set_cons_succ]
                  refine wpAnyH_take (i := 22) (by simp only [List.getElem?_toArray, List.getElem?_cons_succ, List.getElem?_cons_zero]; rfl) (by kernel_rfl) (by kernel_rfl) (by kernel_rfl) (by exact fun _ _ _ h => h) (yields_ld (ad := ⟨bk, 1, none⟩) (by rfl) _ rfl rfl (fun w' h => ld3 (cell_of_block h.1 1))) (by assumption) ?_
                  try simp only [Act.put, List.setIfInBounds_toArray, List.set_cons_zero, List.set_cons_succ]
                  refine wpAnyH_take (i := 23) (v := ?_) (by simp only [List.getElem?_toArray, List.getElem?_cons_succ, List.getElem?_cons_zero]; rfl) (by kernel_rfl) (by kernel_rfl) (by kernel_rfl) (by exact fun _ _ _ h => h) (Or.inl ⟨by rfl, ?_⟩) (by assumption) ?_
                  rotate_left
                  · intro wq hSw
                    (try dsimp only at hSw)
                    go_simp
                    all_goals (with_reducible rfl)
                  try simp only [Act.put, List.setIfInBounds_toArray, List.set_cons_zero, List.set_cons_succ]
                  refine wpAnyH_take (i := 24) (by simp only [List.getElem?_toArray, List.getElem?_cons_succ, List.getElem?_cons_zero]; rfl) (by kernel_rfl) (by kernel_rfl) (by kernel_rfl) (by exact fun _ _ _ h => h) (yields_ld (ad := ⟨bk, 1, none⟩) (by rfl) _ rfl rfl (fun w' h => ld3 (cell_of_block h.1 1))) (by assumption) ?_
                  try simp only [Act.put, List.setIfInBounds_toArray, List.set_cons_zero, List.set_cons_succ]
                  refine wpAnyH_take (i := 25) (v := ?_) (by simp only [List.getElem?_toArray, List.getElem?_cons_succ, List.getElem?_cons_zero]; rfl) (by kernel_rfl) (by kernel_rfl) (by kernel_rfl) (by exact fun _ _ _ h => h) (Or.inl ⟨by rfl, ?_⟩) (by assumption) ?_
                  rotate_left
                  · intro wq hSw
                    (try dsimp only at hSw)
                    go_simp
                    all_goals (with_reducible rfl)
                  try simp only [Act.put, List.setIfInBounds_toArray, List.set_cons_zero, List.set_cons_succ]
                  refine wpAnyH_ready (rs := [18]) (by kernel_rfl) (by simp) ?_
                  refine AllReadyH.cons (by simp only [List.getElem?_toArray, List.getElem?_cons_succ, List.getElem?_cons_zero]; rfl) (fun K hK => ?_) AllReadyH.nil
                  go_simp
                  refine (KI.push31_o xv (max (xv.tdiv 2) 0) HB.out ⟨hx64.1, hx64.2⟩ rfl).mono ?_
                  rintro E w11 ⟨rfl, hq, hc⟩
                  replace HO := Lib.hid (HO.out.keep hc (by decide))
                  replace HR := Lib.hid (HR.out.keep hc (by decide))
                  replace HA := Lib.hid (HA.out.keep hc (by decide))
                  replace HC := Lib.hid (HC.out.keep hc (by decide))
                  replace HD := Lib.hid (HD.out.keep hc (by decide))
                  replace HV := Lib.hid (HV.out.keep hc (by decide))
                  replace R0 := Lib.hid (R0.out.keep hc (by decide))
                  replace R1 := Lib.hid (R1.out.keep hc (by decide))
                  replace R2 := Lib.hid (R2.out.keep hc (by decide))
                  replace R3 := Lib.hid (R3.out.keep hc (by decide))
                  replace HX := Lib.hid (HX.out.keep hc (by decide))
                  replace HB := Lib.hid hq
                  clear hq hc
                  generalize give o10 w10 2 = o11 at *
                  have hS : w11.heap[bk]? = some (.cells #[.bool true, .int .i64 xv] 47 (0, 0)) ∧ w11.heap[gv]? = some (.cells #[.pointer (some ⟨g0, 0, none⟩), .pointer (some ⟨g1, 0, none⟩), .pointer (some ⟨g2, 0, none⟩), .pointer (some ⟨g3, 0, none⟩)] 69 (0, 0)) := ⟨HX.out.1, HV.out.1⟩
                  clear hHeld
                  go_wp2_with fail
                  refine hK.out _ _ hS (fun hHeld => ?_)
                  clear hK K
                  try simp only [Act.put, List.setIfInBounds_toArray, List.set_cons_zero, List.set_cons_succ]
                  clear hS
                  refine wpAnyH_ready (rs := [26]) (by kernel_rfl) (by simp) ?_
                  refine AllReadyH.cons (by simp only [List.getElem?_toArray, List.getElem?_cons_succ, List.getElem?_cons_zero]; rfl) (fun K hK => ?_) AllReadyH.nil
                  go_simp
                  refine (rpush_k keyI (⟨[.int .i64 xv], max (xv.tdiv 2) 0⟩ : Th) (xv) (xv.tdiv 2) R1.out (by omega) rfl (rfl)).mono ?_
                  rintro E w12 ⟨rfl, hq, hc⟩
                  replace HO := Lib.hid (HO.out.keep hc (by decide))
                  replace HR := Lib.hid (HR.out.keep hc (by decide))
                  replace HA := Lib.hid (HA.out.keep hc (by decide))
                  replace HB := Lib.hid (HB.out.keep hc (by decide))
                  replace HC := Lib.hid (HC.out.keep hc (by decide))
                  replace HD := Lib.hid (HD.out.keep hc (by decide))
                  replace HV := Lib.hid (HV.out.keep hc (by decide))
                  replace R0 := Lib.hid (R0.out.keep hc (by decide))
                  replace R2 := Lib.hid (R2.out.keep hc (by decide))
                  replace R3 := Lib.hid (R3.out.keep hc (by decide))
                  replace HX := Lib.hid (HX.out.keep hc (by decide))
                  replace R1 := Lib.hid hq
                  clear hq hc
                  generalize give o11 w11 12 = o12 at *
                  have hS : w12.heap[bk]? = some (.cells #[.bool true, .int .i64 xv] 47 (0, 0)) ∧ w12.heap[gv]? = some (.cells #[.pointer (some ⟨g0, 0, none⟩), .pointer (some ⟨g1, 0, none⟩), .pointer (some ⟨g2, 0, none⟩), .pointer (some ⟨g3, 0, none⟩)] 69 (0, 0)) := ⟨HX.out.1, HV.out.1⟩
                  clear hHeld
                  go_wp2_with fail
                  refine hK.out _ _ hS (fun hHeld => ?_)
                  clear hK K
                  try simp only [Act.put, List.setIfInBounds_toArray, List.set_cons_zero, List.set_cons_succ]
                  clear hS
                  refine wpAnyH_take (i := 27) (v := ?_) (by simp only [List.getElem?_toArray, List.getElem?_cons_succ, List.getElem?_cons_zero]; rfl) (by kernel_rfl) (by kernel_rfl) (by kernel_rfl) (by exact fun _ _ _ h => h) (Or.inl ⟨by rfl, ?_⟩) (by assumption) ?_
                  rotate_left
                  · intro wq hSw
                    (try dsimp only at hSw)
                    go_simp
                    all_goals (with_reducible rfl)
                  try simp only [Act.put, List.setIfInBounds_toArray, List.set_cons_zero, List.set_cons_succ]
                  refine wpAnyH_take (i := 28) (v := ?_) (by simp only [List.getElem?_toArray, List.getElem?_cons_succ, List.getElem?_cons_zero]; rfl) (by kernel_rfl) (by kernel_rfl) (by kernel_rfl) (by exact fun _ _ _ h => h) (Or.inl ⟨by rfl, ?_⟩) (by assumption) ?_
                  rotate_left
                  · intro wq hSw
                    (try dsimp only at hSw)
                    go_simp
                    all_goals (with_reducible rfl)
                  try simp only [Act.put, List.setIfInBounds_toArray, List.set_cons_zero, List.set_cons_succ]
                  refine wpAnyH_take (i := 29) (v := ?_) (by simp only [List.getElem?_toArray, List.getElem?_cons_succ, List.getElem?_cons_zero]; rfl) (by kernel_rfl) (by kernel_rfl) (by kernel_rfl) (by exact fun _ _ _ h => h) (Or.inl ⟨by rfl, ?_⟩) (by assumption) ?_
                  rotate_left
                  · intro wq hSw
                    (try dsimp only at hSw)
                    go_simp
                    all_goals (with_reducible rfl)
                  try simp only [Act.put, List.setIfInBounds_toArray, List.set_cons_zero, List.set_cons_succ]
                  refine wpAnyH_take (i := 30) (v := ?_) (by simp only [List.getElem?_toArray, List.getElem?_cons_succ, List.getElem?_cons_zero]; rfl) (by kernel_rfl) (by kernel_rfl) (by kernel_rfl) (by exact fun _ _ _ h => h) (Or.inl ⟨by rfl, ?_⟩) (by assumption) ?_
                  rotate_left
                  · intro wq hSw
                    (try dsimp only at hSw)
                    go_simp
                    all_goals (with_reducible rfl)
                  try simp only [Act.put, List.setIfInBounds_toArray, List.set_cons_zero, List.set_cons_succ]
                  refine wpAnyH_take (i := 31) (v := ?_) (by simp only [List.getElem?_toArray, List.getElem?_cons_succ, List.getElem?_cons_zero]; rfl) (by kernel_rfl) (by kernel_rfl) (by kernel_rfl) (by exact fun _ _ _ h => h) (Or.inl ⟨by rfl, ?_⟩) (by assumption) ?_
                  rotate_left
                  · intro wq hSw
                    (try dsimp only at hSw)
                    go_simp
                    all_goals (with_reducible rfl)
                  try simp only [Act.put, List.setIfInBounds_toArray, List.set_cons_zero, List.set_cons_succ]
                  refine wpAnyH_take (i := 32) (v := ?_) (by simp only [List.getElem?_toArray, List.getElem?_cons_succ, List.getElem?_cons_zero]; rfl) (by kernel_rfl) (by kernel_rfl) (by kernel_rfl) (by exact fun _ _ _ h => h) (Or.inl ⟨by rfl, ?_⟩) (by assumption) ?_
                  rotate_left
                  · intro wq hSw
                    (try dsimp only at hSw)
                    go_simp
                    all_goals (with_reducible rfl)
                  try simp only [Act.put, List.setIfInBounds_toArray, List.set_cons_zero, List.set_cons_succ]
                  refine wpAnyH_take (i := 33) (by simp only [List.getElem?_toArray, List.getElem?_cons_succ, List.getElem?_cons_zero]; rfl) (by kernel_rfl) (by kernel_rfl) (by kernel_rfl) (by exact fun _ _ _ h => h) (yields_ld (ad := ⟨bk, 1, none⟩) (by rfl) _ rfl rfl (fun w' h => ld3 (cell_of_block h.1 1))) (by assumption) ?_
                  try simp only [Act.put, List.setIfInBounds_toArray, List.set_cons_zero, List.set_cons_succ]
                  refine wpAnyH_take (i := 34) (v := ?_) (by simp only [List.getElem?_toArray, List.getElem?_cons_succ, List.getElem?_cons_zero]; rfl) (by kernel_rfl) (by kernel_rfl) (by kernel_rfl) (by exact fun _ _ _ h => h) (Or.inl ⟨by rfl, ?_⟩) (by assumption) ?_
                  rotate_left
                  · intro wq hSw
                    (try dsimp only at hSw)
                    go_simp
                    all_goals (with_reducible rfl)
                  try simp only [Act.put, List.setIfInBounds_toArray, List.set_cons_zero, List.set_cons_succ]
                  refine wpAnyH_take (i := 36) (v := ?_) (by simp only [List.getElem?_toArray, List.getElem?_cons_succ, List.getElem?_cons_zero]; rfl) (by kernel_rfl) (by kernel_rfl) (by kernel_rfl) (by exact fun _ _ _ h => h) (Or.inl ⟨by rfl, ?_⟩) (by assumption) ?_
                  rotate_left
                  · intro wq hSw
                    (try dsimp only at hSw)
                    go_simp
                    all_goals (with_reducible rfl)
                  try simp only [Act.put, List.setIfInBounds_toArray, List.set_cons_zero, List.set_cons_succ]
                  refine wpAnyH_take (i := 37) (by simp only [List.getElem?_toArray, List.getElem?_cons_succ, List.getElem?_cons_zero]; rfl) (by kernel_rfl) (by kernel_rfl) (by kernel_rfl) (by exact fun _ _ _ h => h) (yields_ld (ad := ⟨gv, 2, none⟩) (by rfl) _ rfl rfl (fun w' h => ld60 (cell_of_block h.2 2))) (by assumption) ?_
                  try simp only [Act.put, List.setIfInBounds_toArray, List.set_cons_zero, List.set_cons_succ]
                  refine wpAnyH_take (i := 38) (v := ?_) (by simp only [List.getElem?_toArray, List.getElem?_cons_succ, List.getElem?_cons_zero]; rfl) (by kernel_rfl) (by kernel_rfl) (by kernel_rfl) (by exact fun _ _ _ h => h) (Or.inl ⟨by rfl, ?_⟩) (by assumption) ?_
                  rotate_left
                  · intro wq hSw
                    (try dsimp only at hSw)
                    go_simp
                    all_goals (with_reducible rfl)
                  try simp only [Act.put, List.setIfInBounds_toArray, List.set_cons_zero, List.set_cons_succ]
                  refine wpAnyH_take (i := 39) (v := ?_) (by simp only [List.getElem?_toArray, List.getElem?_cons_succ, List.getElem?_cons_zero]; rfl) (by kernel_rfl) (by kernel_rfl) (by kernel_rfl) (by exact fun _ _ _ h => h) (Or.inl ⟨by rfl, ?_⟩) (by assumption) ?_
                  rotate_left
                  · intro wq hSw
                    (try dsimp only at hSw)
                    go_simp
                    all_goals (with_reducible rfl)
                  try simp only [Act.put, List.setIfInBounds_toArray, List.set_cons_zero, List.set_cons_succ]
                  refine wpAnyH_take (i := 40) (by simp only [List.getElem?_toArray, List.getElem?_cons_succ, List.getElem?_cons_zero]; rfl) (by kernel_rfl) (by kernel_rfl) (by kernel_rfl) (by exact fun _ _ _ h => h) (yields_ld (ad := ⟨bk, 1, none⟩) (by rfl) _ rfl rfl (fun w' h => ld3 (cell_of_block h.1 1))) (by assumption) ?_
                  try simp only [Act.put, List.setIfInBounds_toArray, List.set_cons_zero, List.set_cons_succ]
                  refine wpAnyH_ready (rs := [35]) (by kernel_rfl) (by simp) ?_
                  refine AllReadyH.cons (by simp only [List.getElem?_toArray, List.getElem?_cons_succ, List.getElem?_cons_zero]; rfl) (fun K hK => ?_) AllReadyH.nil
                  go_simp
                  refine (KP.push18_o (i : Int) xv (max xv 0) HC.out (by omega) rfl).mono ?_
                  rintro E w13 ⟨rfl, hq, hc⟩
                  replace HO := Lib.hid (HO.out.keep hc (by decide))
                  replace HR := Lib.hid (HR.out.keep hc (by decide))
                  replace HA := Lib.hid (HA.out.keep hc (by decide))
                  replace HB := Lib.hid (HB.out.keep hc (by decide))
                  replace HD := Lib.hid (HD.out.keep hc (by decide))
                  replace HV := Lib.hid (HV.out.keep hc (by decide))
                  replace R0 := Lib.hid (R0.out.keep hc (by decide))
                  replace R1 := Lib.hid (R1.out.keep hc (by decide))
                  replace R2 := Lib.hid (R2.out.keep hc (by decide))
                  replace R3 := Lib.hid (R3.out.keep hc (by decide))
                  replace HX := Lib.hid (HX.out.keep hc (by decide))
                  replace HC := Lib.hid hq
                  clear hq hc
                  generalize give o12 w12 3 = o13 at *
                  have hS : w13.heap[bk]? = some (.cells #[.bool true, .int .i64 xv] 47 (0, 0)) ∧ w13.heap[gv]? = some (.cells #[.pointer (some ⟨g0, 0, none⟩), .pointer (some ⟨g1, 0, none⟩), .pointer (some ⟨g2, 0, none⟩), .pointer (some ⟨g3, 0, none⟩)] 69 (0, 0)) := ⟨HX.out.1, HV.out.1⟩
                  clear hHeld
                  go_wp2_with fail
                  refine hK.out _ _ hS (fun hHeld => ?_)
                  clear hK K
                  try simp only [Act.put, List.setIfInBounds_toArray, List.set_cons_zero, List.set_cons_succ]
                  clear hS
                  refine wpAnyH_ready (rs := [41]) (by kernel_rfl) (by simp) ?_
                  refine AllReadyH.cons (by simp only [List.getElem?_toArray, List.getElem?_cons_succ, List.getElem?_cons_zero]; rfl) (fun K hK => ?_) AllReadyH.nil
                  go_simp
                  refine (rpush_k keyI (⟨[.int .i64 (i : Int), .int .i64 xv], max xv 0⟩ : Th) (i : Int) (xv) R2.out (by omega) rfl (rfl)).mono ?_
                  rintro E w14 ⟨rfl, hq, hc⟩
                  replace HO := Lib.hid (HO.out.keep hc (by decide))
                  replace HR := Lib.hid (HR.out.keep hc (by decide))
                  replace HA := Lib.hid (HA.out.keep hc (by decide))
                  replace HB := Lib.hid (HB.out.keep hc (by decide))
                  replace HC := Lib.hid (HC.out.keep hc (by decide))
                  replace HD := Lib.hid (HD.out.keep hc (by decide))
                  replace HV := Lib.hid (HV.out.keep hc (by decide))
                  replace R0 := Lib.hid (R0.out.keep hc (by decide))
                  replace R1 := Lib.hid (R1.out.keep hc (by decide))
                  replace R3 := Lib.hid (R3.out.keep hc (by decide))
                  replace HX := Lib.hid (HX.out.keep hc (by decide))
                  replace R2 := Lib.hid hq
                  clear hq hc
                  generalize give o13 w13 13 = o14 at *
                  have hS : w14.heap[bk]? = some (.cells #[.bool true, .int .i64 xv] 47 (0, 0)) ∧ w14.heap[gv]? = some (.cells #[.pointer (some ⟨g0, 0, none⟩), .pointer (some ⟨g1, 0, none⟩), .pointer (some ⟨g2, 0, none⟩), .pointer (some ⟨g3, 0, none⟩)] 69 (0, 0)) := ⟨HX.out.1, HV.out.1⟩
                  clear hHeld
                  go_wp2_with fail
                  refine hK.out _ _ hS (fun hHeld => ?_)
                  clear hK K
                  try simp only [Act.put, List.setIfInBounds_toArray, List.set_cons_zero, List.set_cons_succ]
                  clear hS
                  refine wpAnyH_take (i := 42) (v := ?_) (by simp only [List.getElem?_toArray, List.getElem?_cons_succ, List.getElem?_cons_zero]; rfl) (by kernel_rfl) (by kernel_rfl) (by kernel_rfl) (by exact fun _ _ _ h => h) (Or.inl ⟨by rfl, ?_⟩) (by assumption) ?_
                  rotate_left
                  · intro wq hSw
                    (try dsimp only at hSw)
                    go_simp
                    all_goals (with_reducible rfl)
                  try simp only [Act.put, List.setIfInBounds_toArray, List.set_cons_zero, List.set_cons_succ]
                  refine wpAnyH_take (i := 43) (v := ?_) (by simp only [List.getElem?_toArray, List.getElem?_cons_succ, List.getElem?_cons_zero]; rfl) (by kernel_rfl) (by kernel_rfl) (by kernel_rfl) (by exact fun _ _ _ h => h) (Or.inl ⟨by rfl, ?_⟩) (by assumption) ?_
                  rotate_left
                  · intro wq hSw
                    (try dsimp only at hSw)
                    go_simp
                    all_goals (with_reducible rfl)
                  try simp only [Act.put, List.setIfInBounds_toArray, List.set_cons_zero, List.set_cons_succ]
                  refine wpAnyH_take (i := 44) (v := ?_) (by simp only [List.getElem?_toArray, List.getElem?_cons_succ, List.getElem?_cons_zero]; rfl) (by kernel_rfl) (by kernel_rfl) (by kernel_rfl) (by exact fun _ _ _ h => h) (Or.inl ⟨by rfl, ?_⟩) (by assumption) ?_
                  rotate_left
                  · intro wq hSw
                    (try dsimp only at hSw)
                    go_simp
                    all_goals (with_reducible rfl)
                  try simp only [Act.put, List.setIfInBounds_toArray, List.set_cons_zero, List.set_cons_succ]
                  refine wpAnyH_take (i := 45) (v := ?_) (by simp only [List.getElem?_toArray, List.getElem?_cons_succ, List.getElem?_cons_zero]; rfl) (by kernel_rfl) (by kernel_rfl) (by kernel_rfl) (by exact fun _ _ _ h => h) (Or.inl ⟨by rfl, ?_⟩) (by assumption) ?_
                  rotate_left
                  · intro wq hSw
                    (try dsimp only at hSw)
                    go_simp
                    all_goals (with_reducible rfl)
                  try simp only [Act.put, List.setIfInBounds_toArray, List.set_cons_zero, List.set_cons_succ]
                  refine wpAnyH_take (i := 46) (v := ?_) (by simp only [List.getElem?_toArray, List.getElem?_cons_succ, List.getElem?_cons_zero]; rfl) (by kernel_rfl) (by kernel_rfl) (by kernel_rfl) (by exact fun _ _ _ h => h) (Or.inl ⟨by rfl, ?_⟩) (by assumption) ?_
                  rotate_left
                  · intro wq hSw
                    (try dsimp only at hSw)
                    go_simp
                    all_goals (with_reducible rfl)
                  try simp only [Act.put, List.setIfInBounds_toArray, List.set_cons_zero, List.set_cons_succ]
                  refine wpAnyH_take (i := 47) (v := ?_) (by simp only [List.getElem?_toArray, List.getElem?_cons_succ, List.getElem?_cons_zero]; rfl) (by kernel_rfl) (by kernel_rfl) (by kernel_rfl) (by exact fun _ _ _ h => h) (Or.inl ⟨by rfl, ?_⟩) (by assumption) ?_
                  rotate_left
                  · intro wq hSw
                    (try dsimp only at hSw)
                    go_simp
                    all_goals (with_reducible rfl)
                  try simp only [Act.put, List.setIfInBounds_toArray, List.set_cons_zero, List.set_cons_succ]
                  refine wpAnyH_take (i := 48) (by simp only [List.getElem?_toArray, List.getElem?_cons_succ, List.getElem?_cons_zero]; rfl) (by kernel_rfl) (by kernel_rfl) (by kernel_rfl) (by exact fun _ _ _ h => h) (yields_str (by rfl) _ _ rfl n rfl rfl hn HSN.out) (by assumption) ?_
                  try simp only [Act.put, List.setIfInBounds_toArray, List.set_cons_zero, List.set_cons_succ]
                  refine wpAnyH_take (i := 50) (v := ?_) (by simp only [List.getElem?_toArray, List.getElem?_cons_succ, List.getElem?_cons_zero]; rfl) (by kernel_rfl) (by kernel_rfl) (by kernel_rfl) (by exact fun _ _ _ h => h) (Or.inl ⟨by rfl, ?_⟩) (by assumption) ?_
                  rotate_left
                  · intro wq hSw
                    (try dsimp only at hSw)
                    go_simp
                    all_goals (with_reducible rfl)
                  try simp only [Act.put, List.setIfInBounds_toArray, List.set_cons_zero, List.set_cons_succ]
                  refine wpAnyH_take (i := 51) (by simp only [List.getElem?_toArray, List.getElem?_cons_succ, List.getElem?_cons_zero]; rfl) (by kernel_rfl) (by kernel_rfl) (by kernel_rfl) (by exact fun _ _ _ h => h) (yields_ld (ad := ⟨gv, 3, none⟩) (by rfl) _ rfl rfl (fun w' h => ld60 (cell_of_block h.2 3))) (by assumption) ?_
                  try simp only [Act.put, List.setIfInBounds_toArray, List.set_cons_zero, List.set_cons_succ]
                  refine wpAnyH_take (i := 52) (v := ?_) (by simp only [List.getElem?_toArray, List.getElem?_cons_succ, List.getElem?_cons_zero]; rfl) (by kernel_rfl) (by kernel_rfl) (by kernel_rfl) (by exact fun _ _ _ h => h) (Or.inl ⟨by rfl, ?_⟩) (by assumption) ?_
                  rotate_left
                  · intro wq hSw
                    (try dsimp only at hSw)
                    go_simp
                    all_goals (with_reducible rfl)
                  try simp only [Act.put, List.setIfInBounds_toArray, List.set_cons_zero, List.set_cons_succ]
                  refine wpAnyH_take (i := 53) (v := ?_) (by simp only [List.getElem?_toArray, List.getElem?_cons_succ, List.getElem?_cons_zero]; rfl) (by kernel_rfl) (by kernel_rfl) (by kernel_rfl) (by exact fun _ _ _ h => h) (Or.inl ⟨by rfl, ?_⟩) (by assumption) ?_
                  rotate_left
                  · intro wq hSw
                    (try dsimp only at hSw)
                    go_simp
                    all_goals (with_reducible rfl)
                  try simp only [Act.put, List.setIfInBounds_toArray, List.set_cons_zero, List.set_cons_succ]
                  refine wpAnyH_take (i := 54) (v := ?_) (by simp only [List.getElem?_toArray, List.getElem?_cons_succ, List.getElem?_cons_zero]; rfl) (by kernel_rfl) (by kernel_rfl) (by kernel_rfl) (by exact fun _ _ _ h => h) (Or.inl ⟨by rfl, ?_⟩) (by assumption) ?_
                  rotate_left
                  · intro wq hSw
                    (try dsimp only at hSw)
                    go_simp
                    all_goals (with_reducible rfl)
                  try simp only [Act.put, List.setIfInBounds_toArray, List.set_cons_zero, List.set_cons_succ]
                  refine wpAnyH_take (i := 55) (v := ?_) (by simp only [List.getElem?_toArray, List.getElem?_cons_succ, List.getElem?_cons_zero]; rfl) (by kernel_rfl) (by kernel_rfl) (by kernel_rfl) (by exact fun _ _ _ h => h) (Or.inl ⟨by rfl, ?_⟩) (by assumption) ?_
                  rotate_left
                  · intro wq hSw
                    (try dsimp only at hSw)
                    go_simp
                    all_goals (with_reducible rfl)
                  try simp only [Act.put, List.setIfInBounds_toArray, List.set_cons_zero, List.set_cons_succ]
                  refine wpAnyH_ready (rs := [49]) (by kernel_rfl) (by simp) ?_
                  refine AllReadyH.cons (by simp only [List.getElem?_toArray, List.getElem?_cons_succ, List.getElem?_cons_zero]; rfl) (fun K hK => ?_) AllReadyH.nil
                  go_simp
                  refine (KS.push33_o sn (max (n : Int) 0) HD.out (by rw [HSZ.out]; omega) (by rw [HSZ.out])).mono ?_
                  rintro E w15 ⟨rfl, hq, hc⟩
                  replace HO := Lib.hid (HO.out.keep hc (by decide))
                  replace HR := Lib.hid (HR.out.keep hc (by decide))
                  replace HA := Lib.hid (HA.out.keep hc (by decide))
                  replace HB := Lib.hid (HB.out.keep hc (by decide))
                  replace HC := Lib.hid (HC.out.keep hc (by decide))
                  replace HV := Lib.hid (HV.out.keep hc (by decide))
                  replace R0 := Lib.hid (R0.out.keep hc (by decide))
                  replace R1 := Lib.hid (R1.out.keep hc (by decide))
                  replace R2 := Lib.hid (R2.out.keep hc (by decide))
                  replace R3 := Lib.hid (R3.out.keep hc (by decide))
                  replace HX := Lib.hid (HX.out.keep hc (by decide))
                  replace HD := Lib.hid hq
                  clear hq hc
                  generalize give o14 w14 4 = o15 at *
                  have hS : w15.heap[bk]? = some (.cells #[.bool true, .int .i64 xv] 47 (0, 0)) ∧ w15.heap[gv]? = some (.cells #[.pointer (some ⟨g0, 0, none⟩), .pointer (some ⟨g1, 0, none⟩), .pointer (some ⟨g2, 0, none⟩), .pointer (some ⟨g3, 0, none⟩)] 69 (0, 0)) := ⟨HX.out.1, HV.out.1⟩
                  clear hHeld
                  go_wp2_with fail
                  refine hK.out _ _ hS (fun hHeld => ?_)
                  clear hK K
                  try simp only [Act.put, List.setIfInBounds_toArray, List.set_cons_zero, List.set_cons_succ]
                  clear hS
                  refine wpAnyH_ready (rs := [56]) (by kernel_rfl) (by simp) ?_
                  refine AllReadyH.cons (by simp only [List.getElem?_toArray, List.getElem?_cons_succ, List.getElem?_cons_zero]; rfl) (fun K hK => ?_) AllReadyH.nil
                  go_simp
                  refine (rpush_k keyS (⟨[.string sn], max (n : Int) 0⟩ : Th) (n : Int) (n : Int) R3.out (by omega) rfl (by simp [keyS, HSZ.out])).mono ?_
                  rintro E w16 ⟨rfl, hq, hc⟩
                  replace HO := Lib.hid (HO.out.keep hc (by decide))
                  replace HR := Lib.hid (HR.out.keep hc (by decide))
                  replace HA := Lib.hid (HA.out.keep hc (by decide))
                  replace HB := Lib.hid (HB.out.keep hc (by decide))
                  replace HC := Lib.hid (HC.out.keep hc (by decide))
                  replace HD := Lib.hid (HD.out.keep hc (by decide))
                  replace HV := Lib.hid (HV.out.keep hc (by decide))
                  replace R0 := Lib.hid (R0.out.keep hc (by decide))
                  replace R1 := Lib.hid (R1.out.keep hc (by decide))
                  replace R2 := Lib.hid (R2.out.keep hc (by decide))
                  replace HX := Lib.hid (HX.out.keep hc (by decide))
                  replace R3 := Lib.hid hq
                  clear hq hc
                  generalize give o15 w15 14 = o16 at *
                  have hS : w16.heap[bk]? = some (.cells #[.bool true, .int .i64 xv] 47 (0, 0)) ∧ w16.heap[gv]? = some (.cells #[.pointer (some ⟨g0, 0, none⟩), .pointer (some ⟨g1, 0, none⟩), .pointer (some ⟨g2, 0, none⟩), .pointer (some ⟨g3, 0, none⟩)] 69 (0, 0)) := ⟨HX.out.1, HV.out.1⟩
                  clear hHeld
                  go_wp2_with fail
                  refine hK.out _ _ hS (fun hHeld => ?_)
                  clear hK K
                  try simp only [Act.put, List.setIfInBounds_toArray, List.set_cons_zero, List.set_cons_succ]
                  clear hS
                  refine wpAnyH_take (i := 57) (v := ?_) (by simp only [List.getElem?_toArray, List.getElem?_cons_succ, List.getElem?_cons_zero]; rfl) (by kernel_rfl) (by kernel_rfl) (by kernel_rfl) (by exact fun _ _ _ h => h) (Or.inl ⟨by rfl, ?_⟩) (by assumption) ?_
                  rotate_left
                  · intro wq hSw
                    (try dsimp only at hSw)
                    go_simp
                    all_goals (with_reducible rfl)
                  try simp only [Act.put, List.setIfInBounds_toArray, List.set_cons_zero, List.set_cons_succ]
                  refine wpAnyH_take (i := 58) (v := ?_) (by simp only [List.getElem?_toArray, List.getElem?_cons_succ, List.getElem?_cons_zero]; rfl) (by kernel_rfl) (by kernel_rfl) (by kernel_rfl) (by exact fun _ _ _ h => h) (Or.inl ⟨by rfl, ?_⟩) (by assumption) ?_
                  rotate_left
                  · intro wq hSw
                    (try dsimp only at hSw)
                    go_simp
                    all_goals (with_reducible rfl)
                  try simp only [Act.put, List.setIfInBounds_toArray, List.set_cons_zero, List.set_cons_succ]
                  clear hHeld
                  refine wpAnyH_done (by kernel_rfl) ?_ _
                  go_wp2_with fail
                  go_meet
                  case rel => exact ⟨_, _, _, _, _, HO.out, HR.out, HA.out, HB.out, HC.out, HD.out, HV.out, R0.out, R1.out, R2.out, R3.out⟩
            case rest =>
              as_aux_lemma =>
                clear HO HR HA HB HC HD HV R0 R1 R2 R3 HX cb0 cb1
                obtain ⟨q9, La2, Lb2, Lc2, Ld2, ho, hR, hA, hB, hC, hD, hV, h0, h1, h2, h3⟩ := hcut
                have HO := Lib.hid ho
                have HR := Lib.hid hR
                have HA := Lib.hid hA
                have HB := Lib.hid hB
                have HC := Lib.hid hC
                have HD := Lib.hid hD
                have HV := Lib.hid hV
                have R0 := Lib.hid h0
                have R1 := Lib.hid h1
                have R2 := Lib.hid h2
                have R3 := Lib.hid h3
                clear ho hR hA hB hC hD hV h0 h1 h2 h3
                go_upto_region 34 with fail
                obtain ⟨ra, rc, cr0⟩ := R0.out.len
                obtain ⟨rd, re, cr2⟩ := R2.out.len
                simp only [List.length_map] at cr0 cr2
                refine wp_region_held_drew (S := (fun w' => w'.heap[gv]? = some (.cells #[.pointer (some ⟨g0, 0, none⟩), .pointer (some ⟨g1, 0, none⟩), .pointer (some ⟨g2, 0, none⟩), .pointer (some ⟨g3, 0, none⟩)] 69 (0, 0)) ∧ w'.cell? ⟨g0, 2, none⟩ = some (.slice ra La2.length rc) ∧ w'.cell? ⟨g2, 2, none⟩ = some (.slice rd Lc2.length re))) (by kernel_rfl) ⟨by exact HV.out.1, by exact cr0, by exact cr2⟩ (fun hHeld => ?_)
                clear cr0 cr2
                have hc := Chg.on (o := q9) 20 ((Away.refl [] wc).drew)
                replace HO := Lib.hid (HO.out.keep hc (by decide))
                replace HR := Lib.hid (HR.out.keep hc (by decide))
                replace HA := Lib.hid (HA.out.keep hc (by decide))
                replace HB := Lib.hid (HB.out.keep hc (by decide))
                replace HC := Lib.hid (HC.out.keep hc (by decide))
                replace HD := Lib.hid (HD.out.keep hc (by decide))
                replace HV := Lib.hid (HV.out.keep hc (by decide))
                replace R0 := Lib.hid (R0.out.keep hc (by decide))
                replace R1 := Lib.hid (R1.out.keep hc (by decide))
                replace R2 := Lib.hid (R2.out.keep hc (by decide))
                replace R3 := Lib.hid (R3.out.keep hc (by decide))
                clear hc
                generalize give q9 wc 20 = o8 at *
                generalize wc.drew = w8 at *
                refine wpAnyH_take (i := 0) (v := ?_) (by simp only [List.getElem?_toArray, List.getElem?_cons_zero]; rfl) (by kernel_rfl) (by kernel_rfl) (by kernel_rfl) (by exact fun _ _ _ h => h) (Or.inl ⟨by rfl, ?_⟩) (by assumption) ?_
                rotate_left
                · intro wq hSw
                  (try dsimp only at hSw)
                  go_simp
                  all_goals (with_reducible rfl)
                try simp only [Act.put, List.setIfInBounds_toArray, List.set_cons_zero, List.set_cons_succ]
                refine wpAnyH_take (i := 2) (v := ?_) (by simp only [List.getElem?_toArray, List.getElem?_cons_succ, List.getElem?_cons_zero]; rfl) (by kernel_rfl) (by kernel_rfl) (by kernel_rfl) (by exact fun _ _ _ h => h) (Or.inl ⟨by rfl, ?_⟩) (by assumption) ?_
                rotate_left
                · intro wq hSw
                  (try dsimp only at hSw)
                  go_simp
                  all_goals (with_reducible rfl)
                try simp only [Act.put, List.setIfInBounds_toArray, List.set_cons_zero, List.set_cons_succ]
                refine wpAnyH_take (i := 3) (by simp only [List.getElem?_toArray, List.getElem?_cons_succ, List.getElem?_cons_zero]; rfl) (by kernel_rfl) (by kernel_rfl) (by kernel_rfl) (by exact fun _ _ _ h => h) (yields_ld (ad := ⟨gv, 0, none⟩) (by rfl) _ rfl rfl (fun w' h => ld60 (cell_of_block h.1 0))) (by assumption) ?_
                try simp only [Act.put, List.setIfInBounds_toArray, List.set_cons_zero, List.set_cons_succ]
                refine wpAnyH_take (i := 4) (v := ?_) (by simp only [List.getElem?_toArray, List.getElem?_cons_succ, List.getElem?_cons_zero]; rfl) (by kernel_rfl) (by kernel_rfl) (by kernel_rfl) (by exact fun _ _ _ h => h) (Or.inl ⟨by rfl, ?_⟩) (by assumption) ?_
                rotate_left
                · intro wq hSw
                  (try dsimp only at hSw)
                  go_simp
                  all_goals (with_reducible rfl)
                try simp only [Act.put, List.setIfInBounds_toArray, List.set_cons_zero, List.set_cons_succ]
                refine wpAnyH_take (i := 5) (v := ?_) (by simp only [List.getElem?_toArray, List.getElem?_cons_succ, List.getElem?_cons_zero]; rfl) (by kernel_rfl) (by kernel_rfl) (by kernel_rfl) (by exact fun _ _ _ h => h) (Or.inl ⟨by rfl, ?_⟩) (by assumption) ?_
                rotate_left
                · intro wq hSw
                  (try dsimp only at hSw)
                  go_simp
                  all_goals (with_reducible rfl)
                try simp only [Act.put, List.setIfInBounds_toArray, List.set_cons_zero, List.set_cons_succ]
                refine wpAnyH_take (i := 6) (by simp only [List.getElem?_toArray, List.getElem?_cons_succ, List.getElem?_cons_zero]; rfl) (by kernel_rfl) (by kernel_rfl) (by kernel_rfl) (by exact fun _ _ _ h => h) (yields_ld (ad := ⟨g0, 2, none⟩) (by rfl) _ rfl rfl (fun w' h => ld61 h.2.1)) (by assumption) ?_
                try simp only [Act.put, List.setIfInBounds_toArray, List.set_cons_zero, List.set_cons_succ]
                refine wpAnyH_take (i := 7) (v := ?_) (by simp only [List.getElem?_toArray, List.getElem?_cons_succ, List.getElem?_cons_zero]; rfl) (by kernel_rfl) (by kernel_rfl) (by kernel_rfl) (by exact fun _ _ _ h => h) (Or.inl ⟨by rfl, ?_⟩) (by assumption) ?_
                rotate_left
                · intro wq hSw
                  (try dsimp only at hSw)
                  go_simp
                  all_goals (with_reducible rfl)
                try simp only [Act.put, List.setIfInBounds_toArray, List.set_cons_zero, List.set_cons_succ]
                refine wpAnyH_ready (rs := [1]) (by kernel_rfl) (by simp) ?_
                refine AllReadyH.cons (by simp only [List.getElem?_toArray, List.getElem?_cons_succ, List.getElem?_cons_zero]; rfl) (fun K hK => ?_) AllReadyH.nil
                go_simp
                refine (KT.len_o HA.out).mono ?_
                rintro E w99 ⟨rfl, h9⟩
                replace h9 := h9.symm
                subst h9
                go_wp2_with fail
                refine hK.out _ _ hHeld (fun hHeld => ?_)
                clear hK K
                try simp only [Act.put, List.setIfInBounds_toArray, List.set_cons_zero, List.set_cons_succ]
                refine wpAnyH_take (i := 8) (v := ?_) (by simp only [List.getElem?_toArray, List.getElem?_cons_succ, List.getElem?_cons_zero]; rfl) (by kernel_rfl) (by kernel_rfl) (by kernel_rfl) (by exact fun _ _ _ h => h) (Or.inl ⟨by rfl, ?_⟩) (by assumption) ?_
                rotate_left
                · intro wq hSw
                  (try dsimp only at hSw)
                  go_simp
                  all_goals (with_reducible rfl)
                try simp only [Act.put, List.setIfInBounds_toArray, List.set_cons_zero, List.set_cons_succ]
                refine wpAnyH_take (i := 9) (v := ?_) (by simp only [List.getElem?_toArray, List.getElem?_cons_succ, List.getElem?_cons_zero]; rfl) (by kernel_rfl) (by kernel_rfl) (by kernel_rfl) (by exact fun _ _ _ h => h) (Or.inl ⟨by rfl, ?_⟩) (by assumption) ?_
                rotate_left
                · intro wq hSw
                  (try dsimp only at hSw)
                  go_simp
                  all_goals (with_reducible rfl)
                try simp only [Act.put, List.setIfInBounds_toArray, List.set_cons_zero, List.set_cons_succ]
                refine wpAnyH_take (i := 10) (v := ?_) (by simp only [List.getElem?_toArray, List.getElem?_cons_succ, List.getElem?_cons_zero]; rfl) (by kernel_rfl) (by kernel_rfl) (by kernel_rfl) (by exact fun _ _ _ h => h) (Or.inl ⟨by rfl, ?_⟩) (by assumption) ?_
                rotate_left
                · intro wq hSw
                  (try dsimp only at hSw)
                  go_simp
                  all_goals (with_reducible rfl)
                try simp only [Act.put, List.setIfInBounds_toArray, List.set_cons_zero, List.set_cons_succ]
                refine wpAnyH_take (i := 12) (v := ?_) (by simp only [List.getElem?_toArray, List.getElem?_cons_succ, List.getElem?_cons_zero]; rfl) (by kernel_rfl) (by kernel_rfl) (by kernel_rfl) (by exact fun _ _ _ h => h) (Or.inl ⟨by rfl, ?_⟩) (by assumption) ?_
                rotate_left
                · intro wq hSw
                  (try dsimp only at hSw)
                  go_simp
                  all_goals (with_reducible rfl)
                try simp only [Act.put, List.setIfInBounds_toArray, List.set_cons_zero, List.set_cons_succ]
                refine wpAnyH_take (i := 13) (by simp only [List.getElem?_toArray, List.getElem?_cons_succ, List.getElem?_cons_zero]; rfl) (by kernel_rfl) (by kernel_rfl) (by kernel_rfl) (by exact fun _ _ _ h => h) (yields_ld (ad := ⟨gv, 1, none⟩) (by rfl) _ rfl rfl (fun w' h => ld60 (cell_of_block h.1 1))) (by assumption) ?_
                try simp only [Act.put, List.setIfInBounds_toArray, List.set_cons_zero, List.set_cons_succ]
                refine wpAnyH_ready (rs := [11]) (by kernel_rfl) (by simp) ?_
                refine AllReadyH.cons (by simp only [List.getElem?_toArray, List.getElem?_cons_succ, List.getElem?_cons_zero]; rfl) (fun K hK => ?_) AllReadyH.nil
                go_simp
                refine (KI.bytes_o HB.out).mono ?_
                rintro E w99 ⟨rfl, h9⟩
                replace h9 := h9.symm
                subst h9
                go_wp2_with fail
                refine hK.out _ _ hHeld (fun hHeld => ?_)
                clear hK K
                try simp only [Act.put, List.setIfInBounds_toArray, List.set_cons_zero, List.set_cons_succ]
                refine wpAnyH_ready (rs := [14]) (by kernel_rfl) (by simp) ?_
                refine AllReadyH.cons (by simp only [List.getElem?_toArray, List.getElem?_cons_succ, List.getElem?_cons_zero]; rfl) (fun K hK => ?_) AllReadyH.nil
                go_simp
                refine (rbytes_o R1.out).mono ?_
                rw [sum_kt]
                rintro E w99 ⟨rfl, h9⟩
                replace h9 := h9.symm
                subst h9
                go_wp2_with fail
                refine hK.out _ _ hHeld (fun hHeld => ?_)
                clear hK K
                try simp only [Act.put, List.setIfInBounds_toArray, List.set_cons_zero, List.set_cons_succ]
                refine wpAnyH_take (i := 15) (v := ?_) (by simp only [List.getElem?_toArray, List.getElem?_cons_succ, List.getElem?_cons_zero]; rfl) (by kernel_rfl) (by kernel_rfl) (by kernel_rfl) (by exact fun _ _ _ h => h) (Or.inl ⟨by rfl, ?_⟩) (by assumption) ?_
                rotate_left
                · intro wq hSw
                  (try dsimp only at hSw)
                  go_simp
                  all_goals (with_reducible rfl)
                try simp only [Act.put, List.setIfInBounds_toArray, List.set_cons_zero, List.set_cons_succ]
                refine wpAnyH_take (i := 16) (v := ?_) (by simp only [List.getElem?_toArray, List.getElem?_cons_succ, List.getElem?_cons_zero]; rfl) (by kernel_rfl) (by kernel_rfl) (by kernel_rfl) (by exact fun _ _ _ h => h) (Or.inl ⟨by rfl, ?_⟩) (by assumption) ?_
                rotate_left
                · intro wq hSw
                  (try dsimp only at hSw)
                  go_simp
                  all_goals (with_reducible rfl)
                try simp only [Act.put, List.setIfInBounds_toArray, List.set_cons_zero, List.set_cons_succ]
                refine wpAnyH_take (i := 17) (v := ?_) (by simp only [List.getElem?_toArray, List.getElem?_cons_succ, List.getElem?_cons_zero]; rfl) (by kernel_rfl) (by kernel_rfl) (by kernel_rfl) (by exact fun _ _ _ h => h) (Or.inl ⟨by rfl, ?_⟩) (by assumption) ?_
                rotate_left
                · intro wq hSw
                  (try dsimp only at hSw)
                  go_simp
                  all_goals (with_reducible rfl)
                try simp only [Act.put, List.setIfInBounds_toArray, List.set_cons_zero, List.set_cons_succ]
                refine wpAnyH_take (i := 18) (v := ?_) (by simp only [List.getElem?_toArray, List.getElem?_cons_succ, List.getElem?_cons_zero]; rfl) (by kernel_rfl) (by kernel_rfl) (by kernel_rfl) (by exact fun _ _ _ h => h) (Or.inl ⟨by rfl, ?_⟩) (by assumption) ?_
                rotate_left
                · intro wq hSw
                  (try dsimp only at hSw)
                  go_simp
                  all_goals (with_reducible rfl)
                try simp only [Act.put, List.setIfInBounds_toArray, List.set_cons_zero, List.set_cons_succ]
                refine wpAnyH_take (i := 20) (v := ?_) (by simp only [List.getElem?_toArray, List.getElem?_cons_succ, List.getElem?_cons_zero]; rfl) (by kernel_rfl) (by kernel_rfl) (by kernel_rfl) (by exact fun _ _ _ h => h) (Or.inl ⟨by rfl, ?_⟩) (by assumption) ?_
                rotate_left
                · intro wq hSw
                  (try dsimp only at hSw)
                  go_simp
                  all_goals (with_reducible rfl)
                try simp only [Act.put, List.setIfInBounds_toArray, List.set_cons_zero, List.set_cons_succ]
                refine wpAnyH_take (i := 21) (by simp only [List.getElem?_toArray, List.getElem?_cons_succ, List.getElem?_cons_zero]; rfl) (by kernel_rfl) (by kernel_rfl) (by kernel_rfl) (by exact fun _ _ _ h => h) (yields_ld (ad := ⟨gv, 2, none⟩) (by rfl) _ rfl rfl (fun w' h => ld60 (cell_of_block h.1 2))) (by assumption) ?_
                try simp only [Act.put, List.setIfInBounds_toArray, List.set_cons_zero, List.set_cons_succ]
                refine wpAnyH_take (i := 22) (v := ?_) (by simp only [List.getElem?_toArray, List.getElem?_cons_succ, List.getElem?_cons_zero]; rfl) (by kernel_rfl) (by kernel_rfl) (by kernel_rfl) (by exact fun _ _ _ h => h) (Or.inl ⟨by rfl, ?_⟩) (by assumption) ?_
                rotate_left
                · intro wq hSw
                  (try dsimp only at hSw)
                  go_simp
                  all_goals (with_reducible rfl)
                try simp only [Act.put, List.setIfInBounds_toArray, List.set_cons_zero, List.set_cons_succ]
                refine wpAnyH_take (i := 23) (v := ?_) (by simp only [List.getElem?_toArray, List.getElem?_cons_succ, List.getElem?_cons_zero]; rfl) (by kernel_rfl) (by kernel_rfl) (by kernel_rfl) (by exact fun _ _ _ h => h) (Or.inl ⟨by rfl, ?_⟩) (by assumption) ?_
                rotate_left
                · intro wq hSw
                  (try dsimp only at hSw)
                  go_simp
                  all_goals (with_reducible rfl)
                try simp only [Act.put, List.setIfInBounds_toArray, List.set_cons_zero, List.set_cons_succ]
                refine wpAnyH_take (i := 24) (by simp only [List.getElem?_toArray, List.getElem?_cons_succ, List.getElem?_cons_zero]; rfl) (by kernel_rfl) (by kernel_rfl) (by kernel_rfl) (by exact fun _ _ _ h => h) (yields_ld (ad := ⟨g2, 2, none⟩) (by rfl) _ rfl rfl (fun w' h => ld61 h.2.2)) (by assumption) ?_
                try simp only [Act.put, List.setIfInBounds_toArray, List.set_cons_zero, List.set_cons_succ]
                refine wpAnyH_take (i := 25) (v := ?_) (by simp only [List.getElem?_toArray, List.getElem?_cons_succ, List.getElem?_cons_zero]; rfl) (by kernel_rfl) (by kernel_rfl) (by kernel_rfl) (by exact fun _ _ _ h => h) (Or.inl ⟨by rfl, ?_⟩) (by assumption) ?_
                rotate_left
                · intro wq hSw
                  (try dsimp only at hSw)
                  go_simp
                  all_goals (with_reducible rfl)
                try simp only [Act.put, List.setIfInBounds_toArray, List.set_cons_zero, List.set_cons_succ]
                refine wpAnyH_ready (rs := [19]) (by kernel_rfl) (by simp) ?_
                refine AllReadyH.cons (by simp only [List.getElem?_toArray, List.getElem?_cons_succ, List.getElem?_cons_zero]; rfl) (fun K hK => ?_) AllReadyH.nil
                go_simp
                refine (KP.len_o HC.out).mono ?_
                rintro E w99 ⟨rfl, h9⟩
                replace h9 := h9.symm
                subst h9
                go_wp2_with fail
                refine hK.out _ _ hHeld (fun hHeld => ?_)
                clear hK K
                try simp only [Act.put, List.setIfInBounds_toArray, List.set_cons_zero, List.set_cons_succ]
                refine wpAnyH_take (i := 26) (v := ?_) (by simp only [List.getElem?_toArray, List.getElem?_cons_succ, List.getElem?_cons_zero]; rfl) (by kernel_rfl) (by kernel_rfl) (by kernel_rfl) (by exact fun _ _ _ h => h) (Or.inl ⟨by rfl, ?_⟩) (by assumption) ?_
                rotate_left
                · intro wq hSw
                  (try dsimp only at hSw)
                  go_simp
                  all_goals (with_reducible rfl)
                try simp only [Act.put, List.setIfInBounds_toArray, List.set_cons_zero, List.set_cons_succ]
                refine wpAnyH_take (i := 27) (v := ?_) (by simp only [List.getElem?_toArray, List.getElem?_cons_succ, List.getElem?_cons_zero]; rfl) (by kernel_rfl) (by kernel_rfl) (by kernel_rfl) (by exact fun _ _ _ h => h) (Or.inl ⟨by rfl, ?_⟩) (by assumption) ?_
                rotate_left
                · intro wq hSw
                  (try dsimp only at hSw)
                  go_simp
                  all_goals (with_reducible rfl)
                try simp only [Act.put, List.setIfInBounds_toArray, List.set_cons_zero, List.set_cons_succ]
                refine wpAnyH_take (i := 28) (v := ?_) (by simp only [List.getElem?_toArray, List.getElem?_cons_succ, List.getElem?_cons_zero]; rfl) (by kernel_rfl) (by kernel_rfl) (by kernel_rfl) (by exact fun _ _ _ h => h) (Or.inl ⟨by rfl, ?_⟩) (by assumption) ?_
                rotate_left
                · intro wq hSw
                  (try dsimp only at hSw)
                  go_simp
                  all_goals (with_reducible rfl)
                try simp only [Act.put, List.setIfInBounds_toArray, List.set_cons_zero, List.set_cons_succ]
                refine wpAnyH_take (i := 29) (v := ?_) (by simp only [List.getElem?_toArray, List.getElem?_cons_succ, List.getElem?_cons_zero]; rfl) (by kernel_rfl) (by kernel_rfl) (by kernel_rfl) (by exact fun _ _ _ h => h) (Or.inl ⟨by rfl, ?_⟩) (by assumption) ?_
                rotate_left
                · intro wq hSw
                  (try dsimp only at hSw)
                  go_simp
                  all_goals (with_reducible rfl)
                try simp only [Act.put, List.setIfInBounds_toArray, List.set_cons_zero, List.set_cons_succ]
                refine wpAnyH_take (i := 31) (v := ?_) (by simp only [List.getElem?_toArray, List.getElem?_cons_succ, List.getElem?_cons_zero]; rfl) (by kernel_rfl) (by kernel_rfl) (by kernel_rfl) (by exact fun _ _ _ h => h) (Or.inl ⟨by rfl, ?_⟩) (by assumption) ?_
                rotate_left
                · intro wq hSw
                  (try dsimp only at hSw)
                  go_simp
                  all_goals (with_reducible rfl)
                try simp only [Act.put, List.setIfInBounds_toArray, List.set_cons_zero, List.set_cons_succ]
                refine wpAnyH_take (i := 32) (by simp only [List.getElem?_toArray, List.getElem?_cons_succ, List.getElem?_cons_zero]; rfl) (by kernel_rfl) (by kernel_rfl) (by kernel_rfl) (by exact fun _ _ _ h => h) (yields_ld (ad := ⟨gv, 3, none⟩) (by rfl) _ rfl rfl (fun w' h => ld60 (cell_of_block h.1 3))) (by assumption) ?_
                try simp only [Act.put, List.setIfInBounds_toArray, List.set_cons_zero, List.set_cons_succ]
                refine wpAnyH_ready (rs := [30]) (by kernel_rfl) (by simp) ?_
                refine AllReadyH.cons (by simp only [List.getElem?_toArray, List.getElem?_cons_succ, List.getElem?_cons_zero]; rfl) (fun K hK => ?_) AllReadyH.nil
                go_simp
                refine (KS.bytes_o HD.out).mono ?_
                rintro E w99 ⟨rfl, h9⟩
                replace h9 := h9.symm
                subst h9
                go_wp2_with fail
                refine hK.out _ _ hHeld (fun hHeld => ?_)
                clear hK K
                try simp only [Act.put, List.setIfInBounds_toArray, List.set_cons_zero, List.set_cons_succ]
                refine wpAnyH_ready (rs := [33]) (by kernel_rfl) (by simp) ?_
                refine AllReadyH.cons (by simp only [List.getElem?_toArray, List.getElem?_cons_succ, List.getElem?_cons_zero]; rfl) (fun K hK => ?_) AllReadyH.nil
                go_simp
                refine (rbytes_o R3.out).mono ?_
                rw [sum_kt]
                rintro E w99 ⟨rfl, h9⟩
                replace h9 := h9.symm
                subst h9
                go_wp2_with fail
                refine hK.out _ _ hHeld (fun hHeld => ?_)
                clear hK K
                try simp only [Act.put, List.setIfInBounds_toArray, List.set_cons_zero, List.set_cons_succ]
                refine wpAnyH_take (i := 34) (v := ?_) (by simp only [List.getElem?_toArray, List.getElem?_cons_succ, List.getElem?_cons_zero]; rfl) (by kernel_rfl) (by kernel_rfl) (by kernel_rfl) (by exact fun _ _ _ h => h) (Or.inl ⟨by rfl, ?_⟩) (by assumption) ?_
                rotate_left
                · intro wq hSw
                  (try dsimp only at hSw)
                  go_simp
                  all_goals (with_reducible rfl)
                try simp only [Act.put, List.setIfInBounds_toArray, List.set_cons_zero, List.set_cons_succ]
                refine wpAnyH_take (i := 35) (v := ?_) (by simp only [List.getElem?_toArray, List.getElem?_cons_succ, List.getElem?_cons_zero]; rfl) (by kernel_rfl) (by kernel_rfl) (by kernel_rfl) (by exact fun _ _ _ h => h) (Or.inl ⟨by rfl, ?_⟩) (by assumption) ?_
                rotate_left
                · intro wq hSw
                  (try dsimp only at hSw)
                  go_simp
                  all_goals (with_reducible rfl)
                try simp only [Act.put, List.setIfInBounds_toArray, List.set_cons_zero, List.set_cons_succ]
                clear hHeld
                refine wpAnyH_done (by kernel_rfl) ?_ _
                go_wp2_with fail
                go_roundw
                case rel => exact ⟨_, _, _, _, _, _, _, _, _, _, _, _, _, _, _, _, _, _, _, _, _, _, _, _, _, _, _, _, _, _, _, _, _, _, _, _, _, _, _, _, _, _, _, _, _, _, _, _, _, _, _, _, _, _, _, _, _, _, _, _, _, _, _, _, _, _, _, _, _, _, _, _, _, _, _, _, _, _, _, _, _, _, _, _, _, _, _, _, _, _, _, _, _, _, _, _, _, _, _, _, _, _, _, _, _, _, _, _, _, _, _, _, _, _, _, _, _, _, _, _, _, _, _, _, _, _, _, _, _, _, _, _, _, _, _, _, _, _, _, _, _, _, _, _, _, _, _, _, _, _, _, _, _, _, _, _, _, _, _, _, _, _, _, _, _, _, _, _, _, _, _, _, _, _, _, _, _, _, _, _, _, _, _, _, _, _, _, _, _, _, _, _, _, _, _, _, _, _, _, _, _, _, _, _, _, _, _, _, _, _, _, _, _, _, _, _, _, _, _, ⟨i + 1, _, _, _, _, _, by go_num, by omega, HO.out, HR.out, HA.out, HB.out, HC.out, HD.out, HV.out, R0.out, R1.out, R2.out, R3.out⟩, rfl⟩
                case measure => simp [intOf]; omega
          · obtain rfl : i = S.length := by omega
            have i1 : decide ((S.length : Int) < (S.length : Int)) = false := by simp
            go_wp2_with fail
            go_ret
            exact ⟨rfl, HO.out.below⟩
  · have HM : Hid (mayP c b = false) := decide_eq_false hm
    have HN := Lib.hid hm
    clear hm
    go_enter Try.func7, Try.ntmps7
    go_wp2_with fail
    refine (KT.new_no c b 30 _ HN.out).mono ?_
    rintro E w9 ⟨rfl, h9⟩
    replace h9 := h9.symm
    subst h9
    go_wp2_with fail
    refine (KI.new_no c b 31 _ HN.out).mono ?_
    rintro E w9 ⟨rfl, h9⟩
    replace h9 := h9.symm
    subst h9
    go_wp2_with fail
    refine (KP.new_no c b 18 _ HN.out).mono ?_
    rintro E w9 ⟨rfl, h9⟩
    replace h9 := h9.symm
    subst h9
    go_wp2_with fail
    refine (KS.new_no c b 33 _ HN.out).mono ?_
    rintro E w9 ⟨rfl, h9⟩
    replace h9 := h9.symm
    subst h9
    go_wp2_with fail
    refine (known_c _).mono ?_
    rintro E w1 ⟨rfl, haw⟩
    have hc := Chg.on (o := o0) 9 haw
    clear haw
    replace HO := Lib.hid (HO.out.keep hc (by decide))
    replace HR := Lib.hid (HR.out.keep hc (by decide))
    clear hc
    generalize give o0 w 9 = o1 at *
    go_wp2_with fail
    refine (may_c c b _).mono ?_
    rw [HM.out]
    rintro E w9 ⟨rfl, h9⟩
    replace h9 := h9.symm
    subst h9
    go_wp2_with fail
    go_ret
    exact ⟨rfl, HO.out.below⟩
end queueKinds
namespace queueKinds
theorem lifted (os : Os) (started : os.Started) (H : Type) (enc : TypeId × Value → H) :
    ReturnsInHanded {} Try.checked os 7 .any (Rows.queueKindsSpec.pre6 enc Try.prog Try.f7 Rows.queueKindsRow.domain false) (Rows.queueKindsSpec.post enc Try.prog Try.f7 false true false false) := by
  refine returnsInHanded_of_change_sized (C := Try.checked) ownKn started (by kernel_rfl) Try.func7
    (ChangeSpec.witness6 (enc := enc) (C := Try.checked) false ⟨#[], #[.int .i64 0, .int .i64 0, .slice none 0 0], []⟩ 8 (by kernel_rfl) (by kernel_rfl) (by kernel_rfl) (by kernel_rfl)) ?_
  intro W base args ds gs before hval0 hW _ hsz0 _
  have hsz : (DataW.weightsEach Try.prog (Try.f7.params.toList ++ Rows.queueKindsSpec.plain.varTypes Try.prog) (ds ++ gs)).all (· ≤ reachBytes) = true := hsz0
  clear hsz0
  have hval : ∀ (j : Nat) t v, Try.f7.params[j]? = some t → args[j]? = some v → Value.okWide Try.prog W .any base t v := hval0
  have hW' := hW
  obtain ⟨p, q, hA0, hV, rfl, hfz, hnd⟩ := hW
  have hA : DataW.TrodAll enc Try.prog W 0 (fun _ => true) true Try.f7.params.toList args.toList ds p := hA0
  rw [Try.params7] at hA hval hsz
  obtain ⟨v0, vs0, d0, ds0, p0, q0, hargs, rfl, rfl, h0, r0⟩ := trodAll_cons hA
  obtain ⟨v1, vs1, d1, ds1, p1, q1, rfl, rfl, rfl, h1, r1⟩ := trodAll_cons r0
  obtain ⟨v2, vs2, d2, ds2, p2, q2, rfl, rfl, rfl, h2, r2⟩ := trodAll_cons r1
  obtain ⟨rfl, rfl, rfl⟩ := trodAll_nil r2
  obtain rfl : args = #[v0, v1, v2] := by cases args; simp_all
  have hV2 : DataW.TrodVars enc Try.prog W (fun _ => true) Rows.queueKindsSpec.vars gs q := hV
  obtain ⟨rfl, rfl⟩ := trodVars_none hV2
  obtain ⟨a0, rfl, rfl, rfl, w0⟩ := open_int Try.underlying3 (hval 0 3 v0 rfl rfl) h0
  obtain ⟨a1, rfl, rfl, rfl, w1⟩ := open_int Try.underlying3 (hval 1 3 v1 rfl rfl) h1
  have k2 := h2
  have lt2 : ∀ x ∈ p2, x.block < W.heap.size := by obtain ⟨m, hm⟩ := k2; exact DataW.trod_lt m _ _ _ hm
  have z2 : ∀ m ∈ d2.weights Try.prog 39, m ≤ reachBytes := fun m hm => by
    have := List.all_eq_true.1 hsz m (DataW.weights_mem_each (j := 2) (t := 39) rfl rfl m hm)
    simpa using this
  obtain ⟨a2, len2, cap2, rfl⟩ := okWide_slice Try.underlying39 (hval 2 39 v2 rfl rfl)
  obtain ⟨l2, rfl, w2, u2, b2⟩ := open_script h2 z2 lt2
  clear hA0 hval0
  refine (walk a0 a1 a2 l2 cap2 W w0 w1 w2 b2).mono fun e W' ⟨he, bel⟩ => ?_
  subst he
  exact ⟨_, rfl, _, _, _, [], _, [], hW', trodAll_mk1 (shut_bool Try.underlying4 _), (trodAll_cons_mk (shut_int Try.underlying3 w0) (trodAll_cons_mk (shut_int Try.underlying3 w1) (trodAll_cons_mk (Below.trod laidOut (by kernel_rfl) (of_decide_eq_true (by kernel_rfl)) k2 bel lt2) trodAll_mk0))), rfl, bel.frame _, fun h => by cases h⟩
theorem over : Rows.queueKindsRow.holds Try.pinned (OpenSpec.ofChange Rows.queueKindsSpec) :=
  OpenClaim.holds_of_wide 7 Try.f7 rfl rfl rfl rfl rfl rfl rfl ⟨rfl, rfl, rfl, rfl, rfl⟩ rfl rfl rfl rfl rfl (by kernel_rfl) Try.func7 (by kernel_rfl)
    (of_decide_eq_true (by kernel_rfl)) (by unfold Func.isWrapper; first | (rw [if_pos (by decide +kernel)]; kernel_rfl) | (rw [if_neg (by decide +kernel)]; exact ⟨rfl, rfl⟩))
    (fun os started H enc _ => lifted os started H enc)
end queueKinds
theorem queueKinds_holds : Rows.QueueKindsSaid := queueKinds.over
#print axioms queueKinds_holds
end Go.Proofs.Ytdgkkbiodhbmeaa
