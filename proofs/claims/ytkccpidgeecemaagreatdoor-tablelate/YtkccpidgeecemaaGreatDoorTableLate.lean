/-
  TableLate.
-/
import Derived.Test.YtkccpidgeecemaaGreatDoorTlA
import Derived.Test.YtkccpidgeecemaaGreatDoorTbD
import Derived.Test.YtkccpidgeecemaaGreatDoorFse15
import Derived.Test.YtkccpidgeecemaaGreatDoorKitA
import Derived.Test.YtkccpidgeecemaaGreatDoorTbC
import Derived.Test.YtkccpidgeecemaaGreatDoorTwB
import Derived.Deep.CutBlock
import Derived.Deep.DeepCutAuto
namespace Go.Proofs.YtkccpidgeecemaaGreatDoor
open Go.ChangeShapes Go.WideShapes Go.ChangeAt Go.RowKit Go.Deep Num R
open S6 (wp_region_cls quiet_val quiet_call quiet_ld ld3 ld4 ld5 ld25 ld26 load28_run load24m_run)
set_option linter.unusedVariables false
set_option linter.unusedSimpArgs false
set_option maxHeartbeats 16000000
set_option maxRecDepth 100000
namespace tableLate
theorem mod_u (n : Int) (m : Nat) (hm : 0 < m) (h0 : 0 ≤ n) : ∃ a : Nat, a < m ∧ n.tmod m = (a : Int) := by
  rw [Int.tmod_eq_emod_of_nonneg h0]
  have h1 := Int.emod_nonneg n (show (m : Int) ≠ 0 by omega)
  have h2 := Int.emod_lt_of_pos n (show (0 : Int) < m by omega)
  exact ⟨(n % m).toNat, by omega, by omega⟩
theorem wrap_small (z : Int) (h0 : -1000000 ≤ z) (h1 : z ≤ 1000000) : wrap64 z = z := by unfold wrap64; omega
theorem ld42 {w : World} {ad : Addr} {a : Option Addr} {n c : Nat} (h : w.cell? ad = some (.slice a n c)) : (Instr.loadAt 42 (.pointer (some ad))).run Tryz.prog w = .ok (.slice a n c) w := by
  simp [go_sem, Instr.loadAt, Instr.sureAddr, h]
theorem ld37 {w : World} {ad : Addr} {a : Option Addr} {n c : Nat} (h : w.cell? ad = some (.slice a n c)) : (Instr.loadAt 37 (.pointer (some ad))).run Tryz.prog w = .ok (.slice a n c) w := by
  simp [go_sem, Instr.loadAt, Instr.sureAddr, h]
theorem ld5b {w : World} {ad : Addr} {n : Int} (h : w.cell? ad = some (.int .u8 n)) : (Instr.loadAt 5 (.pointer (some ad))).run Tryz.prog w = .ok (.int .u8 n) w := by
  simp [go_sem, Instr.loadAt, Instr.sureAddr, h]
theorem ld2i {w : World} {ad : Addr} {n : Int} (h : w.cell? ad = some (.int .i64 n)) : (Instr.loadAt 2 (.pointer (some ad))).run Tryz.prog w = .ok (.int .i64 n) w := by
  simp [go_sem, Instr.loadAt, Instr.sureAddr, h]
theorem walk (p0 : Pk) (pov pdv : Value) (a1 : Option Addr) (n1 c1 : Nat) (a2 : Option Addr) (n2 c2 : Nat) (tm : Int) (sp : Bool) (w : World) (hg : Glob w) (hp : Pkt w p0 pov pdv) (hpl1 : p0.o.length ≤ 140737488351232) (hpl2 : p0.d.length ≤ 140737488351232)
    (h1 : Ints w a1 n1) (l1 : n1 ≤ 140737488355328) (h2 : Ints w a2 n2) (l2 : n2 ≤ 140737488355328) (hmt : (Lit.int .i64 tm).wf = true) :
    Calls Tryz.prog 4 #[.agg (csP p0 pov pdv), .slice a1 n1 c1, .slice a2 n2 c2, .int .i64 tm, .bool sp] w fun E w' => E = .returned (.bool true) ∧ Below w.heap.size w w' := by
  have HAP : Hid (Ad p0) := hp.wf.ad
  have HG := Lib.hid hg; have HP := Lib.hid hp; have H1 := Lib.hid h1; have H2 := Lib.hid h2; have HTM : Hid (i64ok tm) := wf64k hmt
  clear hg hp h1 h2 hmt hpl1 hpl2
  go_enter Tryz.func4, Tryz.ntmps4
  go_wp2_with (refine wpList_box28 rfl _ rfl p0 pov pdv rfl ?_; refine Hid.out ?_)
  refine Lib.hid ?_
  intro g5 w1 hg_g5 hb haw
  have HA := Lib.hid haw
  have HLg5 : Hid (w.heap.size ≤ g5) := hg_g5
  have HB5 := Lib.hid hb
  clear hb haw hg_g5
  go_wp2_with fail
  refine (alive_c _ (HG.out.on HA.out)).mono ?_
  rintro E w3 ⟨rfl, haw⟩
  replace HA := Lib.hid (HA.out.trans haw)
  replace HB5 := Lib.hid (HB5.out.on haw)
  clear haw
  go_wp2_with (refine wpList_load28 rfl _ rfl g5 rfl p0 _ _ (by exact HB5.out) HAP.out ?_)
  have HLO : Hid (w.heap.size ≤ w3.heap.size) := HA.out.size
  have HS5 : Hid (g5 < w3.heap.size) := HB5.out.lt
  refine (whole_e _ p0 _ _ (HP.out.on HA.out)).mono ?_
  rintro E w4 ⟨p, pd, rfl, r1, r2, r3, r4, r5, r6, r7, r8, r9, hmi, haw⟩
  replace HA := Lib.hid (HA.out.trans haw)
  replace HB5 := Lib.hid (HB5.out.on haw)
  have HW : Hid (Whl p) := ⟨r1, r3, r4, r5, r6, r7, r8, r9⟩
  have HF := Lib.hid r2
  have HM := Lib.hid hmi
  have HD : Hid (pd.oneCell' = true) := hmi.d.one
  have HO : Hid (∀ z, pd.ownBlock = some z → w.heap.size ≤ z ∧ z ≠ g5) := fun z hz => by have h1 := hmi.nd z hz; have h2 := HS5.out; have h3 := HLO.out; exact ⟨by omega, by omega⟩
  clear r1 r2 r3 r4 r5 r6 r7 r8 r9 hmi haw
  go_wp2_with (refine wpList_store28 rfl _ _ rfl g5 rfl p _ _ rfl p0 _ _ (by exact HB5.out) HF.out.ad HAP.out rfl HD.out ?_; refine Hid.out ?_)
  refine Lib.hid ?_
  intro w5 hb haw
  replace HB5 := Lib.hid hb
  replace HM := Lib.hid (HM.out.away haw (fun z hz => by rcases hz with hz | hz; (simp [Value.ownBlock] at hz); (have h1 := HO.out z hz; simp; omega)))
  replace HA := Lib.hid (HA.out.next haw (fun z hz => .inr (by simp at hz; rw [hz]; exact HLg5.out)))
  clear hb haw
  clear HP HAP HLO HS5
  have HAP : Hid (Ad p) := HF.out.ad
  go_wp2_with (refine wpList_load28 rfl _ rfl g5 rfl p _ _ (by exact HB5.out) HAP.out ?_)
  refine (parted_e _ p pd a1 n1 c1 9 (HM.out.pkt HF.out) HW.out.o (by have := HW.out.len; omega) (by decide) (H1.out.on HA.out) l1).mono ?_
  rintro E w6 ⟨v0, xs, r, rb, rfl, hcu, hxm, hcp, hxl, haw⟩
  have HS56 : Hid (g5 < w6.heap.size ∧ w5.heap.size ≤ w6.heap.size) := ⟨by have h1 : g5 < w5.heap.size := HB5.out.lt; have h2 := haw.size; omega, haw.size⟩
  have HL5 : Hid (w.heap.size ≤ w5.heap.size) := HA.out.size
  replace HA := Lib.hid (HA.out.trans haw)
  obtain ⟨la, lc, rfl, -, -, -, -⟩ := hcu.pks (by omega)
  have HLQ : Hid (2 ≤ xs.length → Lq p 9 (xs.map X.p)) := fun h2 => by rw [hxm]; exact lq_parted HW.out HF.out (by decide) hcp (by rw [← hxm, List.length_map]; exact h2)
  have HX := Lib.hid hcu
  have HX6 := Lib.hid (show (∀ k, (Value.slice la xs.length lc).ownBlock = some k → k < w6.heap.size) ∧ (∀ x ∈ xs, ∀ k, x.o.ownBlock = some k ∨ x.d.ownBlock = some k → k < w6.heap.size) from ⟨fun k hk => hcu.lst.lt k hk, fun x hx k hk => ((hcu.each x hx).2.lto k hk).1⟩)
  clear hcu hxm hcp haw HB5 HM HD HO HAP H1
  obtain ⟨n, hn⟩ : ∃ n, n = xs.length := ⟨_, rfl⟩
  have HNX := Lib.hid hn
  rw [← hn] at HX HX6 HLQ hxl ⊢
  clear hn
  go_upto_if 45 with fail
  by_cases hn2 : n < 2
  · have j1 : (n : Int) < 2 := by omega
    go_wp2_with fail
    go_ret
    exact ⟨rfl, HA.out.to_below⟩
  · have j1 : ¬ ((n : Int) < 2) := by omega
    replace HLQ : Hid (Lq p 9 (xs.map X.p)) := HLQ.out (by omega)
    have HS6 : Hid (g5 < w6.heap.size ∧ w5.heap.size ≤ w6.heap.size) := HS56.out
    go_wp2_with fail
    refine (wide_e _).mono ?_
    rintro E w7 ⟨rfl, haw⟩
    have HS67 : Hid (w6.heap.size ≤ w7.heap.size) := haw.size
    replace HA := Lib.hid (HA.out.trans haw)
    replace HX := Lib.hid (HX.out.on haw)
    clear haw
    go_wp2_with (refine wpList_alloc23 rfl rfl ?_; refine Hid.out ?_)
    refine Lib.hid ?_
    intro g13 w8 hg hb haw
    have HBQ := Lib.hid hb
    have HG13 : Hid (w7.heap.size ≤ g13) := hg
    have HS78 : Hid (w7.heap.size ≤ w8.heap.size) := haw.size
    replace HA := Lib.hid (HA.out.trans haw)
    replace HX := Lib.hid (HX.out.on haw)
    clear hb haw hg
    go_wp2_with (refine wpList_store23 rfl _ _ rfl g13 rfl wideQ rfl ⟨0, 0, 0, 0⟩ (by exact HBQ.out) ?_; refine Hid.out ?_)
    refine Lib.hid ?_
    intro w9 hb haw
    replace HBQ := Lib.hid hb
    replace HX := Lib.hid (HX.out.away3 haw HX6.out.1 HX6.out.2 (fun z hz => .inr (by simp at hz; rw [hz]; exact Nat.le_trans HS67.out HG13.out)))
    replace HA := Lib.hid (HA.out.next haw (fun z hz => .inr (by simp at hz; rw [hz]; have h1 := HL5.out; have h2 := HS56.out.2; have h3 := HS67.out; have h4 := HG13.out; omega)))
    clear hb haw
    go_upto_if 48 with fail
    go_cut [3] (fun v wc => ∃ t1 : Int, v = .int .i64 t1 ∧ 0 ≤ t1 ∧ t1 ≤ 9223372036854775807 ∧ wc = w9)
    case first =>
      as_aux_lemma =>
      have htm := HTM.out
      simp only [i64ok] at htm
      by_cases h0 : tm < 0
      · have e1 : IntKind.i64.wrap (-1 - tm) = -1 - tm := by rw [IntKind.wrap_i64]; omega
        go_wp2_with fail
        go_meet
        exact ⟨-1 - tm, congrArg (Value.int .i64) (by omega), by omega, by omega, rfl⟩
      · skip
        go_wp2_with fail
        go_meet
        exact ⟨tm, rfl, by omega, by omega, rfl⟩
    case rest =>
    as_aux_lemma =>
    obtain ⟨t1, rfl, ht1a, ht1b, hw'⟩ := hcut
    obtain rfl := hw'.symm
    clear hw' HTM
    obtain ⟨tr, htr, htr2⟩ := mod_u t1 1000000 (by omega) ht1a
    have e1 : t1.tmod 1000000 = (tr : Int) := htr2
    have e2 : wrap64 (tr : Int) = (tr : Int) := wrap_small _ (by omega) (by omega)
    obtain ⟨tq, htq⟩ : ∃ z : Int, z = 2 + (tr : Int) := ⟨_, rfl⟩
    have e3 : IntKind.i64.wrap (2 + (tr : Int)) = tq := by rw [IntKind.wrap_i64]; omega
    have e4 : t1 % 1000000 = (tr : Int) := by rw [← Int.tmod_eq_emod_of_nonneg ht1a]; exact htr2
    have HTQ : Hid (2 ≤ tq ∧ tq ≤ 1000001) := ⟨by omega, by omega⟩
    have c3 : w9.cell? ⟨g13, 3, none⟩ = some (.int .i64 1000) := cell_of_block HBQ.out 3
    have f3 : w9.frozen? ⟨g13, 3, none⟩ = false := free_of_block HBQ.out 3
    go_upto_region 11 with fail
    go_upto_region 12 with fail
    try rw [← htq]
    have hb : BoxQ (w9.setCell ⟨g13, 3, none⟩ (.int .i64 tq)) g13 ⟨64, 1048576, 8192, tq⟩ := by have h := block_set HBQ.out 3 (.int .i64 tq); exact h
    have haw : Away [g13] w9 (w9.setCell ⟨g13, 3, none⟩ (.int .i64 tq)) := away_put _ _
    obtain ⟨w10, hw10⟩ : ∃ W, W = w9.setCell ⟨g13, 3, none⟩ (.int .i64 tq) := ⟨_, rfl⟩
    rw [← hw10] at hb haw ⊢
    replace HBQ := Lib.hid hb
    have HS910 := haw.size
    replace HX := Lib.hid (HX.out.away3 haw HX6.out.1 HX6.out.2 (fun z hz => .inr (by simp at hz; rw [hz]; exact Nat.le_trans HS67.out HG13.out)))
    replace HA := Lib.hid (HA.out.next haw (fun z hz => .inr (by simp at hz; rw [hz]; have h1 := HL5.out; have h2 := HS56.out.2; have h3 := HS67.out; have h4 := HG13.out; omega)))
    clear hb haw hw10 c3 f3 e1 e2 e3 e4 htr htr2 htq ht1a ht1b
    obtain ⟨Q0, hQ0⟩ : ∃ q : Qo, q = ⟨64, 1048576, 8192, tq⟩ := ⟨_, rfl⟩
    have HQ0 := Lib.hid hQ0
    rw [← hQ0] at HBQ
    have HQT : Hid (Q0.t = tq) := by rw [hQ0]; exact rfl
    have HQB : Hid (2 ≤ Q0.e ∧ 131070 ≤ Q0.b ∧ Q0.h = 8192) := by rw [hQ0]; show (2 : Int) ≤ 64 ∧ (131070 : Int) ≤ 1048576 ∧ (8192 : Int) = 8192; omega
    have HQR : Hid (rightQ Q0 = true) := by
      have h := HTQ.out
      rw [hQ0]
      show rightQ _ = true
      unfold rightQ
      simp only [Bool.and_eq_true, decide_eq_true_eq]
      refine ⟨⟨⟨⟨⟨⟨⟨?_, ?_⟩, ?_⟩, ?_⟩, ?_⟩, ?_⟩, ?_⟩, ?_⟩ <;> omega
    clear hQ0
    have HN7 : Hid (g13 < w10.heap.size ∧ 0 < w10.heap.size ∧ w.heap.size ≤ w10.heap.size ∧ w6.heap.size ≤ w10.heap.size) := ⟨lt_of_block HBQ.out, by have h : g13 < w10.heap.size := lt_of_block HBQ.out; omega, HA.out.size, by have h1 := HS67.out; have h2 := HG13.out; have h3 : g13 < w10.heap.size := lt_of_block HBQ.out; omega⟩
    go_wp2_with (refine wpList_load23 rfl _ rfl g13 rfl Q0 (by exact HBQ.out) ?_)
    refine (new_q _ Q0 HQR.out w10.heap.size (Nat.le_refl _)).mono ?_
    rintro E w11 ⟨T0, rfl, hts, hfp, haw⟩
    have hS8 := haw.size
    have HAN : Hid (Away [] w10 w11) := haw
    replace HA := Lib.hid (HA.out.trans haw)
    replace HX := Lib.hid (HX.out.on haw)
    replace HBQ : Hid (BoxQ w11 g13 Q0) := haw.keep (by simp) HBQ.out
    obtain ⟨gT, hgT⟩ : ∃ z, z = T0.g := ⟨_, rfl⟩
    rw [← hgT]
    have HJ : Hid (Jq w10 gT w5.heap.size w6.heap.size (.slice la n lc) xs Q0 T0 0 none w11) := ⟨hgT.symm, hts, HAN.out, HX.out, HX6.out, Nat.le_trans HN7.out.2.2.2 hS8, fun z hz => .inr (Nat.le_trans HN7.out.2.2.2 (hfp z hz)), HN7.out.2.1⟩
    clear hts hfp haw hS8 hgT HX6 HAN HX HS56 HS67 HG13 HS78 HL5 HS6 HQR HS910
    have hmk := fun wx => make_book n (n : Int) rfl (by omega) wx
    have w1 : IntKind.i64.wrap ((n : Int) - 1) = ((n - 1 : Nat) : Int) := by rw [IntKind.wrap_i64]; omega
    go_wp2_with fail
    have HBK : Hid (Bkn (w11.alloc (bookN n)) w11.heap.size n (fun _ => false)) := book_new w11 n
    have haw : Away [] w11 (w11.alloc (bookN n)) := (Away.refl _ _).alloc _
    obtain ⟨gc, hgc⟩ : ∃ z, z = w11.heap.size := ⟨_, rfl⟩
    have HGC : Hid (gc ∉ T0.fp ∧ w10.heap.size ≤ gc ∧ w6.heap.size ≤ gc) := by rw [hgc]; exact ⟨fun hm => by have := HJ.out.lt _ hm; omega, HJ.out.aw.size, HJ.out.sz⟩
    replace HA := Lib.hid (HA.out.trans haw)
    replace HJ := Lib.hid (HJ.out.on haw)
    replace HBQ : Hid (BoxQ _ g13 Q0) := haw.keep (by simp) HBQ.out
    obtain ⟨wA, hwA⟩ : ∃ W, W = w11.alloc (bookN n) := ⟨_, rfl⟩
    rw [← hwA, ← hgc] at HBK ⊢
    rw [← hwA] at HA HJ HBQ
    clear hwA hgc haw hmk
    obtain ⟨m, hm⟩ : ∃ m : Nat, m = n - 1 := ⟨_, rfl⟩
    rw [← hm]
    rw [← hm] at w1
    have hm1 : 1 ≤ m := by omega
    have hmn1 : m < n := by omega
    have hmn2 : n ≤ m + 1 := by omega
    clear hm
    go_loopw [18] (fun iv wr => ∃ (i : Nat) (B : Int → Bool) (T : T4) (t : Int) (a : Option Es), iv = .int .i64 (i : Int) ∧ i ≤ n2 ∧ (0 < i → ∃ k : Nat, k < m ∧ B (k : Int) = true) ∧ Wl p 9 (xs.map X.p) B a 3 ∧ B (m : Int) = false ∧ 0 ≤ t ∧ t ≤ 3 ∧ Bkn wr gc n B ∧ gc ∉ T.fp ∧ Jq w10 gT w5.heap.size w6.heap.size (.slice la n lc) xs Q0 T t a wr ∧ BoxQ wr g13 Q0 ∧ Away [] w wr) (fun iv _ => n2 - (intOf iv).toNat)
    case atStart => exact ⟨0, _, T0, 0, none, rfl, by omega, by omega, wl_none _ _ _ _, rfl, by omega, by omega, HBK.out, HGC.out.1, HJ.out, HBQ.out, HA.out⟩
    case round =>
      as_aux_lemma =>
      clear HJ HBQ HA HBK
      obtain ⟨i, B, T, t, a, rfl, hi, hsm, hwl, hbm, ht0, ht1, hbk, hgf, hj, hbq, ha⟩ := hrel
      have HWL := Lib.hid hwl
      have HBM := Lib.hid hbm
      have HT : Hid (0 ≤ t ∧ t ≤ 3) := ⟨ht0, ht1⟩
      have HBK := Lib.hid hbk
      have HGF := Lib.hid hgf
      have HJ := Lib.hid hj
      have HBQ := Lib.hid hbq
      have HA := Lib.hid ha
      clear hwl hbm ht0 ht1 hbk hgf hj hbq ha
      have HSM := Lib.hid hsm
      clear hsm
      by_cases hlt : i < n2
      · have j1 : (i : Int) < (n2 : Int) := by omega
        as_aux_lemma =>
        have j2 : 0 ≤ (i : Int) := by omega
        have j3 : ((i : Int)).toNat = i := by omega
        obtain ⟨xb, xo, z, hoa, hz, hzk⟩ := H2.out i hlt
        subst hoa
        have cz := HA.out.cell (by simp) hz
        obtain ⟨k, hk, hkm⟩ := mod_u (IntKind.u64.wrap z) m hm1 (by rw [IntKind.wrap_u64]; omega)
        have n64 : IntKind.u64.wrap (m : Int) = (m : Int) := by rw [IntKind.wrap_u64]; omega
        have nz : ¬ ((m : Int) = 0) := by omega
        have w3 : wrap64 ((IntKind.u64.wrap z).tmod (m : Int)) = (k : Int) := by rw [hkm]; exact wrap_small _ (by omega) (by omega)
        have hkn : k < n := by omega
        have k1 : (k : Int) < (n : Int) := by omega
        have k2 : 0 ≤ (k : Int) := by omega
        have k3 : ((k : Int)).toNat = k := by omega
        have cb : wr.cell? ⟨gc, k, none⟩ = some (.bool (B ((k : Nat) : Int))) := HBK.out.row k hkn
        have fb2 := HBK.out.free k
        have HBK2 : Hid (Bkn (wr.setCell ⟨gc, k, none⟩ (.bool true)) gc n (setB B k)) := HBK.out.set hkn
        have haw : Away [gc] wr (wr.setCell ⟨gc, k, none⟩ (.bool true)) := HBK.out.setA k
        go_upto_region 21 with fail
        go_upto_region 22 with fail
        obtain ⟨x11, hx11⟩ : ∃ W, W = wr.setCell ⟨gc, k, none⟩ (.bool true) := ⟨_, rfl⟩
        rw [← hx11] at HBK2 haw ⊢
        clear hx11
        replace HJ := Lib.hid (HJ.out.other haw HGF.out HGC.out.2.1 HGC.out.2.2)
        replace HBQ : Hid (BoxQ x11 g13 Q0) := haw.keep (by simp; have h1 := HN7.out.1; have h2 := HGC.out.2.1; omega) HBQ.out
        replace HA : Hid (Away [] w x11) := HA.out.next haw (fun z hz => .inr (by simp at hz; rw [hz]; exact Nat.le_trans HN7.out.2.2.1 HGC.out.2.1))
        replace HBK := HBK2
        clear haw cb fb2 HBK2
        obtain ⟨y, hy, hym⟩ := get_of (xs := xs) (k := k) (by rw [← HNX.out]; exact hkn)
        obtain ⟨ob, oo, hla, hrow, hpk⟩ := cuts_at HJ.out.cu (by rw [← HNX.out]; omega) hy
        subst hla
        obtain ⟨yp, yo, yd⟩ := y
        have hyl : (xs.map X.p)[k]? = some yp := by rw [List.getElem?_map, hy]; rfl
        obtain ⟨hyr, hyo, hyw⟩ := HLQ.out.all yp (List.mem_of_getElem? hyl)
        have HYK := Lib.hid hpk
        have HYL := Lib.hid hyl
        have HYR := Lib.hid hyr
        have HYO := Lib.hid hyo
        have HYW := Lib.hid hyw
        have HYA : Hid (Ad yp) := hyw.ad
        have HRW := Lib.hid hrow
        clear hpk hyl hyr hyo hyw hy hym hrow
        have hmr : m < (xs.map X.p).length := by rw [List.length_map, ← HNX.out]; omega
        have hmk2 : m ≠ k := by omega
        have HM2 : Hid (m < (xs.map X.p).length ∧ m ≠ k) := ⟨hmr, hmk2⟩
        clear hmr hmk2 cz hz hzk w3 n64 nz hkm
        go_wp2_with (refine wpList_load28m rfl _ rfl ob (oo + k * 46) rfl yp yo yd (by exact HRW.out) HYA.out ?_)
        refine (own_e _ yp yo yd HYK.out).mono ?_
        rintro E x12 ⟨io, jd, rfl, hmi, haw⟩
        have hS11 : ∀ z ∈ T.fp, z < x11.heap.size := HJ.out.lt
        replace HA := Lib.hid (HA.out.trans haw)
        replace HJ := Lib.hid (HJ.out.on haw)
        replace HBK := Lib.hid (HBK.out.on haw)
        replace HBQ : Hid (BoxQ _ g13 Q0) := haw.keep (by simp) HBQ.out
        have HMI := Lib.hid hmi
        have HDF : Hid (∀ z, jd.ownBlock = some z → z ∉ T.fp) := fun z hz hm => by have h1 := hmi.nd z hz; have h2 := hS11 z hm; omega
        clear hmi haw hS11 HYK HRW
        have KP := HJ.out.put (now := 3) HQB.out ⟨HT.out.1, HT.out.2, by omega⟩ (fun s hs => by obtain ⟨-, -, -, h⟩ := HWL.out; have h1 := h s hs; have h2 := HTQ.out; rw [HQT.out]; omega) (HG.out.on HA.out) (HMI.out.pkt HYW.out) HYO.out HDF.out HYR.out (HWL.out.ky HLQ.out (List.mem_of_getElem? HYL.out))
        have HWP := Lib.hid (HWL.out.put HW.out HLQ.out HYL.out HM2.out.1 HM2.out.2 HBM.out)
        obtain ⟨r0, hr0⟩ : ∃ z, z = apQ 3 a yp := ⟨_, rfl⟩
        rw [← hr0] at KP HWP
        clear hr0
        obtain ⟨rs, rl, ra⟩ := r0
        replace KP := Lib.hid KP
        go_wp2_with fail
        refine KP.out.mono ?_
        rintro E x13 ⟨wa, wc, ta, tc, ga, gc2, nw, T3, rfl, hnw, hj3, hfp, haw⟩
        have HNW : Hid (nw = rl.length) := hnw
        have HGF3 : Hid (gc ∉ T3.fp) := fun hm => by
          rcases hfp _ hm with h1 | h1
          · exact HGF.out h1
          · have h2 : gc < x12.heap.size := HBK.out.lt; omega
        replace HBK := Lib.hid (HBK.out.away haw HGF.out)
        replace HBQ : Hid (BoxQ x13 g13 Q0) := haw.keep (fun hm => by have h1 := HJ.out.ts.new _ hm; have h2 := HN7.out.1; omega) HBQ.out
        replace HA : Hid (Away [] w x13) := HA.out.next haw (fun z hz => .inr (Nat.le_trans HN7.out.2.2.1 (HJ.out.ts.new z hz)))
        replace HJ := Lib.hid hj3
        have HNZ : Hid (nw = 0) := by have h : rl = [] := HWP.out.1; rw [HNW.out, h]; rfl
        have HWN : Hid (Wl p 9 (xs.map X.p) (setB B k) ra 3) := HWP.out.2
        obtain rfl : nw = 0 := HNZ.out
        clear hnw hj3 hfp haw KP HWP HNZ HNW HMI HDF
        go_wp2_with (refine wpList_alloc33 rfl rfl ?_; refine Hid.out ?_)
        refine Lib.hid ?_
        intro g20 x14 hg hb haw
        have HT0 := Lib.hid hb
        have HGN : Hid (g20 ∉ T3.fp ∧ gc ≠ g20 ∧ w6.heap.size ≤ g20 ∧ w10.heap.size ≤ g20) := ⟨fun hm => by have := HJ.out.lt _ hm; omega, fun e => by have h := HBK.out.lt; omega, Nat.le_trans HJ.out.sz hg, Nat.le_trans HJ.out.aw.size hg⟩
        have HGL := Lib.hid hg
        replace HA := Lib.hid (HA.out.trans haw)
        replace HJ := Lib.hid (HJ.out.on haw)
        replace HBK := Lib.hid (HBK.out.on haw)
        replace HBQ : Hid (BoxQ _ g13 Q0) := haw.keep (by simp) HBQ.out
        clear hb haw hg
        go_wp2_with (refine wpList_store33 rfl _ _ rfl g20 rfl rs (.slice wa 0 wc) (.slice ta 0 tc) (.slice ga 0 gc2) rfl 0 nilV nilV nilV (by exact HT0.out) rfl rfl rfl ?_; refine Hid.out ?_)
        refine Lib.hid ?_
        intro x15 hb haw
        replace HT0 := Lib.hid hb
        replace HJ := Lib.hid (HJ.out.other haw HGN.out.1 HGN.out.2.2.2 HGN.out.2.2.1)
        replace HBK := Lib.hid (HBK.out.away haw (by simpa using HGN.out.2.1))
        replace HBQ : Hid (BoxQ x15 g13 Q0) := haw.keep (by simp; have h1 := HN7.out.1; have h2 := HGN.out.2.2.2; omega) HBQ.out
        replace HA : Hid (Away [] w x15) := HA.out.next haw (fun z hz => .inr (by simp at hz; rw [hz]; exact Nat.le_trans HN7.out.2.2.1 HGN.out.2.2.2))
        clear hb haw HGN HGL
        have d1 : x15.cell? ⟨g20, 1, none⟩ = some (.slice wa 0 wc) := cell_of_block HT0.out 1
        go_upto_region 23 with fail
        go_cut [107] (fun v wc => v = .bool false ∧ wc = x15)
        case first =>
          as_aux_lemma =>
          go_wp2_with fail
          go_meet
          exact ⟨rfl, rfl⟩
        case rest =>
        as_aux_lemma =>
        obtain ⟨rfl, hw'⟩ := hcut
        obtain rfl := hw'.symm
        clear hw'
        have w4 : IntKind.i64.wrap ((i : Int) + 1) = ((i + 1 : Nat) : Int) := by rw [IntKind.wrap_i64]; omega
        go_wp2_with fail
        go_roundw
        case rel => exact ⟨i + 1, setB B k, T3, 3, ra, by go_num, by omega, fun _ => ⟨k, hk, setB_at B k⟩, HWN.out, by rw [setB_ne HM2.out.2]; exact HBM.out, by omega, by omega, HBK.out, HGF3.out, HJ.out, HBQ.out, HA.out⟩
        case measure => simp [intOf]; omega
      · obtain rfl : i = n2 := by omega
        as_aux_lemma =>
        have j1 : ¬ ((i : Int) < (i : Int)) := by omega
        go_upto_if 110 with fail
        go_cut [16] (fun v wc => v = .slice (some ⟨gc, 0, none⟩) n n ∧ ∃ (B : Int → Bool) (T : T4) (t : Int) (a : Option Es), (∃ k : Nat, k < m ∧ B (k : Int) = true) ∧ Wl p 9 (xs.map X.p) B a 3 ∧ B (m : Int) = false ∧ 0 ≤ t ∧ t ≤ 3 ∧ Bkn wc gc n B ∧ gc ∉ T.fp ∧ Jq w10 gT w5.heap.size w6.heap.size (.slice la n lc) xs Q0 T t a wc ∧ BoxQ wc g13 Q0 ∧ Away [] w wc)
        case first =>
          as_aux_lemma =>
          rcases Nat.eq_zero_or_pos i with h0 | h0
          · subst h0
            have hkn : 0 < n := by omega
            have cb : wr.cell? ⟨gc, 0, none⟩ = some (.bool (B ((0 : Nat) : Int))) := HBK.out.row 0 hkn
            have fb2 := HBK.out.free 0
            have HBK2 : Hid (Bkn (wr.setCell ⟨gc, 0, none⟩ (.bool true)) gc n (setB B 0)) := HBK.out.set hkn
            have haw : Away [gc] wr (wr.setCell ⟨gc, 0, none⟩ (.bool true)) := HBK.out.setA 0
            go_upto_region 26 with fail
            go_upto_region 27 with fail
            obtain ⟨x11, hx11⟩ : ∃ W, W = wr.setCell ⟨gc, 0, none⟩ (.bool true) := ⟨_, rfl⟩
            rw [← hx11] at HBK2 haw ⊢
            clear hx11
            replace HJ := Lib.hid (HJ.out.other haw HGF.out HGC.out.2.1 HGC.out.2.2)
            replace HBQ : Hid (BoxQ x11 g13 Q0) := haw.keep (by simp; have h1 := HN7.out.1; have h2 := HGC.out.2.1; omega) HBQ.out
            replace HA : Hid (Away [] w x11) := HA.out.next haw (fun z hz => .inr (by simp at hz; rw [hz]; exact Nat.le_trans HN7.out.2.2.1 HGC.out.2.1))
            replace HBK := HBK2
            clear haw cb fb2 HBK2
            obtain ⟨y, hy, hym⟩ := get_of (xs := xs) (k := 0) (by rw [← HNX.out]; exact hkn)
            obtain ⟨ob, oo, hla, hrow, hpk⟩ := cuts_at HJ.out.cu (by rw [← HNX.out]; omega) hy
            subst hla
            obtain ⟨yp, yo, yd⟩ := y
            have hyl : (xs.map X.p)[0]? = some yp := by rw [List.getElem?_map, hy]; rfl
            obtain ⟨hyr, hyo, hyw⟩ := HLQ.out.all yp (List.mem_of_getElem? hyl)
            have HYK := Lib.hid hpk
            have HYL := Lib.hid hyl
            have HYR := Lib.hid hyr
            have HYO := Lib.hid hyo
            have HYW := Lib.hid hyw
            have HYA : Hid (Ad yp) := hyw.ad
            have HRW := Lib.hid hrow
            clear hpk hyl hyr hyo hyw hy hym hrow
            have HM2 : Hid (m < (xs.map X.p).length ∧ m ≠ 0) := ⟨by rw [List.length_map, ← HNX.out]; omega, by omega⟩
            go_wp2_with (refine wpList_load28m rfl _ rfl ob (oo + 0 * 46) rfl yp yo yd (by exact HRW.out) HYA.out ?_)
            refine (own_e _ yp yo yd HYK.out).mono ?_
            rintro E x12 ⟨io, jd, rfl, hmi, haw⟩
            have hS11 : ∀ z ∈ T.fp, z < x11.heap.size := HJ.out.lt
            replace HA := Lib.hid (HA.out.trans haw)
            replace HJ := Lib.hid (HJ.out.on haw)
            replace HBK := Lib.hid (HBK.out.on haw)
            replace HBQ : Hid (BoxQ _ g13 Q0) := haw.keep (by simp) HBQ.out
            have HMI := Lib.hid hmi
            have HDF : Hid (∀ z, jd.ownBlock = some z → z ∉ T.fp) := fun z hz hm => by have h1 := hmi.nd z hz; have h2 := hS11 z hm; omega
            clear hmi haw hS11 HYK HRW
            have KP := HJ.out.put (now := 3) HQB.out ⟨HT.out.1, HT.out.2, by omega⟩ (fun s hs => by obtain ⟨-, -, -, h⟩ := HWL.out; have h1 := h s hs; have h2 := HTQ.out; rw [HQT.out]; omega) (HG.out.on HA.out) (HMI.out.pkt HYW.out) HYO.out HDF.out HYR.out (HWL.out.ky HLQ.out (List.mem_of_getElem? HYL.out))
            have HWP := Lib.hid (HWL.out.put HW.out HLQ.out HYL.out HM2.out.1 HM2.out.2 HBM.out)
            obtain ⟨r0, hr0⟩ : ∃ z, z = apQ 3 a yp := ⟨_, rfl⟩
            rw [← hr0] at KP HWP
            clear hr0
            obtain ⟨rs, rl, ra⟩ := r0
            replace KP := Lib.hid KP
            go_wp2_with fail
            refine KP.out.mono ?_
            rintro E x13 ⟨wa, wc, ta, tc, ga, gc2, nw, T3, rfl, hnw, hj3, hfp, haw⟩
            have HNW : Hid (nw = rl.length) := hnw
            have HGF3 : Hid (gc ∉ T3.fp) := fun hm => by
              rcases hfp _ hm with h1 | h1
              · exact HGF.out h1
              · have h2 : gc < x12.heap.size := HBK.out.lt; omega
            replace HBK := Lib.hid (HBK.out.away haw HGF.out)
            replace HBQ : Hid (BoxQ x13 g13 Q0) := haw.keep (fun hm => by have h1 := HJ.out.ts.new _ hm; have h2 := HN7.out.1; omega) HBQ.out
            replace HA : Hid (Away [] w x13) := HA.out.next haw (fun z hz => .inr (Nat.le_trans HN7.out.2.2.1 (HJ.out.ts.new z hz)))
            replace HJ := Lib.hid hj3
            have HWN : Hid (Wl p 9 (xs.map X.p) (setB B 0) ra 3) := HWP.out.2
            go_wp2_with fail
            go_meet
            exact ⟨rfl, setB B 0, T3, 3, ra, ⟨0, by omega, setB_at B 0⟩, HWN.out, by rw [setB_ne HM2.out.2]; exact HBM.out, by omega, by omega, HBK.out, HGF3.out, HJ.out, HBQ.out, HA.out⟩
          · have j2 : ((i : Int) == 0) = false := by simp; omega
            have j3 : ¬ ((i : Int) = 0) := by omega
            go_wp2_with fail
            go_meet
            exact ⟨rfl, B, T, t, a, HSM.out h0, HWL.out, HBM.out, HT.out.1, HT.out.2, HBK.out, HGF.out, HJ.out, HBQ.out, HA.out⟩
        case rest =>
        as_aux_lemma =>
        clear HSM HWL HBM HT HBK HGF HJ HBQ HA
        obtain ⟨rfl, B, T, t, a, hsm, hwl, hbm, ht0, ht1, hbk, hgf, hj, hbq, ha⟩ := hcut
        generalize wc = y1 at *
        have HWL := Lib.hid hwl
        have HBM := Lib.hid hbm
        have HT : Hid (0 ≤ t ∧ t ≤ 3) := ⟨ht0, ht1⟩
        have HBK := Lib.hid hbk
        have HGF := Lib.hid hgf
        have HJ := Lib.hid hj
        have HBQ := Lib.hid hbq
        have HA := Lib.hid ha
        clear hwl hbm ht0 ht1 hbk hgf hj hbq ha
        have HSM := Lib.hid hsm
        clear hsm HGC
        obtain ⟨xz, hxz, hxzm⟩ := get_of (xs := xs) (k := 0) (by rw [← HNX.out]; omega)
        obtain ⟨zp, zo, zd⟩ := xz
        have HZ0 : Hid ((xs.map X.p)[0]? = some zp) := by show _ = _; rw [List.getElem?_map, hxz]; rfl
        have HZX := Lib.hid hxz
        clear hxz hxzm
        go_upto_if 119 with fail
        go_cut [16] (fun v wc => v = .slice (some ⟨gc, 0, none⟩) n n ∧ ∃ (T : T4) (t : Int) (a : Option Es) (s : Es), a = some s ∧ s.tb = 3 ∧ firstP s = (if (B 0 && !sp) = true then (zp, true) else (zeroPk, false)) ∧ 0 ≤ t ∧ t ≤ 3 ∧ Bkn wc gc n B ∧ gc ∉ T.fp ∧ Jq w10 gT w5.heap.size w6.heap.size (.slice la n lc) xs Q0 T t a wc ∧ BoxQ wc g13 Q0 ∧ Away [] w wc)
        case first =>
          as_aux_lemma =>
          obtain ⟨se0, hs0⟩ : ∃ s, a = some s := by obtain ⟨k, h1, h2⟩ := HSM.out; exact HWL.out.isS (by rw [List.length_map, ← HNX.out]; omega) h2
          have htb : se0.tb = 3 := by obtain ⟨-, -, -, h⟩ := HWL.out; exact h se0 hs0
          cases sp with
          | false =>
            go_wp2_with fail
            go_meet
            exact ⟨rfl, T, t, a, se0, hs0, htb, by have h := (hs0 ▸ HWL.out).late HLQ.out HZ0.out; rw [h]; cases B 0 <;> rfl, HT.out.1, HT.out.2, HBK.out, HGF.out, HJ.out, HBQ.out, HA.out⟩
          | true =>
            as_aux_lemma =>
            have HS0 := Lib.hid hs0
            have HTB := Lib.hid htb
            clear hs0 htb
            go_wp2_with fail
            go_loopw [22] (fun iv wr => ∃ (i : Nat), iv = .int .i64 (i : Int) ∧ i ≤ m ∧ (∃ k : Nat, i ≤ k ∧ k < m ∧ B (k : Int) = true) ∧ wr = y1) (fun iv _ => m - (intOf iv).toNat)
            case atStart => exact ⟨0, rfl, by omega, by obtain ⟨k, h1, h2⟩ := HSM.out; exact ⟨k, by omega, h1, h2⟩, (by first | rfl | trivial)⟩
            case round =>
              as_aux_lemma =>
              obtain ⟨i, rfl, hi, hex, hw'⟩ := hrel
              obtain rfl := hw'.symm
              clear hw'
              have hlt : i < m := by obtain ⟨k, h1, h2, -⟩ := hex; omega
              have j1 : (i : Int) < (m : Int) := by omega
              have j2 : 0 ≤ (i : Int) := by omega
              have j3 : ((i : Int)).toNat = i := by omega
              have hin : i < n := by omega
              have j4 : (i : Int) < (n : Int) := by omega
              have cb : y1.cell? ⟨gc, i, none⟩ = some (.bool (B (i : Int))) := HBK.out.row i hin
              obtain ⟨bi, hbi⟩ : ∃ z, z = B (i : Int) := ⟨_, rfl⟩
              rw [← hbi] at cb
              have HBI := Lib.hid hbi
              have HEX := Lib.hid hex
              clear hbi hex
              cases bi with
              | false =>
                have w4 : IntKind.i64.wrap ((i : Int) + 1) = ((i + 1 : Nat) : Int) := by rw [IntKind.wrap_i64]; omega
                go_wp2_with fail
                go_roundw
                case rel => exact ⟨i + 1, by go_num, by omega, by obtain ⟨k, h1, h2, h3⟩ := HEX.out; exact ⟨k, by rcases Nat.lt_or_ge i k with h | h; exact h; (have e : k = i := by omega); subst e; rw [← HBI.out] at h3; simp at h3, h2, h3⟩, (by first | rfl | trivial)⟩
                case measure => simp [intOf]; omega
              | true =>
                as_aux_lemma =>
                clear HEX
                obtain ⟨y, hy, hym⟩ := get_of (xs := xs) (k := i) (by rw [← HNX.out]; exact hin)
                obtain ⟨ob, oo, hla, hrow, hpk⟩ := cuts_at HJ.out.cu (by rw [← HNX.out]; omega) hy
                subst hla
                obtain ⟨yp, yo, yd⟩ := y
                have hyl : (xs.map X.p)[i]? = some yp := by rw [List.getElem?_map, hy]; rfl
                obtain ⟨hyr, hyo, hyw⟩ := HLQ.out.all yp (List.mem_of_getElem? hyl)
                have HYK := Lib.hid hpk
                have HYL := Lib.hid hyl
                have HYR := Lib.hid hyr
                have HYO := Lib.hid hyo
                have HYW := Lib.hid hyw
                have HYA : Hid (Ad yp) := hyw.ad
                have HRW := Lib.hid hrow
                clear hpk hyl hyr hyo hyw hy hym hrow
                go_wp2_with (refine wpList_load28m rfl _ rfl ob (oo + i * 46) rfl yp yo yd (by exact HRW.out) HYA.out ?_)
                refine (own_e _ yp yo yd HYK.out).mono ?_
                rintro E x1 ⟨io, jd, rfl, hmi, haw⟩
                have hS11 : ∀ z ∈ T.fp, z < y1.heap.size := HJ.out.lt
                have HGW : Hid (w6.heap.size ≤ y1.heap.size ∧ w10.heap.size ≤ y1.heap.size ∧ gc < y1.heap.size) := ⟨HJ.out.sz, HJ.out.aw.size, HBK.out.lt⟩
                replace HA := Lib.hid (HA.out.trans haw)
                replace HJ := Lib.hid (HJ.out.on haw)
                replace HBK := Lib.hid (HBK.out.on haw)
                replace HBQ : Hid (BoxQ _ g13 Q0) := haw.keep (by simp) HBQ.out
                have HMI := Lib.hid hmi
                have HDF : Hid (∀ z, jd.ownBlock = some z → z ∉ T.fp ∧ y1.heap.size ≤ z ∧ z < x1.heap.size) := fun z hz => ⟨fun hm => by have h1 := hmi.nd z hz; have h2 := hS11 z hm; omega, hmi.nd z hz, (hmi.lto z (.inr hz)).1⟩
                have HIO : Hid (∀ z, io.ownBlock = some z → z < x1.heap.size) := fun z hz => (hmi.lto z (.inl hz)).1
                clear hmi haw hS11 HYK HRW
                have hdp := HLQ.out.pos yp (List.mem_of_getElem? HYL.out)
                obtain ⟨gd, dn, dc, rfl, hdl⟩ : ∃ gd dn dc, jd = .slice (some ⟨gd, 0, none⟩) dn dc ∧ yp.d.length = dn := by
                  rcases HMI.out.d.2 with ⟨-, h2⟩ | ⟨g, cap, cur, h2, -⟩
                  · have : yp.d.length = 0 := by simpa using h2
                    omega
                  · exact ⟨g, _, cap, h2, by simp⟩
                have HDL := Lib.hid hdl
                have hd0 : (0 : Int) < (dn : Int) := by omega
                have hd0n : 0 < dn := by omega
                have HDP : Hid (0 < yp.d.length ∧ yp.d.length ≤ 4000) := hdp
                clear hdl hdp
                have HJD : Hid ((Value.slice (some ⟨gd, 0, none⟩) dn dc).oneCell' = true) := rfl
                have HJO : Hid (io.oneCell' = true) := HMI.out.o.one
                have HGD : Hid (gd ∉ T.fp ∧ y1.heap.size ≤ gd ∧ gd < x1.heap.size ∧ gd ≠ gc) := ⟨(HDF.out gd rfl).1, (HDF.out gd rfl).2.1, (HDF.out gd rfl).2.2, fun e => by have h1 := HGW.out.2.2; have h2 := (HDF.out gd rfl).2.1; omega⟩
                go_wp2_with (refine wpList_alloc28 rfl rfl ?_; refine Hid.out ?_)
                refine Lib.hid ?_
                intro g23 x2 hg hb haw
                have HB23 := Lib.hid hb
                have HGN : Hid (g23 ∉ T.fp ∧ gc ≠ g23 ∧ w6.heap.size ≤ g23 ∧ w10.heap.size ≤ g23) := ⟨fun hm => by have := HJ.out.lt _ hm; omega, fun e => by have h := HBK.out.lt; omega, Nat.le_trans HJ.out.sz hg, Nat.le_trans HJ.out.aw.size hg⟩
                have HG23 : Hid (x1.heap.size ≤ g23) := hg
                have HG23T : Hid (g23 ∉ T.fp ∧ x1.heap.size ≤ g23) := ⟨HGN.out.1, hg⟩
                replace HA := Lib.hid (HA.out.trans haw)
                replace HJ := Lib.hid (HJ.out.on haw)
                replace HBK := Lib.hid (HBK.out.on haw)
                replace HBQ : Hid (BoxQ _ g13 Q0) := haw.keep (by simp) HBQ.out
                replace HMI := Lib.hid (HMI.out.on haw)
                clear hb haw hg
                go_wp2_with (refine wpList_store28 rfl _ _ rfl g23 rfl yp _ _ rfl zeroPk _ _ (by exact HB23.out) HYA.out ⟨rfl, rfl⟩ HJO.out HJD.out ?_; refine Hid.out ?_)
                refine Lib.hid ?_
                intro x3 hb haw
                replace HB23 := Lib.hid hb
                replace HJ := Lib.hid (HJ.out.other haw HGN.out.1 HGN.out.2.2.2 HGN.out.2.2.1)
                replace HBK := Lib.hid (HBK.out.away haw (by simpa using HGN.out.2.1))
                replace HBQ : Hid (BoxQ x3 g13 Q0) := haw.keep (by simp; have h1 := HN7.out.1; have h2 := HGN.out.2.2.2; omega) HBQ.out
                replace HA : Hid (Away [] w x3) := HA.out.next haw (fun z hz => .inr (by simp at hz; rw [hz]; exact Nat.le_trans HN7.out.2.2.1 HGN.out.2.2.2))
                replace HMI := Lib.hid (HMI.out.away haw (fun z hz => by have h2 := HG23.out; rcases hz with hz | hz; (have h1 := HIO.out z hz; simp; omega); (have h1 := (HDF.out z hz).2.2; simp; omega)))
                clear hb haw HGN
                obtain ⟨xb, hxb⟩ : ∃ x, x = yp.d[0]?.getD 0 := ⟨_, rfl⟩
                have HXB : Hid (0 ≤ xb ∧ xb ≤ 255 ∧ yp.d[0]? = some xb) := by
                  have h1 := HYW.out.d.getD 0
                  rw [← hxb] at h1
                  refine ⟨h1.1, h1.2, ?_⟩
                  have h2 := List.getElem?_eq_getElem HDP.out.1
                  rw [h2] at hxb ⊢
                  rw [hxb]; rfl
                obtain ⟨ub, hub⟩ : ∃ x, x = IntKind.u8.wrap (xb + 1) := ⟨_, rfl⟩
                have HUB : Hid (0 ≤ ub ∧ ub ≤ 255 ∧ ub ≠ xb) := by
                  have h := HXB.out
                  have e : IntKind.u8.wrap (xb + 1) = (xb + 1) % 256 := rfl
                  rw [hub, e]
                  refine ⟨by omega, by omega, by omega⟩
                have hcb := HMI.out.d.cells 0 HDP.out.1
                rw [← hxb] at hcb
                have HCB : Hid (x3.cell? ⟨gd, 0, none⟩ = some (.int .u8 xb) ∧ x3.frozen? ⟨gd, 0, none⟩ = false) := hcb
                have HC45 : Hid (x3.cell? ⟨g23, 45, none⟩ = some (.slice (some ⟨gd, 0, none⟩) dn dc)) := (HB23.out.cells HYA.out).d
                have hub2 : IntKind.u8.wrap (xb + 1) = ub := hub.symm
                clear hcb hxb hub
                go_upto_region 34 with fail
                have ck : x3.drew.cell? ⟨g23, 45, none⟩ = some (.slice (some ⟨gd, 0, none⟩) dn dc) ∧ x3.drew.cell? ⟨gd, 0, none⟩ = some (.int .u8 xb) := ⟨HC45.out, HCB.out.1⟩
                have f0 : x3.drew.frozen? ⟨gd, 0, none⟩ = false := HCB.out.2
                have c0 : x3.drew.cell? ⟨gd, 0, none⟩ = some (.int .u8 xb) := HCB.out.1
                refine wp_region_U [8] (fun w' => w'.cell? ⟨g23, 45, none⟩ = some (.slice (some ⟨gd, 0, none⟩) dn dc) ∧ w'.cell? ⟨gd, 0, none⟩ = some (.int .u8 xb)) (by kernel_rfl) ?_
                refine wpAnyU_take (i := 0) (v := ?_) (by simp only [gA, g1, g0]; rfl) (by kernel_rfl) (by kernel_rfl) (by kernel_rfl) (by decide) (by decide) (by unfold Un; kernel_rfl) (by exact fun _ _ _ h => h) (Or.inl ⟨by rfl, ?_⟩) (by exact ck) ?_
                rotate_left; focus (intro wq hSw; (try dsimp only at hSw); go_simp; all_goals (with_reducible rfl))
                try simp only [Act.put, sA, s0, s1]
                refine wpAnyU_take (i := 1) (by simp only [gA, g1, g0]; rfl) (by kernel_rfl) (by kernel_rfl) (by kernel_rfl) (by decide) (by decide) (by unfold Un; kernel_rfl) (by exact fun _ _ _ h => h) (yields_ld (ad := ⟨g23, 45, none⟩) (by rfl) _ rfl rfl (fun w' h => ld37 h.1)) (by exact ck) ?_
                try simp only [Act.put, sA, s0, s1]
                refine wpAnyU_take (i := 2) (v := ?_) (by simp only [gA, g1, g0]; rfl) (by kernel_rfl) (by kernel_rfl) (by kernel_rfl) (by decide) (by decide) (by unfold Un; kernel_rfl) (by exact fun _ _ _ h => h) (Or.inl ⟨by rfl, ?_⟩) (by exact ck) ?_
                rotate_left; focus (intro wq hSw; (try dsimp only at hSw); go_simp; all_goals (with_reducible rfl))
                try simp only [Act.put, sA, s0, s1]
                refine wpAnyU_take (i := 3) (by simp only [gA, g1, g0]; rfl) (by kernel_rfl) (by kernel_rfl) (by kernel_rfl) (by decide) (by decide) (by unfold Un; kernel_rfl) (by exact fun _ _ _ h => h) (yields_ld (ad := ⟨g23, 45, none⟩) (by rfl) _ rfl rfl (fun w' h => ld37 h.1)) (by exact ck) ?_
                try simp only [Act.put, sA, s0, s1]
                refine wpAnyU_take (i := 4) (v := ?_) (by simp only [gA, g1, g0]; rfl) (by kernel_rfl) (by kernel_rfl) (by kernel_rfl) (by decide) (by decide) (by unfold Un; kernel_rfl) (by exact fun _ _ _ h => h) (Or.inl ⟨by rfl, ?_⟩) (by exact ck) ?_
                rotate_left; focus (intro wq hSw; (try dsimp only at hSw); go_simp; all_goals (with_reducible rfl))
                try simp only [Act.put, sA, s0, s1]
                refine wpAnyU_take (i := 5) (by simp only [gA, g1, g0]; rfl) (by kernel_rfl) (by kernel_rfl) (by kernel_rfl) (by decide) (by decide) (by unfold Un; kernel_rfl) (by exact fun _ _ _ h => h) (yields_ld (ad := ⟨gd, 0, none⟩) (by rfl) _ rfl rfl (fun w' h => ld5b h.2)) (by exact ck) ?_
                try simp only [Act.put, sA, s0, s1]
                refine wpAnyU_take (i := 6) (v := ?_) (by simp only [gA, g1, g0]; rfl) (by kernel_rfl) (by kernel_rfl) (by kernel_rfl) (by decide) (by decide) (by unfold Un; kernel_rfl) (by exact fun _ _ _ h => h) (Or.inl ⟨by rfl, ?_⟩) (by exact ck) ?_
                rotate_left; focus (intro wq hSw; (try dsimp only at hSw); go_simp; all_goals (with_reducible rfl))
                try simp only [Act.put, sA, s0, s1]
                refine wpAnyU_take (i := 7) (v := ?_) (by simp only [gA, g1, g0]; rfl) (by kernel_rfl) (by kernel_rfl) (by kernel_rfl) (by decide) (by decide) (by unfold Un; kernel_rfl) (by exact fun _ _ _ h => h) (Or.inl ⟨by rfl, ?_⟩) (by exact ck) ?_
                rotate_left; focus (intro wq hSw; (try dsimp only at hSw); go_simp; all_goals (with_reducible rfl))
                try simp only [Act.put, sA, s0, s1]
                refine wpAnyU_ready (rs := [8]) (by kernel_rfl) (by simp) ?_
                refine ReadyU.cons (by simp only [gA, g1, g0]; rfl) (fun K hK => ?_) ReadyU.nil
                go_simp
                refine hK.out _ _ (by intro h; simp [Un] at h) ?_
                clear hK K
                try simp only [Act.put]
                refine wpAnyU_done (by kernel_rfl) ?_ _
                have haw : Away [gd] x3 ((x3.setCell ⟨gd, 0, none⟩ (.int .u8 ub)).drew) := ((Away.refl [gd] x3).setCell (.inl (by simp)) _).drew
                have HOD : Hid (Owns ((x3.setCell ⟨gd, 0, none⟩ (.int .u8 ub)).drew) (.slice (some ⟨gd, 0, none⟩) dn dc) (yp.d.set 0 ub)) := (HMI.out.d.set HDL.out 0 ub).on ((Away.refl [] _).drew)
                have HOI : Hid (Owns ((x3.setCell ⟨gd, 0, none⟩ (.int .u8 ub)).drew) io yp.o) := HMI.out.o.away haw (fun z hz hm => by simp at hm; subst hm; exact HMI.out.ap z hz rfl)
                have HB24 : Hid (BoxP ((x3.setCell ⟨gd, 0, none⟩ (.int .u8 ub)).drew) g23 (badP yp ub) io (.slice (some ⟨gd, 0, none⟩) dn dc)) := HB23.out.away haw (by simp; have h1 := HGD.out.2.2.1; have h2 := HG23.out; omega)
                have HGN : Hid (gd ∉ T.fp ∧ gc ≠ gd ∧ w6.heap.size ≤ gd ∧ w10.heap.size ≤ gd) := ⟨HGD.out.1, fun e => HGD.out.2.2.2 e.symm, Nat.le_trans HGW.out.1 HGD.out.2.1, Nat.le_trans HGW.out.2.1 HGD.out.2.1⟩
                obtain ⟨x4, hx4⟩ : ∃ W, W = (x3.setCell ⟨gd, 0, none⟩ (.int .u8 ub)).drew := ⟨_, rfl⟩
                rw [← hx4] at haw HOD HOI HB24 ⊢
                clear hx4 ck f0 c0
                replace HJ := Lib.hid (HJ.out.other haw HGN.out.1 HGN.out.2.2.2 HGN.out.2.2.1)
                replace HBK := Lib.hid (HBK.out.away haw (by simpa using HGN.out.2.1))
                replace HBQ : Hid (BoxQ x4 g13 Q0) := haw.keep (by simp; have h1 := HN7.out.1; have h2 := HGN.out.2.2.2; omega) HBQ.out
                replace HA : Hid (Away [] w x4) := HA.out.next haw (fun z hz => .inr (by simp at hz; rw [hz]; exact Nat.le_trans HN7.out.2.2.1 HGN.out.2.2.2))
                have HMB : Hid (Mine x4 y1.heap.size (badP yp ub) io (.slice (some ⟨gd, 0, none⟩) dn dc)) := ⟨HOI.out, HOD.out, HMI.out.no, HMI.out.nd, HMI.out.ap⟩
                obtain ⟨⟨sx, hsx, hapq⟩, hbr, hbw, hbo⟩ := HWL.out.bad HW.out HLQ.out HYL.out HBI.out.symm ⟨HUB.out.1, HUB.out.2.1⟩ (fun h => HUB.out.2.2 (by rw [HXB.out.2.2] at h; injection h)) 3
                obtain rfl : sx = se0 := by have h := HS0.out; rw [hsx] at h; injection h
                have HBA : Hid (Ad (badP yp ub)) := hbw.ad
                have HBW := Lib.hid hbw
                have hky := HWL.out.ky HLQ.out (List.mem_of_getElem? HYL.out)
                have KP := HJ.out.put (now := 3) HQB.out ⟨HT.out.1, HT.out.2, by omega⟩ (fun s hs => by obtain ⟨-, -, -, h⟩ := HWL.out; have h1 := h s hs; have h2 := HTQ.out; rw [HQT.out]; omega) (HG.out.on HA.out) (HMB.out.pkt hbw) hbo (fun z hz => (HDF.out z hz).1) hbr (fun s hs => by have h := hky s hs; exact h)
                rw [hapq] at KP
                have HKY : Hid (kyB (badP yp ub) sx.k = true) := hky sx hsx
                replace KP := Lib.hid KP
                clear haw HGN hsx hapq hbr hbw hbo hky HMB HOD HOI
                go_wp2_with (refine wpList_load28 rfl _ rfl g23 rfl (badP yp ub) _ _ (by exact HB24.out) HBA.out ?_)
                refine KP.out.mono ?_
                rintro E x5 ⟨wa, wc, ta, tc, ga, gc2, nw, T3, rfl, hnw, hj3, hfp, haw⟩
                have HB25 := Lib.hid (HB24.out.away haw HG23T.out.1)
                have HGF3 : Hid (gc ∉ T3.fp) := fun hm => by
                  rcases hfp _ hm with h1 | h1
                  · exact HGF.out h1
                  · have h2 : gc < x4.heap.size := HBK.out.lt; omega
                replace HBK := Lib.hid (HBK.out.away haw HGF.out)
                replace HBQ : Hid (BoxQ x5 g13 Q0) := haw.keep (fun hm => by have h1 := HJ.out.ts.new _ hm; have h2 := HN7.out.1; omega) HBQ.out
                replace HA : Hid (Away [] w x5) := HA.out.next haw (fun z hz => .inr (Nat.le_trans HN7.out.2.2.1 (HJ.out.ts.new z hz)))
                replace HJ := Lib.hid hj3
                clear hnw hj3 hfp haw KP HB24
                have HX5 : Hid (g23 < x5.heap.size) := HB25.out.lt
                go_wp2_with (refine wpList_alloc33 rfl rfl ?_; refine Hid.out ?_)
                refine Lib.hid ?_
                intro g24 x6 hg hb haw
                have HT0 := Lib.hid hb
                have HGN : Hid (g24 ∉ T3.fp ∧ gc ≠ g24 ∧ w6.heap.size ≤ g24 ∧ w10.heap.size ≤ g24) := ⟨fun hm => by have := HJ.out.lt _ hm; omega, fun e => by have h := HBK.out.lt; omega, Nat.le_trans HJ.out.sz hg, Nat.le_trans HJ.out.aw.size hg⟩
                have HGL := Lib.hid hg
                replace HA := Lib.hid (HA.out.trans haw)
                replace HJ := Lib.hid (HJ.out.on haw)
                replace HBK := Lib.hid (HBK.out.on haw)
                replace HB25 := Lib.hid (HB25.out.on haw)
                replace HBQ : Hid (BoxQ _ g13 Q0) := haw.keep (by simp) HBQ.out
                clear hb haw hg
                go_wp2_with (refine wpList_store33 rfl _ _ rfl g24 rfl 4 (.slice wa nw wc) (.slice ta 0 tc) (.slice ga 0 gc2) rfl 0 nilV nilV nilV (by exact HT0.out) rfl rfl rfl ?_; refine Hid.out ?_)
                refine Lib.hid ?_
                intro x7 hb haw
                replace HB25 := Lib.hid (HB25.out.away haw (by simp; have h1 := HX5.out; have h2 := HGL.out; omega))
                replace HT0 := Lib.hid hb
                replace HJ := Lib.hid (HJ.out.other haw HGN.out.1 HGN.out.2.2.2 HGN.out.2.2.1)
                replace HBK := Lib.hid (HBK.out.away haw (by simpa using HGN.out.2.1))
                replace HBQ : Hid (BoxQ x7 g13 Q0) := haw.keep (by simp; have h1 := HN7.out.1; have h2 := HGN.out.2.2.2; omega) HBQ.out
                replace HA : Hid (Away [] w x7) := HA.out.next haw (fun z hz => .inr (by simp at hz; rw [hz]; exact Nat.le_trans HN7.out.2.2.1 HGN.out.2.2.2))
                clear hb haw HGN HGL
                have d0 : x7.cell? ⟨g24, 0, none⟩ = some (.int .i64 4) := cell_of_block HT0.out 0
                go_upto_region 36 with fail
                go_cut [161] (fun v wc => v = .bool false ∧ Away [] x7 wc)
                case first =>
                  as_aux_lemma =>
                  go_wp2_with (refine wpList_load28 (by rfl) _ rfl g23 rfl (badP yp ub) _ _ (by exact HB25.out) HBA.out ?_)
                  refine (lkey_c (badP yp ub) _ _ _ HBA.out).mono ?_
                  rintro E v1 ⟨rfl, haw1⟩
                  have HV1 := Lib.hid haw1
                  clear haw1
                  have KQ := Lib.hid ((HJ.out.on HV1.out).pois (badP yp ub) HBW.out HKY.out)
                  go_wp2_with fail
                  refine KQ.out.mono ?_
                  rintro E v2 ⟨rfl, haw2⟩
                  have HV2 := Lib.hid (HV1.out.trans haw2)
                  clear haw2 KQ
                  go_wp2_with fail
                  go_meet
                  exact ⟨rfl, HV2.out⟩
                case rest =>
                as_aux_lemma =>
                obtain ⟨rfl, haw⟩ := hcut
                generalize wc = x8 at *
                clear HB25
                replace HA := Lib.hid (HA.out.trans haw)
                replace HJ := Lib.hid (HJ.out.on haw)
                replace HBK := Lib.hid (HBK.out.on haw)
                replace HBQ : Hid (BoxQ _ g13 Q0) := haw.keep (by simp) HBQ.out
                clear haw d0
                go_wp2_with fail
                go_meet
                exact ⟨rfl, T3, 3, _, poisS sx, rfl, HTB.out, by rw [pois_first]; simp, by omega, by omega, HBK.out, HGF3.out, HJ.out, HBQ.out, HA.out⟩
        case rest =>
        as_aux_lemma =>
        clear HWL HBM HT HBK HGF HJ HBQ HA
        obtain ⟨rfl, T, t, a, s, rfl, htb, hfs, ht0, ht1, hbk, hgf, hj, hbq, ha⟩ := hcut
        generalize wc = y2 at *
        have HTB := Lib.hid htb
        have HFS := Lib.hid hfs
        have HT : Hid (0 ≤ t ∧ t ≤ 3) := ⟨ht0, ht1⟩
        have HBK := Lib.hid hbk
        have HGF := Lib.hid hgf
        have HJ := Lib.hid hj
        have HBQ := Lib.hid hbq
        have HA := Lib.hid ha
        clear htb hfs ht0 ht1 hbk hgf hj hbq ha
        obtain ⟨qt, hqt⟩ : ∃ z, z = Q0.t := ⟨_, rfl⟩
        have HQ := Lib.hid hqt
        have hq2 : 2 ≤ qt ∧ qt ≤ 1000001 := by rw [hqt, HQT.out]; exact HTQ.out
        clear hqt
        have e5w : IntKind.i64.wrap (2 + qt) = 2 + qt := by rw [IntKind.wrap_i64]; omega
        have e5v : IntKind.i64.wrap (3 + qt) = 3 + qt := by rw [IntKind.wrap_i64]; omega
        have c3 : y2.cell? ⟨g13, 3, none⟩ = some (.int .i64 qt) := by rw [HQ.out]; exact cell_of_block HBQ.out 3
        have KY := Lib.hid (HJ.out.young (now := 2 + qt) ⟨HT.out.1, by have := HT.out.2; omega, by omega⟩ (fun se1 e1 => by injection e1 with e1; rw [← e1, HTB.out, ← HQ.out]; omega))
        go_wp2_with fail
        refine KY.out.mono ?_
        rintro E y3 ⟨la3, lc3, T3, rfl, hj3, hfp, haw⟩
        have HGF3 : Hid (gc ∉ T3.fp) := fun hm => by
          rcases hfp _ hm with h1 | h1
          · exact HGF.out h1
          · have h2 : gc < y2.heap.size := HBK.out.lt; omega
        replace HBK := Lib.hid (HBK.out.away haw HGF.out)
        replace HBQ : Hid (BoxQ y3 g13 Q0) := haw.keep (fun hm => by have h1 := HJ.out.ts.new _ hm; have h2 := HN7.out.1; omega) HBQ.out
        replace HA : Hid (Away [] w y3) := HA.out.next haw (fun z hz => .inr (Nat.le_trans HN7.out.2.2.1 (HJ.out.ts.new z hz)))
        replace HJ := Lib.hid hj3
        clear hj3 hfp haw KY c3 HGF
        go_wp2_with (refine wpList_alloc33 rfl rfl ?_; refine Hid.out ?_)
        refine Lib.hid ?_
        intro g26 y4 hg hb haw
        have HT0 := Lib.hid hb
        have HGN : Hid (g26 ∉ T3.fp ∧ gc ≠ g26 ∧ w6.heap.size ≤ g26 ∧ w10.heap.size ≤ g26) := ⟨fun hm => by have := HJ.out.lt _ hm; omega, fun e => by have h := HBK.out.lt; omega, Nat.le_trans HJ.out.sz hg, Nat.le_trans HJ.out.aw.size hg⟩
        have HGL := Lib.hid hg
        replace HA := Lib.hid (HA.out.trans haw)
        replace HJ := Lib.hid (HJ.out.on haw)
        replace HBK := Lib.hid (HBK.out.on haw)
        replace HBQ : Hid (BoxQ _ g13 Q0) := haw.keep (by simp) HBQ.out
        clear hb haw hg
        go_wp2_with (refine wpList_store33 rfl _ _ rfl g26 rfl 0 nilV (.slice la3 0 lc3) nilV rfl 0 nilV nilV nilV (by exact HT0.out) rfl rfl rfl ?_; refine Hid.out ?_)
        refine Lib.hid ?_
        intro y5 hb haw
        replace HT0 := Lib.hid hb
        replace HJ := Lib.hid (HJ.out.other haw HGN.out.1 HGN.out.2.2.2 HGN.out.2.2.1)
        replace HBK := Lib.hid (HBK.out.away haw (by simpa using HGN.out.2.1))
        replace HBQ : Hid (BoxQ y5 g13 Q0) := haw.keep (by simp; have h1 := HN7.out.1; have h2 := HGN.out.2.2.2; omega) HBQ.out
        replace HA : Hid (Away [] w y5) := HA.out.next haw (fun z hz => .inr (by simp at hz; rw [hz]; exact Nat.le_trans HN7.out.2.2.1 HGN.out.2.2.2))
        clear hb haw HGN HGL
        have d2 : y5.cell? ⟨g26, 2, none⟩ = some (.slice la3 0 lc3) := cell_of_block HT0.out 2
        go_upto_region 39 with fail
        go_cut [183] (fun v wc => v = .bool false ∧ Away [] y5 wc)
        case first =>
          as_aux_lemma =>
          go_wp2_with fail
          refine (HJ.out.keys (n := 1) rfl).mono ?_
          rintro E v1 ⟨ka, kc, rfl, haw⟩
          have HV1 := Lib.hid haw
          clear haw
          go_wp2_with fail
          go_meet
          exact ⟨rfl, HV1.out⟩
        case rest =>
        as_aux_lemma =>
        obtain ⟨rfl, haw⟩ := hcut
        generalize wc = y6 at *
        replace HA := Lib.hid (HA.out.trans haw)
        replace HJ := Lib.hid (HJ.out.on haw)
        replace HBK := Lib.hid (HBK.out.on haw)
        replace HBQ : Hid (BoxQ _ g13 Q0) := haw.keep (by simp) HBQ.out
        clear haw d2 HT0
        have c3 : y6.cell? ⟨g13, 3, none⟩ = some (.int .i64 qt) := by rw [HQ.out]; exact cell_of_block HBQ.out 3
        have HGF := HGF3
        have KY := Lib.hid (HJ.out.old (now := 3 + qt) ⟨by omega, by omega, by omega⟩ (by rw [HTB.out, ← HQ.out]; omega))
        go_wp2_with fail
        refine KY.out.mono ?_
        rintro E y7 ⟨la4, lc4, ys, T4_, rfl, hcw, hcm, hj3, hfp, haw⟩
        have HCW := Lib.hid hcw
        have HCB : Hid ((∀ z, (Value.slice la4 ys.length lc4).ownBlock = some z → z < y7.heap.size) ∧ (∀ x ∈ ys, ∀ z, x.o.ownBlock = some z ∨ x.d.ownBlock = some z → z < y7.heap.size)) := ⟨fun z hz => hcw.lst.lt z hz, fun x hx z hz => ((hcw.each x hx).2.lto z hz).1⟩
        clear HGF3
        have HGF3 : Hid (gc ∉ T4_.fp) := fun hm => by
          rcases hfp _ hm with h1 | h1
          · exact HGF.out h1
          · have h2 : gc < y6.heap.size := HBK.out.lt; omega
        replace HBK := Lib.hid (HBK.out.away haw HGF.out)
        replace HBQ : Hid (BoxQ y7 g13 Q0) := haw.keep (fun hm => by have h1 := HJ.out.ts.new _ hm; have h2 := HN7.out.1; omega) HBQ.out
        replace HA : Hid (Away [] w y7) := HA.out.next haw (fun z hz => .inr (Nat.le_trans HN7.out.2.2.1 (HJ.out.ts.new z hz)))
        replace HJ := Lib.hid hj3
        have HCM : Hid (ys.map X.p = if (B 0 && !sp) = true then [zp] else []) := by
          show _ = _
          rw [hcm, HFS.out]
          cases h : (B 0 && !sp) <;> rfl
        clear hcw hcm hj3 hfp haw KY c3 HGF
        obtain ⟨ny, hny⟩ : ∃ z, z = ys.length := ⟨_, rfl⟩
        have HNY := Lib.hid hny
        rw [← hny] at HCW HCB ⊢
        clear hny
        go_wp2_with (refine wpList_alloc33 rfl rfl ?_; refine Hid.out ?_)
        refine Lib.hid ?_
        intro g28 y8 hg hb haw
        have HT0 := Lib.hid hb
        have HGN : Hid (g28 ∉ T4_.fp ∧ gc ≠ g28 ∧ w6.heap.size ≤ g28 ∧ w10.heap.size ≤ g28) := ⟨fun hm => by have := HJ.out.lt _ hm; omega, fun e => by have h := HBK.out.lt; omega, Nat.le_trans HJ.out.sz hg, Nat.le_trans HJ.out.aw.size hg⟩
        have HGL := Lib.hid hg
        replace HA := Lib.hid (HA.out.trans haw)
        replace HJ := Lib.hid (HJ.out.on haw)
        replace HBK := Lib.hid (HBK.out.on haw)
        replace HCW := Lib.hid (HCW.out.on haw)
        replace HBQ : Hid (BoxQ _ g13 Q0) := haw.keep (by simp) HBQ.out
        clear hb haw hg
        go_wp2_with (refine wpList_store33 rfl _ _ rfl g28 rfl 0 nilV (.slice la4 ny lc4) nilV rfl 0 nilV nilV nilV (by exact HT0.out) rfl rfl rfl ?_; refine Hid.out ?_)
        refine Lib.hid ?_
        intro y9 hb haw
        replace HCW := Lib.hid (HCW.out.away3 haw HCB.out.1 HCB.out.2 (fun z hz => .inr (by simp at hz; rw [hz]; exact HGL.out)))
        replace HT0 := Lib.hid hb
        replace HJ := Lib.hid (HJ.out.other haw HGN.out.1 HGN.out.2.2.2 HGN.out.2.2.1)
        replace HBK := Lib.hid (HBK.out.away haw (by simpa using HGN.out.2.1))
        replace HBQ : Hid (BoxQ y9 g13 Q0) := haw.keep (by simp; have h1 := HN7.out.1; have h2 := HGN.out.2.2.2; omega) HBQ.out
        replace HA : Hid (Away [] w y9) := HA.out.next haw (fun z hz => .inr (by simp at hz; rw [hz]; exact Nat.le_trans HN7.out.2.2.1 HGN.out.2.2.2))
        clear hb haw HGN HGL
        have d2 : y9.cell? ⟨g28, 2, none⟩ = some (.slice la4 ny lc4) := cell_of_block HT0.out 2
        have D2 := Lib.hid d2
        clear d2
        obtain ⟨b0, hb0⟩ : ∃ z, z = B 0 := ⟨_, rfl⟩
        rw [← hb0] at HCM
        have hnl : ny = if (b0 && !sp) = true then 1 else 0 := by
          have h := congrArg List.length HCM.out
          rw [List.length_map, ← HNY.out] at h
          rw [h]
          split <;> rfl
        have CB : Hid (y9.cell? ⟨gc, 0, none⟩ = some (.bool b0)) := by show _ = _; rw [hb0]; exact HBK.out.row 0 (by omega)
        have HNL := Lib.hid hnl
        clear hnl hb0
        have KK : Hid (∀ W, Away [] y9 W → Calls Tryz.prog 14 #[.pointer (some ⟨gT, 0, none⟩)] W fun E w'' => ∃ ka kc, E = .returned (.slice ka 0 kc) ∧ Away [] W w'') := fun W hW => (HJ.out.on hW).keys rfl
        have KB : Hid (∀ W, Away [] y9 W → Calls Tryz.prog 16 #[.pointer (some ⟨gT, 0, none⟩)] W fun E w'' => E = .returned (.int .i64 0) ∧ Away [] y9 w'') := fun W hW => ((HJ.out.on hW).bytes).mono (fun E w'' h => ⟨h.1, hW.trans h.2⟩)
        have j0 : (0 : Int) < (n : Int) := by omega
        have j0n : 0 < n := by omega
        have bz1 : ((0 : Int) != 0) = false := rfl
        have bz2 : ((0 : Int) == 1) = false := rfl
        have bz3 : ((1 : Int) == 1) = true := rfl
        have bz4 : (true != true) = false := rfl
        have bz5 : (false != false) = false := rfl
        go_upto_region 42 with fail
        go_cut [224] (fun v wc => v = .bool false ∧ Away [] y9 wc)
        case first =>
          as_aux_lemma =>
          cases b0 with
          | false =>
            obtain rfl : ny = 0 := by rw [HNL.out]; rfl
            clear HNL
            go_wp2_with fail
            refine wp_region_held_drew (S := (fun w' => Away [] y9 w')) (by kernel_rfl) (by exact (Away.refl [] y9).drew) (fun hHeld => ?_)
            refine tkA 0 (v := ?_) (by simp only [gA, g1, g0]; rfl) (by kernel_rfl) (by exact fun _ _ _ h => h) (Or.inl ⟨by rfl, ?_⟩) (by assumption) ?_; rotate_left; focus (intro wq hSw; (try dsimp only at hSw); go_simp; all_goals (with_reducible rfl))
            try simp only [Act.put, sA, s0, s1]
            refine tkA 1 (v := ?_) (by simp only [gA, g1, g0]; rfl) (by kernel_rfl) (by exact fun _ _ _ h => h) (Or.inl ⟨by rfl, ?_⟩) (by assumption) ?_; rotate_left; focus (intro wq hSw; (try dsimp only at hSw); go_simp; all_goals (with_reducible rfl))
            try simp only [Act.put, sA, s0, s1]
            refine tkA 2 (v := ?_) (by simp only [gA, g1, g0]; rfl) (by kernel_rfl) (by exact fun _ _ _ h => h) (Or.inl ⟨by rfl, ?_⟩) (by assumption) ?_; rotate_left; focus (intro wq hSw; (try dsimp only at hSw); go_simp; all_goals (with_reducible rfl))
            try simp only [Act.put, sA, s0, s1]
            refine tkA 3 (v := ?_) (by simp only [gA, g1, g0]; rfl) (by kernel_rfl) (by exact fun _ _ _ h => h) (Or.inl ⟨by rfl, ?_⟩) (by assumption) ?_; rotate_left; focus (intro wq hSw; (try dsimp only at hSw); go_simp; all_goals (with_reducible rfl))
            try simp only [Act.put, sA, s0, s1]
            refine wpAnyH_ready (rs := [4]) (by kernel_rfl) (by simp) ?_
            refine AllReadyH.cons (by simp only [gA, g1, g0]; rfl) (fun K hK => ?_) AllReadyH.nil
            go_simp
            refine (KK.out _ hHeld).mono ?_
            rintro E v4 ⟨ka, kc, rfl, haw⟩
            have hb1 := hHeld.trans haw
            refine hK.out _ _ hb1 (fun hHeld => ?_)
            clear hK K haw hb1
            try simp only [Act.put, sA, s0, s1]
            refine tkA 5 (v := ?_) (by simp only [gA, g1, g0]; rfl) (by kernel_rfl) (by exact fun _ _ _ h => h) (Or.inl ⟨by rfl, ?_⟩) (by assumption) ?_; rotate_left; focus (intro wq hSw; (try dsimp only at hSw); go_simp; all_goals (with_reducible rfl))
            try simp only [Act.put, sA, s0, s1]
            refine tkA 6 (v := ?_) (by simp only [gA, g1, g0]; rfl) (by kernel_rfl) (by exact fun _ _ _ h => h) (Or.inl ⟨by rfl, ?_⟩) (by assumption) ?_; rotate_left; focus (intro wq hSw; (try dsimp only at hSw); go_simp; all_goals (with_reducible rfl))
            try simp only [Act.put, sA, s0, s1]
            refine tkA 7 (v := ?_) (by simp only [gA, g1, g0]; rfl) (by kernel_rfl) (by exact fun _ _ _ h => h) (Or.inl ⟨by rfl, ?_⟩) (by assumption) ?_; rotate_left; focus (intro wq hSw; (try dsimp only at hSw); go_simp; all_goals (with_reducible rfl))
            try simp only [Act.put, sA, s0, s1]
            refine tkA 8 (v := ?_) (by simp only [gA, g1, g0]; rfl) (by kernel_rfl) (by exact fun _ _ _ h => h) (Or.inl ⟨by rfl, ?_⟩) (by assumption) ?_; rotate_left; focus (intro wq hSw; (try dsimp only at hSw); go_simp; all_goals (with_reducible rfl))
            try simp only [Act.put, sA, s0, s1]
            refine tkA 9 (v := ?_) (by simp only [gA, g1, g0]; rfl) (by kernel_rfl) (by exact fun _ _ _ h => h) (Or.inl ⟨by rfl, ?_⟩) (by assumption) ?_; rotate_left; focus (intro wq hSw; (try dsimp only at hSw); go_simp; all_goals (with_reducible rfl))
            try simp only [Act.put, sA, s0, s1]
            refine wpAnyH_ready (rs := [10]) (by kernel_rfl) (by simp) ?_
            refine AllReadyH.cons (by simp only [gA, g1, g0]; rfl) (fun K hK => ?_) AllReadyH.nil
            go_simp
            refine (KB.out _ hHeld).mono ?_
            rintro E v10 ⟨rfl, hb1⟩
            refine hK.out _ _ hb1 (fun hHeld => ?_)
            clear hK K hb1
            try simp only [Act.put, sA, s0, s1]
            refine tkA 11 (v := ?_) (by simp only [gA, g1, g0]; rfl) (by kernel_rfl) (by exact fun _ _ _ h => h) (Or.inl ⟨by rfl, ?_⟩) (by assumption) ?_; rotate_left; focus (intro wq hSw; (try dsimp only at hSw); go_simp; all_goals (with_reducible rfl))
            try simp only [Act.put, sA, s0, s1]
            refine tkA 12 (v := ?_) (by simp only [gA, g1, g0]; rfl) (by kernel_rfl) (by exact fun _ _ _ h => h) (Or.inl ⟨by rfl, ?_⟩) (by assumption) ?_; rotate_left; focus (intro wq hSw; (try dsimp only at hSw); go_simp; all_goals (with_reducible rfl))
            try simp only [Act.put, sA, s0, s1]
            refine tkA 13 (v := ?_) (by simp only [gA, g1, g0]; rfl) (by kernel_rfl) (by exact fun _ _ _ h => h) (Or.inl ⟨by rfl, ?_⟩) (by assumption) ?_; rotate_left; focus (intro wq hSw; (try dsimp only at hSw); go_simp; all_goals (with_reducible rfl))
            try simp only [Act.put, sA, s0, s1]
            refine tkA 14 (v := ?_) (by simp only [gA, g1, g0]; rfl) (by kernel_rfl) (by exact fun _ _ _ h => h) (Or.inl ⟨by rfl, ?_⟩) (by assumption) ?_; rotate_left; focus (intro wq hSw; (try dsimp only at hSw); go_simp; all_goals (with_reducible rfl))
            try simp only [Act.put, sA, s0, s1]
            refine tkA 15 (by simp only [gA, g1, g0]; rfl) (by kernel_rfl) (by exact fun _ _ _ h => h) (yields_ld (ad := ⟨g28, 2, none⟩) (by rfl) _ rfl rfl (fun w' h => ld42 (h.cell (by simp) D2.out))) (by assumption) ?_; try simp only [Act.put, sA, s0, s1]
            refine tkA 16 (v := ?_) (by simp only [gA, g1, g0]; rfl) (by kernel_rfl) (by exact fun _ _ _ h => h) (Or.inl ⟨by rfl, ?_⟩) (by assumption) ?_; rotate_left; focus (intro wq hSw; (try dsimp only at hSw); go_simp; all_goals (with_reducible rfl))
            try simp only [Act.put, sA, s0, s1]
            refine tkA 17 (v := ?_) (by simp only [gA, g1, g0]; rfl) (by kernel_rfl) (by exact fun _ _ _ h => h) (Or.inl ⟨by rfl, ?_⟩) (by assumption) ?_; rotate_left; focus (intro wq hSw; (try dsimp only at hSw); go_simp; all_goals (with_reducible rfl))
            try simp only [Act.put, sA, s0, s1]
            refine tkA 18 (v := ?_) (by simp only [gA, g1, g0]; rfl) (by kernel_rfl) (by exact fun _ _ _ h => h) (Or.inl ⟨by rfl, ?_⟩) (by assumption) ?_; rotate_left; focus (intro wq hSw; (try dsimp only at hSw); go_simp; all_goals (with_reducible rfl))
            try simp only [Act.put, sA, s0, s1]
            refine tkA 19 (v := ?_) (by simp only [gA, g1, g0]; rfl) (by kernel_rfl) (by exact fun _ _ _ h => h) (Or.inl ⟨by rfl, ?_⟩) (by assumption) ?_; rotate_left; focus (intro wq hSw; (try dsimp only at hSw); go_simp; all_goals (with_reducible rfl))
            try simp only [Act.put, sA, s0, s1]
            refine tkA 20 (by simp only [gA, g1, g0]; rfl) (by kernel_rfl) (by exact fun _ _ _ h => h) (yields_ld (ad := ⟨gc, 0, none⟩) (by rfl) _ rfl rfl (fun w' h => ld4 (h.cell (by simp) CB.out))) (by assumption) ?_; try simp only [Act.put, sA, s0, s1]
            refine tkA 21 (v := ?_) (by simp only [gA, g1, g0]; rfl) (by kernel_rfl) (by exact fun _ _ _ h => h) (Or.inl ⟨by rfl, ?_⟩) (by assumption) ?_; rotate_left; focus (intro wq hSw; (try dsimp only at hSw); go_simp; all_goals (with_reducible rfl))
            try simp only [Act.put, sA, s0, s1]
            refine tkA 22 (v := undef) (by simp only [gA, g1, g0]; rfl) (by kernel_rfl) (by exact fun _ _ _ h => h) (Or.inr ⟨by rfl, rfl⟩) (by assumption) ?_; try simp only [Act.put, sA, s0, s1]
            refine tkA 23 (v := undef) (by simp only [gA, g1, g0]; rfl) (by kernel_rfl) (by exact fun _ _ _ h => h) (Or.inr ⟨by rfl, rfl⟩) (by assumption) ?_; try simp only [Act.put, sA, s0, s1]
            refine tkA 24 (v := ?_) (by simp only [gA, g1, g0]; rfl) (by kernel_rfl) (by exact fun _ _ _ h => h) (Or.inl ⟨by rfl, ?_⟩) (by assumption) ?_; rotate_left; focus (intro wq hSw; (try dsimp only at hSw); go_simp; all_goals (with_reducible rfl))
            try simp only [Act.put, sA, s0, s1]
            refine tkA 25 (v := ?_) (by simp only [gA, g1, g0]; rfl) (by kernel_rfl) (by exact fun _ _ _ h => h) (Or.inl ⟨by rfl, ?_⟩) (by assumption) ?_; rotate_left; focus (intro wq hSw; (try dsimp only at hSw); go_simp; all_goals (with_reducible rfl))
            try simp only [Act.put, sA, s0, s1]
            refine tkA 26 (v := ?_) (by simp only [gA, g1, g0]; rfl) (by kernel_rfl) (by exact fun _ _ _ h => h) (Or.inl ⟨by rfl, ?_⟩) (by assumption) ?_; rotate_left; focus (intro wq hSw; (try dsimp only at hSw); go_simp; all_goals (with_reducible rfl))
            try simp only [Act.put, sA, s0, s1]
            refine tkA 27 (v := ?_) (by simp only [gA, g1, g0]; rfl) (by kernel_rfl) (by exact fun _ _ _ h => h) (Or.inl ⟨by rfl, ?_⟩) (by assumption) ?_; rotate_left; focus (intro wq hSw; (try dsimp only at hSw); go_simp; all_goals (with_reducible rfl))
            try simp only [Act.put, sA, s0, s1]
            refine tkA 28 (v := ?_) (by simp only [gA, g1, g0]; rfl) (by kernel_rfl) (by exact fun _ _ _ h => h) (Or.inl ⟨by rfl, ?_⟩) (by assumption) ?_; rotate_left; focus (intro wq hSw; (try dsimp only at hSw); go_simp; all_goals (with_reducible rfl))
            try simp only [Act.put, sA, s0, s1]
            refine tkA 29 (by simp only [gA, g1, g0]; rfl) (by kernel_rfl) (by exact fun _ _ _ h => h) (yields_ld (ad := ⟨g28, 2, none⟩) (by rfl) _ rfl rfl (fun w' h => ld42 (h.cell (by simp) D2.out))) (by assumption) ?_; try simp only [Act.put, sA, s0, s1]
            refine tkA 30 (v := ?_) (by simp only [gA, g1, g0]; rfl) (by kernel_rfl) (by exact fun _ _ _ h => h) (Or.inl ⟨by rfl, ?_⟩) (by assumption) ?_; rotate_left; focus (intro wq hSw; (try dsimp only at hSw); go_simp; all_goals (with_reducible rfl))
            try simp only [Act.put, sA, s0, s1]
            refine tkA 31 (v := ?_) (by simp only [gA, g1, g0]; rfl) (by kernel_rfl) (by exact fun _ _ _ h => h) (Or.inl ⟨by rfl, ?_⟩) (by assumption) ?_; rotate_left; focus (intro wq hSw; (try dsimp only at hSw); go_simp; all_goals (with_reducible rfl))
            try simp only [Act.put, sA, s0, s1]
            refine tkA 32 (v := ?_) (by simp only [gA, g1, g0]; rfl) (by kernel_rfl) (by exact fun _ _ _ h => h) (Or.inl ⟨by rfl, ?_⟩) (by assumption) ?_; rotate_left; focus (intro wq hSw; (try dsimp only at hSw); go_simp; all_goals (with_reducible rfl))
            try simp only [Act.put, sA, s0, s1]
            have HFV := Lib.hid hHeld
            clear hHeld
            refine wpAnyH_done (by kernel_rfl) ?_ _
            go_wp2_with fail
            go_meet
            exact ⟨rfl, HFV.out⟩
          | true =>
            cases sp with
            | false =>
              obtain rfl : ny = 1 := by rw [HNL.out]; rfl
              clear HNL
              go_wp2_with fail
              refine wp_region_held_drew (S := (fun w' => Away [] y9 w')) (by kernel_rfl) (by exact (Away.refl [] y9).drew) (fun hHeld => ?_)
              refine tkA 0 (v := ?_) (by simp only [gA, g1, g0]; rfl) (by kernel_rfl) (by exact fun _ _ _ h => h) (Or.inl ⟨by rfl, ?_⟩) (by assumption) ?_; rotate_left; focus (intro wq hSw; (try dsimp only at hSw); go_simp; all_goals (with_reducible rfl))
              try simp only [Act.put, sA, s0, s1]
              refine tkA 1 (v := ?_) (by simp only [gA, g1, g0]; rfl) (by kernel_rfl) (by exact fun _ _ _ h => h) (Or.inl ⟨by rfl, ?_⟩) (by assumption) ?_; rotate_left; focus (intro wq hSw; (try dsimp only at hSw); go_simp; all_goals (with_reducible rfl))
              try simp only [Act.put, sA, s0, s1]
              refine tkA 2 (v := ?_) (by simp only [gA, g1, g0]; rfl) (by kernel_rfl) (by exact fun _ _ _ h => h) (Or.inl ⟨by rfl, ?_⟩) (by assumption) ?_; rotate_left; focus (intro wq hSw; (try dsimp only at hSw); go_simp; all_goals (with_reducible rfl))
              try simp only [Act.put, sA, s0, s1]
              refine tkA 3 (v := ?_) (by simp only [gA, g1, g0]; rfl) (by kernel_rfl) (by exact fun _ _ _ h => h) (Or.inl ⟨by rfl, ?_⟩) (by assumption) ?_; rotate_left; focus (intro wq hSw; (try dsimp only at hSw); go_simp; all_goals (with_reducible rfl))
              try simp only [Act.put, sA, s0, s1]
              refine wpAnyH_ready (rs := [4]) (by kernel_rfl) (by simp) ?_
              refine AllReadyH.cons (by simp only [gA, g1, g0]; rfl) (fun K hK => ?_) AllReadyH.nil
              go_simp
              refine (KK.out _ hHeld).mono ?_
              rintro E v4 ⟨ka, kc, rfl, haw⟩
              have hb1 := hHeld.trans haw
              refine hK.out _ _ hb1 (fun hHeld => ?_)
              clear hK K haw hb1
              try simp only [Act.put, sA, s0, s1]
              refine tkA 5 (v := ?_) (by simp only [gA, g1, g0]; rfl) (by kernel_rfl) (by exact fun _ _ _ h => h) (Or.inl ⟨by rfl, ?_⟩) (by assumption) ?_; rotate_left; focus (intro wq hSw; (try dsimp only at hSw); go_simp; all_goals (with_reducible rfl))
              try simp only [Act.put, sA, s0, s1]
              refine tkA 6 (v := ?_) (by simp only [gA, g1, g0]; rfl) (by kernel_rfl) (by exact fun _ _ _ h => h) (Or.inl ⟨by rfl, ?_⟩) (by assumption) ?_; rotate_left; focus (intro wq hSw; (try dsimp only at hSw); go_simp; all_goals (with_reducible rfl))
              try simp only [Act.put, sA, s0, s1]
              refine tkA 7 (v := ?_) (by simp only [gA, g1, g0]; rfl) (by kernel_rfl) (by exact fun _ _ _ h => h) (Or.inl ⟨by rfl, ?_⟩) (by assumption) ?_; rotate_left; focus (intro wq hSw; (try dsimp only at hSw); go_simp; all_goals (with_reducible rfl))
              try simp only [Act.put, sA, s0, s1]
              refine tkA 8 (v := ?_) (by simp only [gA, g1, g0]; rfl) (by kernel_rfl) (by exact fun _ _ _ h => h) (Or.inl ⟨by rfl, ?_⟩) (by assumption) ?_; rotate_left; focus (intro wq hSw; (try dsimp only at hSw); go_simp; all_goals (with_reducible rfl))
              try simp only [Act.put, sA, s0, s1]
              refine tkA 9 (v := ?_) (by simp only [gA, g1, g0]; rfl) (by kernel_rfl) (by exact fun _ _ _ h => h) (Or.inl ⟨by rfl, ?_⟩) (by assumption) ?_; rotate_left; focus (intro wq hSw; (try dsimp only at hSw); go_simp; all_goals (with_reducible rfl))
              try simp only [Act.put, sA, s0, s1]
              refine wpAnyH_ready (rs := [10]) (by kernel_rfl) (by simp) ?_
              refine AllReadyH.cons (by simp only [gA, g1, g0]; rfl) (fun K hK => ?_) AllReadyH.nil
              go_simp
              refine (KB.out _ hHeld).mono ?_
              rintro E v10 ⟨rfl, hb1⟩
              refine hK.out _ _ hb1 (fun hHeld => ?_)
              clear hK K hb1
              try simp only [Act.put, sA, s0, s1]
              refine tkA 11 (v := ?_) (by simp only [gA, g1, g0]; rfl) (by kernel_rfl) (by exact fun _ _ _ h => h) (Or.inl ⟨by rfl, ?_⟩) (by assumption) ?_; rotate_left; focus (intro wq hSw; (try dsimp only at hSw); go_simp; all_goals (with_reducible rfl))
              try simp only [Act.put, sA, s0, s1]
              refine tkA 12 (v := ?_) (by simp only [gA, g1, g0]; rfl) (by kernel_rfl) (by exact fun _ _ _ h => h) (Or.inl ⟨by rfl, ?_⟩) (by assumption) ?_; rotate_left; focus (intro wq hSw; (try dsimp only at hSw); go_simp; all_goals (with_reducible rfl))
              try simp only [Act.put, sA, s0, s1]
              refine tkA 13 (v := ?_) (by simp only [gA, g1, g0]; rfl) (by kernel_rfl) (by exact fun _ _ _ h => h) (Or.inl ⟨by rfl, ?_⟩) (by assumption) ?_; rotate_left; focus (intro wq hSw; (try dsimp only at hSw); go_simp; all_goals (with_reducible rfl))
              try simp only [Act.put, sA, s0, s1]
              refine tkA 14 (v := ?_) (by simp only [gA, g1, g0]; rfl) (by kernel_rfl) (by exact fun _ _ _ h => h) (Or.inl ⟨by rfl, ?_⟩) (by assumption) ?_; rotate_left; focus (intro wq hSw; (try dsimp only at hSw); go_simp; all_goals (with_reducible rfl))
              try simp only [Act.put, sA, s0, s1]
              refine tkA 15 (by simp only [gA, g1, g0]; rfl) (by kernel_rfl) (by exact fun _ _ _ h => h) (yields_ld (ad := ⟨g28, 2, none⟩) (by rfl) _ rfl rfl (fun w' h => ld42 (h.cell (by simp) D2.out))) (by assumption) ?_; try simp only [Act.put, sA, s0, s1]
              refine tkA 16 (v := ?_) (by simp only [gA, g1, g0]; rfl) (by kernel_rfl) (by exact fun _ _ _ h => h) (Or.inl ⟨by rfl, ?_⟩) (by assumption) ?_; rotate_left; focus (intro wq hSw; (try dsimp only at hSw); go_simp; all_goals (with_reducible rfl))
              try simp only [Act.put, sA, s0, s1]
              refine tkA 17 (v := ?_) (by simp only [gA, g1, g0]; rfl) (by kernel_rfl) (by exact fun _ _ _ h => h) (Or.inl ⟨by rfl, ?_⟩) (by assumption) ?_; rotate_left; focus (intro wq hSw; (try dsimp only at hSw); go_simp; all_goals (with_reducible rfl))
              try simp only [Act.put, sA, s0, s1]
              refine tkA 18 (v := ?_) (by simp only [gA, g1, g0]; rfl) (by kernel_rfl) (by exact fun _ _ _ h => h) (Or.inl ⟨by rfl, ?_⟩) (by assumption) ?_; rotate_left; focus (intro wq hSw; (try dsimp only at hSw); go_simp; all_goals (with_reducible rfl))
              try simp only [Act.put, sA, s0, s1]
              refine tkA 19 (v := ?_) (by simp only [gA, g1, g0]; rfl) (by kernel_rfl) (by exact fun _ _ _ h => h) (Or.inl ⟨by rfl, ?_⟩) (by assumption) ?_; rotate_left; focus (intro wq hSw; (try dsimp only at hSw); go_simp; all_goals (with_reducible rfl))
              try simp only [Act.put, sA, s0, s1]
              refine tkA 20 (by simp only [gA, g1, g0]; rfl) (by kernel_rfl) (by exact fun _ _ _ h => h) (yields_ld (ad := ⟨gc, 0, none⟩) (by rfl) _ rfl rfl (fun w' h => ld4 (h.cell (by simp) CB.out))) (by assumption) ?_; try simp only [Act.put, sA, s0, s1]
              refine tkA 21 (v := ?_) (by simp only [gA, g1, g0]; rfl) (by kernel_rfl) (by exact fun _ _ _ h => h) (Or.inl ⟨by rfl, ?_⟩) (by assumption) ?_; rotate_left; focus (intro wq hSw; (try dsimp only at hSw); go_simp; all_goals (with_reducible rfl))
              try simp only [Act.put, sA, s0, s1]
              refine tkA 22 (v := ?_) (by simp only [gA, g1, g0]; rfl) (by kernel_rfl) (by exact fun _ _ _ h => h) (Or.inl ⟨by rfl, ?_⟩) (by assumption) ?_; rotate_left; focus (intro wq hSw; (try dsimp only at hSw); go_simp; all_goals (with_reducible rfl))
              try simp only [Act.put, sA, s0, s1]
              refine tkA 23 (v := ?_) (by simp only [gA, g1, g0]; rfl) (by kernel_rfl) (by exact fun _ _ _ h => h) (Or.inl ⟨by rfl, ?_⟩) (by assumption) ?_; rotate_left; focus (intro wq hSw; (try dsimp only at hSw); go_simp; all_goals (with_reducible rfl))
              try simp only [Act.put, sA, s0, s1]
              refine tkA 24 (v := ?_) (by simp only [gA, g1, g0]; rfl) (by kernel_rfl) (by exact fun _ _ _ h => h) (Or.inl ⟨by rfl, ?_⟩) (by assumption) ?_; rotate_left; focus (intro wq hSw; (try dsimp only at hSw); go_simp; all_goals (with_reducible rfl))
              try simp only [Act.put, sA, s0, s1]
              refine tkA 25 (v := ?_) (by simp only [gA, g1, g0]; rfl) (by kernel_rfl) (by exact fun _ _ _ h => h) (Or.inl ⟨by rfl, ?_⟩) (by assumption) ?_; rotate_left; focus (intro wq hSw; (try dsimp only at hSw); go_simp; all_goals (with_reducible rfl))
              try simp only [Act.put, sA, s0, s1]
              refine tkA 26 (v := ?_) (by simp only [gA, g1, g0]; rfl) (by kernel_rfl) (by exact fun _ _ _ h => h) (Or.inl ⟨by rfl, ?_⟩) (by assumption) ?_; rotate_left; focus (intro wq hSw; (try dsimp only at hSw); go_simp; all_goals (with_reducible rfl))
              try simp only [Act.put, sA, s0, s1]
              refine tkA 27 (v := ?_) (by simp only [gA, g1, g0]; rfl) (by kernel_rfl) (by exact fun _ _ _ h => h) (Or.inl ⟨by rfl, ?_⟩) (by assumption) ?_; rotate_left; focus (intro wq hSw; (try dsimp only at hSw); go_simp; all_goals (with_reducible rfl))
              try simp only [Act.put, sA, s0, s1]
              refine tkA 28 (v := ?_) (by simp only [gA, g1, g0]; rfl) (by kernel_rfl) (by exact fun _ _ _ h => h) (Or.inl ⟨by rfl, ?_⟩) (by assumption) ?_; rotate_left; focus (intro wq hSw; (try dsimp only at hSw); go_simp; all_goals (with_reducible rfl))
              try simp only [Act.put, sA, s0, s1]
              refine tkA 29 (by simp only [gA, g1, g0]; rfl) (by kernel_rfl) (by exact fun _ _ _ h => h) (yields_ld (ad := ⟨g28, 2, none⟩) (by rfl) _ rfl rfl (fun w' h => ld42 (h.cell (by simp) D2.out))) (by assumption) ?_; try simp only [Act.put, sA, s0, s1]
              refine tkA 30 (v := ?_) (by simp only [gA, g1, g0]; rfl) (by kernel_rfl) (by exact fun _ _ _ h => h) (Or.inl ⟨by rfl, ?_⟩) (by assumption) ?_; rotate_left; focus (intro wq hSw; (try dsimp only at hSw); go_simp; all_goals (with_reducible rfl))
              try simp only [Act.put, sA, s0, s1]
              refine tkA 31 (v := ?_) (by simp only [gA, g1, g0]; rfl) (by kernel_rfl) (by exact fun _ _ _ h => h) (Or.inl ⟨by rfl, ?_⟩) (by assumption) ?_; rotate_left; focus (intro wq hSw; (try dsimp only at hSw); go_simp; all_goals (with_reducible rfl))
              try simp only [Act.put, sA, s0, s1]
              refine tkA 32 (v := ?_) (by simp only [gA, g1, g0]; rfl) (by kernel_rfl) (by exact fun _ _ _ h => h) (Or.inl ⟨by rfl, ?_⟩) (by assumption) ?_; rotate_left; focus (intro wq hSw; (try dsimp only at hSw); go_simp; all_goals (with_reducible rfl))
              try simp only [Act.put, sA, s0, s1]
              have HFV := Lib.hid hHeld
              clear hHeld
              refine wpAnyH_done (by kernel_rfl) ?_ _
              go_wp2_with fail
              go_meet
              exact ⟨rfl, HFV.out⟩
            | true =>
              obtain rfl : ny = 0 := by rw [HNL.out]; rfl
              clear HNL
              go_wp2_with fail
              refine wp_region_held_drew (S := (fun w' => Away [] y9 w')) (by kernel_rfl) (by exact (Away.refl [] y9).drew) (fun hHeld => ?_)
              refine tkA 0 (v := ?_) (by simp only [gA, g1, g0]; rfl) (by kernel_rfl) (by exact fun _ _ _ h => h) (Or.inl ⟨by rfl, ?_⟩) (by assumption) ?_; rotate_left; focus (intro wq hSw; (try dsimp only at hSw); go_simp; all_goals (with_reducible rfl))
              try simp only [Act.put, sA, s0, s1]
              refine tkA 1 (v := ?_) (by simp only [gA, g1, g0]; rfl) (by kernel_rfl) (by exact fun _ _ _ h => h) (Or.inl ⟨by rfl, ?_⟩) (by assumption) ?_; rotate_left; focus (intro wq hSw; (try dsimp only at hSw); go_simp; all_goals (with_reducible rfl))
              try simp only [Act.put, sA, s0, s1]
              refine tkA 2 (v := ?_) (by simp only [gA, g1, g0]; rfl) (by kernel_rfl) (by exact fun _ _ _ h => h) (Or.inl ⟨by rfl, ?_⟩) (by assumption) ?_; rotate_left; focus (intro wq hSw; (try dsimp only at hSw); go_simp; all_goals (with_reducible rfl))
              try simp only [Act.put, sA, s0, s1]
              refine tkA 3 (v := ?_) (by simp only [gA, g1, g0]; rfl) (by kernel_rfl) (by exact fun _ _ _ h => h) (Or.inl ⟨by rfl, ?_⟩) (by assumption) ?_; rotate_left; focus (intro wq hSw; (try dsimp only at hSw); go_simp; all_goals (with_reducible rfl))
              try simp only [Act.put, sA, s0, s1]
              refine wpAnyH_ready (rs := [4]) (by kernel_rfl) (by simp) ?_
              refine AllReadyH.cons (by simp only [gA, g1, g0]; rfl) (fun K hK => ?_) AllReadyH.nil
              go_simp
              refine (KK.out _ hHeld).mono ?_
              rintro E v4 ⟨ka, kc, rfl, haw⟩
              have hb1 := hHeld.trans haw
              refine hK.out _ _ hb1 (fun hHeld => ?_)
              clear hK K haw hb1
              try simp only [Act.put, sA, s0, s1]
              refine tkA 5 (v := ?_) (by simp only [gA, g1, g0]; rfl) (by kernel_rfl) (by exact fun _ _ _ h => h) (Or.inl ⟨by rfl, ?_⟩) (by assumption) ?_; rotate_left; focus (intro wq hSw; (try dsimp only at hSw); go_simp; all_goals (with_reducible rfl))
              try simp only [Act.put, sA, s0, s1]
              refine tkA 6 (v := ?_) (by simp only [gA, g1, g0]; rfl) (by kernel_rfl) (by exact fun _ _ _ h => h) (Or.inl ⟨by rfl, ?_⟩) (by assumption) ?_; rotate_left; focus (intro wq hSw; (try dsimp only at hSw); go_simp; all_goals (with_reducible rfl))
              try simp only [Act.put, sA, s0, s1]
              refine tkA 7 (v := ?_) (by simp only [gA, g1, g0]; rfl) (by kernel_rfl) (by exact fun _ _ _ h => h) (Or.inl ⟨by rfl, ?_⟩) (by assumption) ?_; rotate_left; focus (intro wq hSw; (try dsimp only at hSw); go_simp; all_goals (with_reducible rfl))
              try simp only [Act.put, sA, s0, s1]
              refine tkA 8 (v := ?_) (by simp only [gA, g1, g0]; rfl) (by kernel_rfl) (by exact fun _ _ _ h => h) (Or.inl ⟨by rfl, ?_⟩) (by assumption) ?_; rotate_left; focus (intro wq hSw; (try dsimp only at hSw); go_simp; all_goals (with_reducible rfl))
              try simp only [Act.put, sA, s0, s1]
              refine tkA 9 (v := ?_) (by simp only [gA, g1, g0]; rfl) (by kernel_rfl) (by exact fun _ _ _ h => h) (Or.inl ⟨by rfl, ?_⟩) (by assumption) ?_; rotate_left; focus (intro wq hSw; (try dsimp only at hSw); go_simp; all_goals (with_reducible rfl))
              try simp only [Act.put, sA, s0, s1]
              refine wpAnyH_ready (rs := [10]) (by kernel_rfl) (by simp) ?_
              refine AllReadyH.cons (by simp only [gA, g1, g0]; rfl) (fun K hK => ?_) AllReadyH.nil
              go_simp
              refine (KB.out _ hHeld).mono ?_
              rintro E v10 ⟨rfl, hb1⟩
              refine hK.out _ _ hb1 (fun hHeld => ?_)
              clear hK K hb1
              try simp only [Act.put, sA, s0, s1]
              refine tkA 11 (v := ?_) (by simp only [gA, g1, g0]; rfl) (by kernel_rfl) (by exact fun _ _ _ h => h) (Or.inl ⟨by rfl, ?_⟩) (by assumption) ?_; rotate_left; focus (intro wq hSw; (try dsimp only at hSw); go_simp; all_goals (with_reducible rfl))
              try simp only [Act.put, sA, s0, s1]
              refine tkA 12 (v := ?_) (by simp only [gA, g1, g0]; rfl) (by kernel_rfl) (by exact fun _ _ _ h => h) (Or.inl ⟨by rfl, ?_⟩) (by assumption) ?_; rotate_left; focus (intro wq hSw; (try dsimp only at hSw); go_simp; all_goals (with_reducible rfl))
              try simp only [Act.put, sA, s0, s1]
              refine tkA 13 (v := ?_) (by simp only [gA, g1, g0]; rfl) (by kernel_rfl) (by exact fun _ _ _ h => h) (Or.inl ⟨by rfl, ?_⟩) (by assumption) ?_; rotate_left; focus (intro wq hSw; (try dsimp only at hSw); go_simp; all_goals (with_reducible rfl))
              try simp only [Act.put, sA, s0, s1]
              refine tkA 14 (v := ?_) (by simp only [gA, g1, g0]; rfl) (by kernel_rfl) (by exact fun _ _ _ h => h) (Or.inl ⟨by rfl, ?_⟩) (by assumption) ?_; rotate_left; focus (intro wq hSw; (try dsimp only at hSw); go_simp; all_goals (with_reducible rfl))
              try simp only [Act.put, sA, s0, s1]
              refine tkA 15 (by simp only [gA, g1, g0]; rfl) (by kernel_rfl) (by exact fun _ _ _ h => h) (yields_ld (ad := ⟨g28, 2, none⟩) (by rfl) _ rfl rfl (fun w' h => ld42 (h.cell (by simp) D2.out))) (by assumption) ?_; try simp only [Act.put, sA, s0, s1]
              refine tkA 16 (v := ?_) (by simp only [gA, g1, g0]; rfl) (by kernel_rfl) (by exact fun _ _ _ h => h) (Or.inl ⟨by rfl, ?_⟩) (by assumption) ?_; rotate_left; focus (intro wq hSw; (try dsimp only at hSw); go_simp; all_goals (with_reducible rfl))
              try simp only [Act.put, sA, s0, s1]
              refine tkA 17 (v := ?_) (by simp only [gA, g1, g0]; rfl) (by kernel_rfl) (by exact fun _ _ _ h => h) (Or.inl ⟨by rfl, ?_⟩) (by assumption) ?_; rotate_left; focus (intro wq hSw; (try dsimp only at hSw); go_simp; all_goals (with_reducible rfl))
              try simp only [Act.put, sA, s0, s1]
              refine tkA 18 (v := ?_) (by simp only [gA, g1, g0]; rfl) (by kernel_rfl) (by exact fun _ _ _ h => h) (Or.inl ⟨by rfl, ?_⟩) (by assumption) ?_; rotate_left; focus (intro wq hSw; (try dsimp only at hSw); go_simp; all_goals (with_reducible rfl))
              try simp only [Act.put, sA, s0, s1]
              refine tkA 19 (v := ?_) (by simp only [gA, g1, g0]; rfl) (by kernel_rfl) (by exact fun _ _ _ h => h) (Or.inl ⟨by rfl, ?_⟩) (by assumption) ?_; rotate_left; focus (intro wq hSw; (try dsimp only at hSw); go_simp; all_goals (with_reducible rfl))
              try simp only [Act.put, sA, s0, s1]
              refine tkA 20 (by simp only [gA, g1, g0]; rfl) (by kernel_rfl) (by exact fun _ _ _ h => h) (yields_ld (ad := ⟨gc, 0, none⟩) (by rfl) _ rfl rfl (fun w' h => ld4 (h.cell (by simp) CB.out))) (by assumption) ?_; try simp only [Act.put, sA, s0, s1]
              refine tkA 21 (v := ?_) (by simp only [gA, g1, g0]; rfl) (by kernel_rfl) (by exact fun _ _ _ h => h) (Or.inl ⟨by rfl, ?_⟩) (by assumption) ?_; rotate_left; focus (intro wq hSw; (try dsimp only at hSw); go_simp; all_goals (with_reducible rfl))
              try simp only [Act.put, sA, s0, s1]
              refine tkA 22 (v := ?_) (by simp only [gA, g1, g0]; rfl) (by kernel_rfl) (by exact fun _ _ _ h => h) (Or.inl ⟨by rfl, ?_⟩) (by assumption) ?_; rotate_left; focus (intro wq hSw; (try dsimp only at hSw); go_simp; all_goals (with_reducible rfl))
              try simp only [Act.put, sA, s0, s1]
              refine tkA 23 (v := ?_) (by simp only [gA, g1, g0]; rfl) (by kernel_rfl) (by exact fun _ _ _ h => h) (Or.inl ⟨by rfl, ?_⟩) (by assumption) ?_; rotate_left; focus (intro wq hSw; (try dsimp only at hSw); go_simp; all_goals (with_reducible rfl))
              try simp only [Act.put, sA, s0, s1]
              refine tkA 24 (v := ?_) (by simp only [gA, g1, g0]; rfl) (by kernel_rfl) (by exact fun _ _ _ h => h) (Or.inl ⟨by rfl, ?_⟩) (by assumption) ?_; rotate_left; focus (intro wq hSw; (try dsimp only at hSw); go_simp; all_goals (with_reducible rfl))
              try simp only [Act.put, sA, s0, s1]
              refine tkA 25 (v := ?_) (by simp only [gA, g1, g0]; rfl) (by kernel_rfl) (by exact fun _ _ _ h => h) (Or.inl ⟨by rfl, ?_⟩) (by assumption) ?_; rotate_left; focus (intro wq hSw; (try dsimp only at hSw); go_simp; all_goals (with_reducible rfl))
              try simp only [Act.put, sA, s0, s1]
              refine tkA 26 (v := ?_) (by simp only [gA, g1, g0]; rfl) (by kernel_rfl) (by exact fun _ _ _ h => h) (Or.inl ⟨by rfl, ?_⟩) (by assumption) ?_; rotate_left; focus (intro wq hSw; (try dsimp only at hSw); go_simp; all_goals (with_reducible rfl))
              try simp only [Act.put, sA, s0, s1]
              refine tkA 27 (v := ?_) (by simp only [gA, g1, g0]; rfl) (by kernel_rfl) (by exact fun _ _ _ h => h) (Or.inl ⟨by rfl, ?_⟩) (by assumption) ?_; rotate_left; focus (intro wq hSw; (try dsimp only at hSw); go_simp; all_goals (with_reducible rfl))
              try simp only [Act.put, sA, s0, s1]
              refine tkA 28 (v := ?_) (by simp only [gA, g1, g0]; rfl) (by kernel_rfl) (by exact fun _ _ _ h => h) (Or.inl ⟨by rfl, ?_⟩) (by assumption) ?_; rotate_left; focus (intro wq hSw; (try dsimp only at hSw); go_simp; all_goals (with_reducible rfl))
              try simp only [Act.put, sA, s0, s1]
              refine tkA 29 (by simp only [gA, g1, g0]; rfl) (by kernel_rfl) (by exact fun _ _ _ h => h) (yields_ld (ad := ⟨g28, 2, none⟩) (by rfl) _ rfl rfl (fun w' h => ld42 (h.cell (by simp) D2.out))) (by assumption) ?_; try simp only [Act.put, sA, s0, s1]
              refine tkA 30 (v := ?_) (by simp only [gA, g1, g0]; rfl) (by kernel_rfl) (by exact fun _ _ _ h => h) (Or.inl ⟨by rfl, ?_⟩) (by assumption) ?_; rotate_left; focus (intro wq hSw; (try dsimp only at hSw); go_simp; all_goals (with_reducible rfl))
              try simp only [Act.put, sA, s0, s1]
              refine tkA 31 (v := ?_) (by simp only [gA, g1, g0]; rfl) (by kernel_rfl) (by exact fun _ _ _ h => h) (Or.inl ⟨by rfl, ?_⟩) (by assumption) ?_; rotate_left; focus (intro wq hSw; (try dsimp only at hSw); go_simp; all_goals (with_reducible rfl))
              try simp only [Act.put, sA, s0, s1]
              refine tkA 32 (v := ?_) (by simp only [gA, g1, g0]; rfl) (by kernel_rfl) (by exact fun _ _ _ h => h) (Or.inl ⟨by rfl, ?_⟩) (by assumption) ?_; rotate_left; focus (intro wq hSw; (try dsimp only at hSw); go_simp; all_goals (with_reducible rfl))
              try simp only [Act.put, sA, s0, s1]
              have HFV := Lib.hid hHeld
              clear hHeld
              refine wpAnyH_done (by kernel_rfl) ?_ _
              go_wp2_with fail
              go_meet
              exact ⟨rfl, HFV.out⟩
        case rest =>
        as_aux_lemma =>
        obtain ⟨rfl, haw⟩ := hcut
        generalize wc = z1 at *
        replace HA := Lib.hid (HA.out.trans haw)
        replace HJ := Lib.hid (HJ.out.on haw)
        replace HBK := Lib.hid (HBK.out.on haw)
        replace HCW := Lib.hid (HCW.out.on haw)
        replace HBQ : Hid (BoxQ _ g13 Q0) := haw.keep (by simp) HBQ.out
        replace D2 : Hid (z1.cell? ⟨g28, 2, none⟩ = some (.slice la4 ny lc4)) := haw.cell (by simp) D2.out
        clear haw KK KB CB
        go_upto_region 44 with fail
        go_cut [239] (fun v wc => v = .bool false ∧ Away [] z1 wc)
        case first =>
          as_aux_lemma =>
          have HC : Hid (Away [] z1 z1.drew) := (Away.refl _ _).drew
          obtain ⟨bb, hbb⟩ : ∃ z, z = (b0 && !sp) := ⟨_, rfl⟩
          rw [← hbb] at HNL HCM
          clear hbb
          cases bb with
          | false =>
            obtain rfl : ny = 0 := by rw [HNL.out]; rfl
            clear HNL
            go_wp2_with fail
            refine wp_region_cls (C := fun w' => Away [] z1 w') (by kernel_rfl) (by kernel_rfl) HC.out ?_
            go_big_quiet_want; (refine quiet_val ?_ ?_ ?_; rotate_left; (intro w; go_simp; rfl); go_simp; go_big_quiet_on)
            go_big_quiet_want; refine quiet_ld _ rfl (ad := ⟨g28, 2, none⟩) rfl (fun w' h => ld42 (h.cell (by simp) D2.out)) ?_; go_simp; go_big_quiet_on
            iterate 3 (go_big_quiet_want; (refine quiet_val ?_ ?_ ?_; rotate_left; (intro w; go_simp; rfl); go_simp; go_big_quiet_on))
            iterate 9 (go_big_quiet_skip)
            go_big_quiet_want; (refine quiet_val ?_ ?_ ?_; rotate_left; (intro w; go_simp; rfl); go_simp; go_big_quiet_on)
            refine wpQuiet_nil ?_
            intro V hV
            go_wp2_with fail
            go_meet
            exact ⟨rfl, hV⟩
          | true =>
            obtain rfl : ny = 1 := by rw [HNL.out]; rfl
            clear HNL
            obtain ⟨q, rfl⟩ : ∃ q, ys = [q] := by
              have h := HNY.out
              match ys, h with
              | [q], _ => exact ⟨q, rfl⟩
            obtain ⟨qp, qo, qd⟩ := q
            obtain rfl : qp = zp := by
              have h2 : [qp] = [zp] := HCM.out
              simpa using h2
            obtain ⟨xb, xo, hxa, hrw, hkq⟩ := cuts_at (i := 0) HCW.out (by simp) rfl
            subst hxa
            have HRW := Lib.hid hrw
            have HKQ := Lib.hid hkq
            clear hrw hkq
            obtain ⟨ob, oo, hla, hrw2, hkz⟩ := cuts_at (i := 0) HJ.out.cu (by rw [← HNX.out]; omega) HZX.out
            subst hla
            have HRW2 := Lib.hid hrw2
            have HKZ := Lib.hid hkz
            have HZA : Hid (Ad qp) := hkz.wf.ad
            clear hrw2 hkz
            have KS : Hid (∀ W, Away [] z1 W → Calls Tryz.prog 24 #[.agg (csP qp qo qd), .agg (csP qp zo zd)] W fun E w'' => E = .returned (.bool true) ∧ Away [] z1 w'') := fun W hW => (samePk_yes qp qo qd zo zd W (HKQ.out.on hW) (HKZ.out.on hW)).mono (fun E w'' h => ⟨h.1, hW.trans h.2⟩)
            go_wp2_with fail
            refine wp_region_cls (C := fun w' => Away [] z1 w') (by kernel_rfl) (by kernel_rfl) HC.out ?_
            go_big_quiet_want; (refine quiet_val ?_ ?_ ?_; rotate_left; (intro w; go_simp; rfl); go_simp; go_big_quiet_on)
            go_big_quiet_want; refine quiet_ld _ rfl (ad := ⟨g28, 2, none⟩) rfl (fun w' h => ld42 (h.cell (by simp) D2.out)) ?_; go_simp; go_big_quiet_on
            iterate 4 (go_big_quiet_want; (refine quiet_val ?_ ?_ ?_; rotate_left; (intro w; go_simp; rfl); go_simp; go_big_quiet_on))
            go_big_quiet_want; refine quiet_ld _ rfl (ad := ⟨g28, 2, none⟩) rfl (fun w' h => ld42 (h.cell (by simp) D2.out)) ?_; go_simp; go_big_quiet_on
            go_big_quiet_want; (refine quiet_val ?_ ?_ ?_; rotate_left; (intro w; go_simp; rfl); go_simp; go_big_quiet_on)
            go_big_quiet_want; refine quiet_ld _ rfl (ad := ⟨xb, xo + 0 * 46, none⟩) rfl (fun w' h => load28m_run (range_away h (by simp) HRW.out) HZA.out) ?_; go_simp; go_big_quiet_on
            go_big_quiet_want; (refine quiet_val ?_ ?_ ?_; rotate_left; (intro w; go_simp; rfl); go_simp; go_big_quiet_on)
            go_big_quiet_want; (refine quiet_val ?_ ?_ ?_; rotate_left; (intro w; go_simp; rfl); go_simp; go_big_quiet_on)
            go_big_quiet_want; refine quiet_ld _ rfl (ad := ⟨ob, oo + 0 * 46, none⟩) rfl (fun w' h => load28m_run (range_away h (by simp) HRW2.out) HZA.out) ?_; go_simp; go_big_quiet_on
            go_big_quiet_want; refine quiet_call 24 #[.agg (csP qp qo qd), .agg (csP qp zo zd)] (.bool true) ?_ KS.out ?_
            focus (intro w; go_simp; done)
            go_simp; go_big_quiet_on
            go_big_quiet_want; (refine quiet_val ?_ ?_ ?_; rotate_left; (intro w; go_simp; rfl); go_simp; go_big_quiet_on)
            go_big_quiet_want; (refine quiet_val ?_ ?_ ?_; rotate_left; (intro w; go_simp; rfl); go_simp; go_big_quiet_on)
            refine wpQuiet_nil ?_
            intro V hV
            go_wp2_with fail
            go_meet
            exact ⟨rfl, hV⟩
        case rest =>
        as_aux_lemma =>
        obtain ⟨rfl, haw⟩ := hcut
        generalize wc = z2 at *
        replace HA := Lib.hid (HA.out.trans haw)
        replace HJ := Lib.hid (HJ.out.on haw)
        replace HBK := Lib.hid (HBK.out.on haw)
        replace HBQ : Hid (BoxQ _ g13 Q0) := haw.keep (by simp) HBQ.out
        clear haw D2 HCW HCB HCM HNL HNY HFS HTB
        go_wp2_with fail
        go_loopw [30, 31] (fun av iv wr => ∃ (b : Bool) (i : Nat), av = .bool b ∧ iv = .int .i64 (i : Int) ∧ i ≤ n ∧ wr = z2) (fun _ iv _ => n - (intOf iv).toNat)
        case atStart => exact ⟨true, 0, rfl, rfl, by omega, (by first | rfl | trivial)⟩
        case round =>
          as_aux_lemma =>
          obtain ⟨b, i, rfl, rfl, hi, hw'⟩ := hrel
          obtain rfl := hw'.symm
          clear hw'
          by_cases hlt : i < n
          · have j1 : (i : Int) < (n : Int) := by omega
            as_aux_lemma =>
            have j2 : 0 ≤ (i : Int) := by omega
            have j3 : ((i : Int)).toNat = i := by omega
            have w4 : IntKind.i64.wrap ((i : Int) + 1) = ((i + 1 : Nat) : Int) := by rw [IntKind.wrap_i64]; omega
            have cb : z2.cell? ⟨gc, i, none⟩ = some (.bool (B (i : Int))) := HBK.out.row i hlt
            obtain ⟨bi, hbi⟩ : ∃ z, z = B (i : Int) := ⟨_, rfl⟩
            rw [← hbi] at cb
            clear hbi
            cases b with
            | false =>
              go_wp2_with fail
              go_roundw
              case rel => exact ⟨false, i + 1, rfl, by go_num, by omega, (by first | rfl | trivial)⟩
              case measure => simp [intOf]; omega
            | true =>
              go_wp2_with fail
              go_roundw
              case rel => exact ⟨(!bi), i + 1, rfl, by go_num, by omega, (by first | rfl | trivial)⟩
              case measure => simp [intOf]; omega
          · obtain rfl : n = i := by omega
            as_aux_lemma =>
            have j1 : ¬ ((n : Int) < (n : Int)) := by omega
            go_wp2_with fail
            go_loopw [32] (fun iv wr => ∃ (i : Nat) (B2 : Int → Bool) (T : T4) (t : Int) (a : Option Es), iv = .int .i64 (i : Int) ∧ i ≤ n ∧ (∀ k : Nat, B2 (k : Int) = true → B (k : Int) = false) ∧ Wl p 9 (xs.map X.p) B2 a (3 + qt) ∧ 0 ≤ t ∧ t ≤ 3 + qt ∧ Bkn wr gc n B ∧ gc ∉ T.fp ∧ Jq w10 gT w5.heap.size w6.heap.size (.slice la n lc) xs Q0 T t a wr ∧ BoxQ wr g13 Q0 ∧ Away [] w wr) (fun iv _ => n - (intOf iv).toNat)
            case atStart => exact ⟨0, fun _ => false, T4_, 3 + qt, none, rfl, by omega, by simp, wl_none _ _ _ _, by omega, by omega, HBK.out, HGF3.out, HJ.out, HBQ.out, HA.out⟩
            case round =>
              as_aux_lemma =>
              clear HJ HBK HBQ HA HGF3
              obtain ⟨i, B2, T, t, a, rfl, hi, hb2, hwl, ht0, ht1, hbk, hgf, hj, hbq, ha⟩ := hrel
              have HB2 := Lib.hid hb2
              have HWL := Lib.hid hwl
              have HT : Hid (0 ≤ t ∧ t ≤ 3 + qt) := ⟨ht0, ht1⟩
              have HBK := Lib.hid hbk
              have HGF := Lib.hid hgf
              have HJ := Lib.hid hj
              have HBQ := Lib.hid hbq
              have HA := Lib.hid ha
              clear hb2 hwl ht0 ht1 hbk hgf hj hbq ha
              by_cases hlt : i < n
              · have j1 : (i : Int) < (n : Int) := by omega
                as_aux_lemma =>
                have j2 : 0 ≤ (i : Int) := by omega
                have j3 : ((i : Int)).toNat = i := by omega
                have w4 : IntKind.i64.wrap ((i : Int) + 1) = ((i + 1 : Nat) : Int) := by rw [IntKind.wrap_i64]; omega
                have cb : wr.cell? ⟨gc, i, none⟩ = some (.bool (B (i : Int))) := HBK.out.row i hlt
                obtain ⟨bi, hbi⟩ : ∃ z, z = B (i : Int) := ⟨_, rfl⟩
                rw [← hbi] at cb
                have HBI := Lib.hid hbi
                clear hbi
                cases bi with
                | true =>
                  go_wp2_with fail
                  go_roundw
                  case rel => exact ⟨i + 1, B2, T, t, a, by go_num, by omega, HB2.out, HWL.out, HT.out.1, HT.out.2, HBK.out, HGF.out, HJ.out, HBQ.out, HA.out⟩
                  case measure => simp [intOf]; omega
                | false =>
                  as_aux_lemma =>
                  obtain ⟨y, hy, hym⟩ := get_of (xs := xs) (k := i) (by rw [← HNX.out]; exact hlt)
                  obtain ⟨ob, oo, hla, hrow, hpk⟩ := cuts_at HJ.out.cu (by rw [← HNX.out]; omega) hy
                  subst hla
                  obtain ⟨yp, yo, yd⟩ := y
                  have hyl : (xs.map X.p)[i]? = some yp := by rw [List.getElem?_map, hy]; rfl
                  obtain ⟨hyr, hyo, hyw⟩ := HLQ.out.all yp (List.mem_of_getElem? hyl)
                  have HYK := Lib.hid hpk
                  have HYL := Lib.hid hyl
                  have HYR := Lib.hid hyr
                  have HYO := Lib.hid hyo
                  have HYW := Lib.hid hyw
                  have HYA : Hid (Ad yp) := hyw.ad
                  have HRW := Lib.hid hrow
                  clear hpk hyl hyr hyo hyw hy hym hrow
                  have HOB : Hid (ob ∉ T.fp) := fun hm => by rcases HJ.out.ap _ hm with h | h; (have h1 := HJ.out.cu.new ob rfl; omega); (have h1 := HJ.out.hi.1 ob rfl; omega)
                  obtain ⟨k0, hk0, hk0b⟩ := HSM.out
                  have hB20 : B2 (k0 : Int) = false := by cases h : B2 (k0 : Int) with | false => rfl | true => (have h1 := HB2.out k0 h; rw [hk0b] at h1; simp at h1)
                  have hk0i : k0 ≠ i := fun e => by rw [e, ← HBI.out] at hk0b; simp at hk0b
                  have HWP := Lib.hid (HWL.out.put HW.out HLQ.out HYL.out (by rw [List.length_map, ← HNX.out]; omega : k0 < (xs.map X.p).length) hk0i hB20)
                  clear hk0 hk0b hB20 hk0i
                  have HKYY := Lib.hid (HWL.out.ky HLQ.out (List.mem_of_getElem? HYL.out))
                  have HLT3 : Hid (∀ s, a = some s → 3 + qt - s.tb < Q0.t) := fun s hs => by obtain ⟨-, -, -, h⟩ := HWL.out; have h1 := h s hs; rw [h1, ← HQ.out]; omega
                  go_upto_region 55 with fail
                  clear cb
                  go_cut [33, 34] (fun vt ve wc => ∃ (g33 : Nat) (rs : Int) (wa : Option Addr) (wc1 : Nat) (lv gv : Value) (T3 : T4) (ra : Option Es), vt = .pointer (some ⟨g33, 0, none⟩) ∧ ve = .int .i64 0 ∧ BoxT wc g33 rs (.slice wa 0 wc1) lv gv ∧ Wl p 9 (xs.map X.p) (setB B2 i) ra (3 + qt) ∧ Bkn wc gc n B ∧ gc ∉ T3.fp ∧ Jq w10 gT w5.heap.size w6.heap.size (.slice (some ⟨ob, oo, none⟩) n lc) xs Q0 T3 (3 + qt) ra wc ∧ BoxQ wc g13 Q0 ∧ Away [] w wc)
                  case first =>
                    as_aux_lemma =>
                    have HQC : Hid (∀ W : World, BoxQ W g13 Q0 → W.cell? ⟨g13, 3, none⟩ = some (.int .i64 qt)) := fun W h => by rw [HQ.out]; exact cell_of_block h 3
                    have hdr : Away [] wr wr.drew := (Away.refl [] wr).drew
                    have HJc := Lib.hid (HJ.out.on hdr)
                    have HBc := Lib.hid (HBK.out.on hdr)
                    have HQc : Hid (BoxQ wr.drew g13 Q0) := HBQ.out
                    have HAc := Lib.hid (HA.out.trans hdr)
                    have HKc := Lib.hid (HYK.out.on hdr)
                    have HRc : Hid (wr.drew.rangeAt ob (oo + i * 46) (listP yp yo yd)) := range_away hdr (by simp) HRW.out
                    clear hdr
                    clear HJ HBK HBQ HA HYK HRW
                    refine wp_region_held_drew (S := (fun w' => w'.rangeAt ob (oo + i * 46) (listP yp yo yd) ∧ w'.cell? ⟨g13, 3, none⟩ = some (.int .i64 qt))) (by kernel_rfl) (by exact ⟨HRc.out, HQC.out _ HQc.out⟩) (fun hHeld => ?_)
                    refine tkA 0 (v := ?_) (by simp only [gA, g1, g0]; rfl) (by kernel_rfl) (by exact fun _ _ _ h => h) (Or.inl ⟨by rfl, ?_⟩) (by assumption) ?_; rotate_left; focus (intro wq hSw; (try dsimp only at hSw); go_simp; all_goals (with_reducible rfl))
                    try simp only [Act.put, sA, s0, s1]
                    refine tkA 1 (v := ?_) (by simp only [gA, g1, g0]; rfl) (by kernel_rfl) (by exact fun _ _ _ h => h) (Or.inl ⟨by rfl, ?_⟩) (by assumption) ?_; rotate_left; focus (intro wq hSw; (try dsimp only at hSw); go_simp; all_goals (with_reducible rfl))
                    try simp only [Act.put, sA, s0, s1]
                    refine tkA 2 (v := ?_) (by simp only [gA, g1, g0]; rfl) (by kernel_rfl) (by exact fun _ _ _ h => h) (Or.inl ⟨by rfl, ?_⟩) (by assumption) ?_; rotate_left; focus (intro wq hSw; (try dsimp only at hSw); go_simp; all_goals (with_reducible rfl))
                    try simp only [Act.put, sA, s0, s1]
                    refine tkA 3 (v := ?_) (by simp only [gA, g1, g0]; rfl) (by kernel_rfl) (by exact fun _ _ _ h => h) (Or.inl ⟨by rfl, ?_⟩) (by assumption) ?_; rotate_left; focus (intro wq hSw; (try dsimp only at hSw); go_simp; all_goals (with_reducible rfl))
                    try simp only [Act.put, sA, s0, s1]
                    refine tkA 4 (by simp only [gA, g1, g0]; rfl) (by kernel_rfl) (by exact fun _ _ _ h => h) (yields_ld (ad := ⟨ob, oo + i * 46, none⟩) (by rfl) _ rfl rfl (fun w' h => load28m_run h.1 HYA.out)) (by assumption) ?_; try simp only [Act.put, sA, s0, s1]
                    refine tkA 6 (v := ?_) (by simp only [gA, g1, g0]; rfl) (by kernel_rfl) (by exact fun _ _ _ h => h) (Or.inl ⟨by rfl, ?_⟩) (by assumption) ?_; rotate_left; focus (intro wq hSw; (try dsimp only at hSw); go_simp; all_goals (with_reducible rfl))
                    try simp only [Act.put, sA, s0, s1]
                    refine tkA 7 (by simp only [gA, g1, g0]; rfl) (by kernel_rfl) (by exact fun _ _ _ h => h) (yields_ld (ad := ⟨g13, 3, none⟩) (by rfl) _ rfl rfl (fun w' h => ld2i h.2)) (by assumption) ?_; try simp only [Act.put, sA, s0, s1]
                    refine tkA 8 (v := ?_) (by simp only [gA, g1, g0]; rfl) (by kernel_rfl) (by exact fun _ _ _ h => h) (Or.inl ⟨by rfl, ?_⟩) (by assumption) ?_; rotate_left; focus (intro wq hSw; (try dsimp only at hSw); go_simp; all_goals (with_reducible rfl))
                    try simp only [Act.put, sA, s0, s1]
                    refine wpAnyH_ready (rs := [5, 13]) (by kernel_rfl) (by simp) ?_
                    refine AllReadyH.cons (by simp only [gA, g1, g0]; rfl) (fun K hK => ?_) (AllReadyH.cons (by simp only [gA, g1, g0]; rfl) (fun K hK => ?_) AllReadyH.nil)
                    · go_simp
                      refine (own_e _ yp yo yd HKc.out).mono ?_
                      rintro E v5 ⟨io, jd, rfl, hmi, haw⟩
                      have HM := Lib.hid hmi
                      have hlt5 := HJc.out.lt
                      have HDF : Hid (∀ z, jd.ownBlock = some z → z ∉ T.fp) := fun z hz hm => by have h1 := hmi.nd z hz; have h2 := hlt5 z hm; omega
                      replace HRc := Lib.hid (range_away haw (by simp) HRc.out)
                      replace HQc : Hid (BoxQ _ g13 Q0) := haw.keep (by simp) HQc.out
                      replace HBc := Lib.hid (HBc.out.on haw)
                      replace HAc := Lib.hid (HAc.out.trans haw)
                      replace HJc := Lib.hid (HJc.out.on haw)
                      clear hmi haw hlt5
                      refine hK.out _ _ (by exact ⟨HRc.out, HQC.out _ HQc.out⟩) (fun hHeld => ?_)
                      clear hK K
                      try simp only [Act.put, sA, s0, s1]
                      refine wpAnyH_ready (rs := [9, 13]) (by kernel_rfl) (by simp) ?_
                      refine AllReadyH.cons (by simp only [gA, g1, g0]; rfl) (fun K hK => ?_) (AllReadyH.cons (by simp only [gA, g1, g0]; rfl) (fun K hK => ?_) AllReadyH.nil)
                      · go_simp
                        refine (HJc.out.put (now := 3 + qt) HQB.out ⟨HT.out.1, HT.out.2, by omega⟩ HLT3.out (HG.out.on HAc.out) (HM.out.pkt HYW.out) HYO.out HDF.out HYR.out HKYY.out).mono ?_
                        rintro E v9 ⟨wa, wc1, ta, tc, ga, gc2, nw, T3, rfl, hnw, hj3, hfp, haw⟩
                        have HNW : Hid (nw = 0) := by
                          have h : (apQ (3 + qt) a yp).2.1 = [] := HWP.out.1
                          rw [h] at hnw
                          exact hnw
                        obtain rfl : nw = 0 := HNW.out
                        have HGF3 : Hid (gc ∉ T3.fp) := fun hm => by
                          rcases hfp _ hm with h1 | h1
                          · exact HGF.out h1
                          · have h2 := HBc.out.lt; omega
                        replace HRc := Lib.hid (range_away haw HOB.out HRc.out)
                        replace HQc : Hid (BoxQ v9 g13 Q0) := haw.keep (fun hm => by have h1 := HJc.out.ts.new _ hm; have h2 := HN7.out.1; omega) HQc.out
                        replace HBc := Lib.hid (HBc.out.away haw HGF.out)
                        replace HAc : Hid (Away [] w v9) := HAc.out.next haw (fun z hz => .inr (Nat.le_trans HN7.out.2.2.1 (HJc.out.ts.new z hz)))
                        replace HJc := Lib.hid hj3
                        clear hnw hj3 hfp haw HNW HM HDF
                        refine hK.out _ _ (by exact ⟨HRc.out, HQC.out _ HQc.out⟩) (fun hHeld => ?_)
                        clear hK K
                        try simp only [Act.put, sA, s0, s1]
                        refine tkA 10 (v := ?_) (by simp only [gA, g1, g0]; rfl) (by kernel_rfl) (by exact fun _ _ _ h => h) (Or.inl ⟨by rfl, ?_⟩) (by assumption) ?_; rotate_left; focus (intro wq hSw; (try dsimp only at hSw); go_simp; all_goals (with_reducible rfl))
                        try simp only [Act.put, sA, s0, s1]
                        refine tkA 11 (v := ?_) (by simp only [gA, g1, g0]; rfl) (by kernel_rfl) (by exact fun _ _ _ h => h) (Or.inl ⟨by rfl, ?_⟩) (by assumption) ?_; rotate_left; focus (intro wq hSw; (try dsimp only at hSw); go_simp; all_goals (with_reducible rfl))
                        try simp only [Act.put, sA, s0, s1]
                        refine tkA 12 (v := ?_) (by simp only [gA, g1, g0]; rfl) (by kernel_rfl) (by exact fun _ _ _ h => h) (Or.inl ⟨by rfl, ?_⟩) (by assumption) ?_; rotate_left; focus (intro wq hSw; (try dsimp only at hSw); go_simp; all_goals (with_reducible rfl))
                        try simp only [Act.put, sA, s0, s1]
                        refine wpAnyH_ready (rs := [13]) (by kernel_rfl) (by simp) ?_
                        refine AllReadyH.cons (by simp only [gA, g1, g0]; rfl) (fun K hK => ?_) AllReadyH.nil
                        refine step_alloc44 rfl rfl ?_
                        intro g33 v13 hg33 hb haw
                        have HB33 := Lib.hid hb
                        have HF33b : Hid (g33 ∉ T3.fp) := fun hm => by have := HJc.out.lt _ hm; omega
                        have HN33 : Hid (gc ≠ g33 ∧ w6.heap.size ≤ g33 ∧ w10.heap.size ≤ g33) := ⟨fun e => by have h := HBc.out.lt; omega, Nat.le_trans HJc.out.sz hg33, Nat.le_trans HJc.out.aw.size hg33⟩
                        have HOB3 : Hid (ob ≠ g33) := fun e => by have h1 := HJc.out.hi.1 ob rfl; have h2 := HN33.out.2.1; omega
                        replace HRc := Lib.hid (range_away haw (by simp) HRc.out)
                        replace HQc : Hid (BoxQ _ g13 Q0) := haw.keep (by simp) HQc.out
                        replace HBc := Lib.hid (HBc.out.on haw)
                        replace HAc := Lib.hid (HAc.out.trans haw)
                        replace HJc := Lib.hid (HJc.out.on haw)
                        clear hb haw hg33
                        refine hK.out _ _ (by exact ⟨HRc.out, HQC.out _ HQc.out⟩) (fun hHeld => ?_)
                        clear hK K
                        try simp only [Act.put, sA, s0, s1]
                        refine wpAnyH_ready (rs := [14]) (by kernel_rfl) (by simp) ?_
                        refine AllReadyH.cons (by simp only [gA, g1, g0]; rfl) (fun K hK => ?_) AllReadyH.nil
                        refine step_store44 rfl _ _ rfl g33 rfl _ (.slice wa 0 wc1) (.slice ta 0 tc) (.slice ga 0 gc2) rfl 0 nilV nilV nilV (by exact HB33.out) rfl rfl rfl ?_
                        intro v14 hb haw
                        replace HB33 := Lib.hid hb
                        replace HRc := Lib.hid (range_away haw (by simpa using HOB3.out) HRc.out)
                        replace HQc : Hid (BoxQ v14 g13 Q0) := haw.keep (by simp; have h1 := HN7.out.1; have h2 := HN33.out.2.2; omega) HQc.out
                        replace HBc := Lib.hid (HBc.out.away haw (by simpa using HN33.out.1))
                        replace HAc : Hid (Away [] w v14) := HAc.out.next haw (fun z hz => .inr (by simp at hz; rw [hz]; exact Nat.le_trans HN7.out.2.2.1 HN33.out.2.2))
                        replace HJc := Lib.hid (HJc.out.other haw HF33b.out HN33.out.2.2 HN33.out.2.1)
                        clear hb haw
                        refine hK.out _ _ (by exact ⟨HRc.out, HQC.out _ HQc.out⟩) (fun hHeld => ?_)
                        clear hK K
                        try simp only [Act.put]
                        refine tkA 15 (v := ?_) (by simp only [gA, g1, g0]; rfl) (by kernel_rfl) (by exact fun _ _ _ h => h) (Or.inl ⟨by rfl, ?_⟩) (by assumption) ?_; rotate_left; focus (intro wq hSw; (try dsimp only at hSw); go_simp; all_goals (with_reducible rfl))
                        try simp only [Act.put, sA, s0, s1]
                        clear hHeld
                        refine wpAnyH_done (by kernel_rfl) ?_ _
                        go_wp2_with fail
                        go_meet
                        exact ⟨g33, _, wa, wc1, _, _, T3, _, rfl, rfl, HB33.out, HWP.out.2, HBc.out, HGF3.out, HJc.out, HQc.out, HAc.out⟩
                      · refine step_alloc44 rfl rfl ?_
                        intro g33 v13 hg33 hb haw
                        have HB33 := Lib.hid hb
                        have HF33 : Hid (g33 ∉ T.fp) := fun hm => by have := HJc.out.lt _ hm; omega
                        have HN33 : Hid (gc ≠ g33 ∧ w6.heap.size ≤ g33 ∧ w10.heap.size ≤ g33) := ⟨fun e => by have h := HBc.out.lt; omega, Nat.le_trans HJc.out.sz hg33, Nat.le_trans HJc.out.aw.size hg33⟩
                        have HOB3 : Hid (ob ≠ g33) := fun e => by have h1 := HJc.out.hi.1 ob rfl; have h2 := HN33.out.2.1; omega
                        replace HRc := Lib.hid (range_away haw (by simp) HRc.out)
                        replace HQc : Hid (BoxQ _ g13 Q0) := haw.keep (by simp) HQc.out
                        replace HBc := Lib.hid (HBc.out.on haw)
                        replace HAc := Lib.hid (HAc.out.trans haw)
                        replace HJc := Lib.hid (HJc.out.on haw)
                        replace HM := Lib.hid (HM.out.on haw)
                        clear hb haw hg33
                        refine hK.out _ _ (by exact ⟨HRc.out, HQC.out _ HQc.out⟩) (fun hHeld => ?_)
                        clear hK K
                        try simp only [Act.put, sA, s0, s1]
                        refine wpAnyH_ready (rs := [9]) (by kernel_rfl) (by simp) ?_
                        refine AllReadyH.cons (by simp only [gA, g1, g0]; rfl) (fun K hK => ?_) AllReadyH.nil
                        go_simp
                        refine (HJc.out.put (now := 3 + qt) HQB.out ⟨HT.out.1, HT.out.2, by omega⟩ HLT3.out (HG.out.on HAc.out) (HM.out.pkt HYW.out) HYO.out HDF.out HYR.out HKYY.out).mono ?_
                        rintro E v9 ⟨wa, wc1, ta, tc, ga, gc2, nw, T3, rfl, hnw, hj3, hfp, haw⟩
                        have HNW : Hid (nw = 0) := by
                          have h : (apQ (3 + qt) a yp).2.1 = [] := HWP.out.1
                          rw [h] at hnw
                          exact hnw
                        obtain rfl : nw = 0 := HNW.out
                        have HGF3 : Hid (gc ∉ T3.fp) := fun hm => by
                          rcases hfp _ hm with h1 | h1
                          · exact HGF.out h1
                          · have h2 := HBc.out.lt; omega
                        have HF33b : Hid (g33 ∉ T3.fp) := fun hm => by
                          rcases hfp _ hm with h1 | h1
                          · exact HF33.out h1
                          · have h2 := HB33.out.lt; omega
                        replace HB33 := Lib.hid (HB33.out.keep haw HF33.out)
                        replace HRc := Lib.hid (range_away haw HOB.out HRc.out)
                        replace HQc : Hid (BoxQ v9 g13 Q0) := haw.keep (fun hm => by have h1 := HJc.out.ts.new _ hm; have h2 := HN7.out.1; omega) HQc.out
                        replace HBc := Lib.hid (HBc.out.away haw HGF.out)
                        replace HAc : Hid (Away [] w v9) := HAc.out.next haw (fun z hz => .inr (Nat.le_trans HN7.out.2.2.1 (HJc.out.ts.new z hz)))
                        replace HJc := Lib.hid hj3
                        clear hnw hj3 hfp haw HNW HM HDF
                        refine hK.out _ _ (by exact ⟨HRc.out, HQC.out _ HQc.out⟩) (fun hHeld => ?_)
                        clear hK K
                        try simp only [Act.put, sA, s0, s1]
                        refine tkA 10 (v := ?_) (by simp only [gA, g1, g0]; rfl) (by kernel_rfl) (by exact fun _ _ _ h => h) (Or.inl ⟨by rfl, ?_⟩) (by assumption) ?_; rotate_left; focus (intro wq hSw; (try dsimp only at hSw); go_simp; all_goals (with_reducible rfl))
                        try simp only [Act.put, sA, s0, s1]
                        refine tkA 11 (v := ?_) (by simp only [gA, g1, g0]; rfl) (by kernel_rfl) (by exact fun _ _ _ h => h) (Or.inl ⟨by rfl, ?_⟩) (by assumption) ?_; rotate_left; focus (intro wq hSw; (try dsimp only at hSw); go_simp; all_goals (with_reducible rfl))
                        try simp only [Act.put, sA, s0, s1]
                        refine tkA 12 (v := ?_) (by simp only [gA, g1, g0]; rfl) (by kernel_rfl) (by exact fun _ _ _ h => h) (Or.inl ⟨by rfl, ?_⟩) (by assumption) ?_; rotate_left; focus (intro wq hSw; (try dsimp only at hSw); go_simp; all_goals (with_reducible rfl))
                        try simp only [Act.put, sA, s0, s1]
                        refine wpAnyH_ready (rs := [14]) (by kernel_rfl) (by simp) ?_
                        refine AllReadyH.cons (by simp only [gA, g1, g0]; rfl) (fun K hK => ?_) AllReadyH.nil
                        refine step_store44 rfl _ _ rfl g33 rfl _ (.slice wa 0 wc1) (.slice ta 0 tc) (.slice ga 0 gc2) rfl 0 nilV nilV nilV (by exact HB33.out) rfl rfl rfl ?_
                        intro v14 hb haw
                        replace HB33 := Lib.hid hb
                        replace HRc := Lib.hid (range_away haw (by simpa using HOB3.out) HRc.out)
                        replace HQc : Hid (BoxQ v14 g13 Q0) := haw.keep (by simp; have h1 := HN7.out.1; have h2 := HN33.out.2.2; omega) HQc.out
                        replace HBc := Lib.hid (HBc.out.away haw (by simpa using HN33.out.1))
                        replace HAc : Hid (Away [] w v14) := HAc.out.next haw (fun z hz => .inr (by simp at hz; rw [hz]; exact Nat.le_trans HN7.out.2.2.1 HN33.out.2.2))
                        replace HJc := Lib.hid (HJc.out.other haw HF33b.out HN33.out.2.2 HN33.out.2.1)
                        clear hb haw
                        refine hK.out _ _ (by exact ⟨HRc.out, HQC.out _ HQc.out⟩) (fun hHeld => ?_)
                        clear hK K
                        try simp only [Act.put]
                        refine tkA 15 (v := ?_) (by simp only [gA, g1, g0]; rfl) (by kernel_rfl) (by exact fun _ _ _ h => h) (Or.inl ⟨by rfl, ?_⟩) (by assumption) ?_; rotate_left; focus (intro wq hSw; (try dsimp only at hSw); go_simp; all_goals (with_reducible rfl))
                        try simp only [Act.put, sA, s0, s1]
                        clear hHeld
                        refine wpAnyH_done (by kernel_rfl) ?_ _
                        go_wp2_with fail
                        go_meet
                        exact ⟨g33, _, wa, wc1, _, _, T3, _, rfl, rfl, HB33.out, HWP.out.2, HBc.out, HGF3.out, HJc.out, HQc.out, HAc.out⟩
                    · refine step_alloc44 rfl rfl ?_
                      intro g33 v13 hg33 hb haw
                      have HB33 := Lib.hid hb
                      have HF33 : Hid (g33 ∉ T.fp) := fun hm => by have := HJc.out.lt _ hm; omega
                      have HN33 : Hid (gc ≠ g33 ∧ w6.heap.size ≤ g33 ∧ w10.heap.size ≤ g33) := ⟨fun e => by have h := HBc.out.lt; omega, Nat.le_trans HJc.out.sz hg33, Nat.le_trans HJc.out.aw.size hg33⟩
                      have HOB3 : Hid (ob ≠ g33) := fun e => by have h1 := HJc.out.hi.1 ob rfl; have h2 := HN33.out.2.1; omega
                      replace HRc := Lib.hid (range_away haw (by simp) HRc.out)
                      replace HQc : Hid (BoxQ _ g13 Q0) := haw.keep (by simp) HQc.out
                      replace HBc := Lib.hid (HBc.out.on haw)
                      replace HAc := Lib.hid (HAc.out.trans haw)
                      replace HJc := Lib.hid (HJc.out.on haw)
                      replace HKc := Lib.hid (HKc.out.on haw)
                      clear hb haw hg33
                      refine hK.out _ _ (by exact ⟨HRc.out, HQC.out _ HQc.out⟩) (fun hHeld => ?_)
                      clear hK K
                      try simp only [Act.put, sA, s0, s1]
                      refine wpAnyH_ready (rs := [5]) (by kernel_rfl) (by simp) ?_
                      refine AllReadyH.cons (by simp only [gA, g1, g0]; rfl) (fun K hK => ?_) AllReadyH.nil
                      go_simp
                      refine (own_e _ yp yo yd HKc.out).mono ?_
                      rintro E v5 ⟨io, jd, rfl, hmi, haw⟩
                      have HM := Lib.hid hmi
                      have hlt5 := HJc.out.lt
                      have HDF : Hid (∀ z, jd.ownBlock = some z → z ∉ T.fp) := fun z hz hm => by have h1 := hmi.nd z hz; have h2 := hlt5 z hm; omega
                      replace HRc := Lib.hid (range_away haw (by simp) HRc.out)
                      replace HQc : Hid (BoxQ _ g13 Q0) := haw.keep (by simp) HQc.out
                      replace HBc := Lib.hid (HBc.out.on haw)
                      replace HAc := Lib.hid (HAc.out.trans haw)
                      replace HJc := Lib.hid (HJc.out.on haw)
                      replace HB33 := Lib.hid (HB33.out.keep haw (by simp))
                      clear hmi haw hlt5
                      refine hK.out _ _ (by exact ⟨HRc.out, HQC.out _ HQc.out⟩) (fun hHeld => ?_)
                      clear hK K
                      try simp only [Act.put, sA, s0, s1]
                      refine wpAnyH_ready (rs := [9]) (by kernel_rfl) (by simp) ?_
                      refine AllReadyH.cons (by simp only [gA, g1, g0]; rfl) (fun K hK => ?_) AllReadyH.nil
                      go_simp
                      refine (HJc.out.put (now := 3 + qt) HQB.out ⟨HT.out.1, HT.out.2, by omega⟩ HLT3.out (HG.out.on HAc.out) (HM.out.pkt HYW.out) HYO.out HDF.out HYR.out HKYY.out).mono ?_
                      rintro E v9 ⟨wa, wc1, ta, tc, ga, gc2, nw, T3, rfl, hnw, hj3, hfp, haw⟩
                      have HNW : Hid (nw = 0) := by
                        have h : (apQ (3 + qt) a yp).2.1 = [] := HWP.out.1
                        rw [h] at hnw
                        exact hnw
                      obtain rfl : nw = 0 := HNW.out
                      have HGF3 : Hid (gc ∉ T3.fp) := fun hm => by
                        rcases hfp _ hm with h1 | h1
                        · exact HGF.out h1
                        · have h2 := HBc.out.lt; omega
                      have HF33b : Hid (g33 ∉ T3.fp) := fun hm => by
                        rcases hfp _ hm with h1 | h1
                        · exact HF33.out h1
                        · have h2 := HB33.out.lt; omega
                      replace HB33 := Lib.hid (HB33.out.keep haw HF33.out)
                      replace HRc := Lib.hid (range_away haw HOB.out HRc.out)
                      replace HQc : Hid (BoxQ v9 g13 Q0) := haw.keep (fun hm => by have h1 := HJc.out.ts.new _ hm; have h2 := HN7.out.1; omega) HQc.out
                      replace HBc := Lib.hid (HBc.out.away haw HGF.out)
                      replace HAc : Hid (Away [] w v9) := HAc.out.next haw (fun z hz => .inr (Nat.le_trans HN7.out.2.2.1 (HJc.out.ts.new z hz)))
                      replace HJc := Lib.hid hj3
                      clear hnw hj3 hfp haw HNW HM HDF
                      refine hK.out _ _ (by exact ⟨HRc.out, HQC.out _ HQc.out⟩) (fun hHeld => ?_)
                      clear hK K
                      try simp only [Act.put, sA, s0, s1]
                      refine tkA 10 (v := ?_) (by simp only [gA, g1, g0]; rfl) (by kernel_rfl) (by exact fun _ _ _ h => h) (Or.inl ⟨by rfl, ?_⟩) (by assumption) ?_; rotate_left; focus (intro wq hSw; (try dsimp only at hSw); go_simp; all_goals (with_reducible rfl))
                      try simp only [Act.put, sA, s0, s1]
                      refine tkA 11 (v := ?_) (by simp only [gA, g1, g0]; rfl) (by kernel_rfl) (by exact fun _ _ _ h => h) (Or.inl ⟨by rfl, ?_⟩) (by assumption) ?_; rotate_left; focus (intro wq hSw; (try dsimp only at hSw); go_simp; all_goals (with_reducible rfl))
                      try simp only [Act.put, sA, s0, s1]
                      refine tkA 12 (v := ?_) (by simp only [gA, g1, g0]; rfl) (by kernel_rfl) (by exact fun _ _ _ h => h) (Or.inl ⟨by rfl, ?_⟩) (by assumption) ?_; rotate_left; focus (intro wq hSw; (try dsimp only at hSw); go_simp; all_goals (with_reducible rfl))
                      try simp only [Act.put, sA, s0, s1]
                      refine wpAnyH_ready (rs := [14]) (by kernel_rfl) (by simp) ?_
                      refine AllReadyH.cons (by simp only [gA, g1, g0]; rfl) (fun K hK => ?_) AllReadyH.nil
                      refine step_store44 rfl _ _ rfl g33 rfl _ (.slice wa 0 wc1) (.slice ta 0 tc) (.slice ga 0 gc2) rfl 0 nilV nilV nilV (by exact HB33.out) rfl rfl rfl ?_
                      intro v14 hb haw
                      replace HB33 := Lib.hid hb
                      replace HRc := Lib.hid (range_away haw (by simpa using HOB3.out) HRc.out)
                      replace HQc : Hid (BoxQ v14 g13 Q0) := haw.keep (by simp; have h1 := HN7.out.1; have h2 := HN33.out.2.2; omega) HQc.out
                      replace HBc := Lib.hid (HBc.out.away haw (by simpa using HN33.out.1))
                      replace HAc : Hid (Away [] w v14) := HAc.out.next haw (fun z hz => .inr (by simp at hz; rw [hz]; exact Nat.le_trans HN7.out.2.2.1 HN33.out.2.2))
                      replace HJc := Lib.hid (HJc.out.other haw HF33b.out HN33.out.2.2 HN33.out.2.1)
                      clear hb haw
                      refine hK.out _ _ (by exact ⟨HRc.out, HQC.out _ HQc.out⟩) (fun hHeld => ?_)
                      clear hK K
                      try simp only [Act.put]
                      refine tkA 15 (v := ?_) (by simp only [gA, g1, g0]; rfl) (by kernel_rfl) (by exact fun _ _ _ h => h) (Or.inl ⟨by rfl, ?_⟩) (by assumption) ?_; rotate_left; focus (intro wq hSw; (try dsimp only at hSw); go_simp; all_goals (with_reducible rfl))
                      try simp only [Act.put, sA, s0, s1]
                      clear hHeld
                      refine wpAnyH_done (by kernel_rfl) ?_ _
                      go_wp2_with fail
                      go_meet
                      exact ⟨g33, _, wa, wc1, _, _, T3, _, rfl, rfl, HB33.out, HWP.out.2, HBc.out, HGF3.out, HJc.out, HQc.out, HAc.out⟩
                  case rest =>
                  as_aux_lemma =>
                  clear HJ HBK HBQ HA HYK HRW HWP HOB HKYY HLT3 HWL
                  obtain ⟨g33, rs, wa, wc1, lv, gv, T3, ra, rfl, rfl, hbt, hwl, hbk, hgf, hj, hbq, ha⟩ := hcut
                  generalize wc = y20 at *
                  have HWL := Lib.hid hwl
                  have HBK := Lib.hid hbk
                  have HGF3 := Lib.hid hgf
                  have HJ := Lib.hid hj
                  have HBQ := Lib.hid hbq
                  have HA := Lib.hid ha
                  have d1 : y20.cell? ⟨g33, 1, none⟩ = some (.slice wa 0 wc1) := cell_of_block hbt 1
                  clear hwl hbk hgf hj hbq ha hbt
                  go_upto_region 56 with fail
                  go_cut [288] (fun v wc => v = .bool false ∧ wc = y20)
                  case first =>
                    as_aux_lemma =>
                    go_wp2_with fail
                    go_meet
                    exact ⟨rfl, rfl⟩
                  case rest =>
                  as_aux_lemma =>
                  obtain ⟨rfl, hw'⟩ := hcut
                  obtain rfl := hw'.symm
                  clear hw' d1
                  go_wp2_with fail
                  go_roundw
                  case rel => exact ⟨i + 1, setB B2 i, T3, 3 + qt, ra, by go_num, by omega, fun k hk => by
                    by_cases h : k = i
                    · rw [h]; exact HBI.out.symm
                    · rw [setB_ne h] at hk; exact HB2.out k hk, HWL.out, by omega, by omega, HBK.out, HGF3.out, HJ.out, HBQ.out, HA.out⟩
                  case measure => simp [intOf]; omega
              · obtain rfl : n = i := by omega
                have j1 : ¬ ((n : Int) < (n : Int)) := by omega
                go_wp2_with fail
                go_ret
                exact ⟨rfl, HA.out.to_below⟩
end tableLate
open R
namespace tableLate
theorem contract (H : Type) (enc : TypeId × Value → H) (W : World) (base : Nat) (args : Array Value) (ds gs : List (DataW H)) (before : List MemPlace)
    (hval0 : ∀ (j : Nat) t v, Tryz.f4.params[j]? = some t → args[j]? = some v → Value.okWide Tryz.prog W .any base t v)
    (hW : DataW.Whole enc Tryz.prog Tryz.f4.params.toList Rows.tableLateSpec.vars false W args.toList ds gs before)
    (hsz0 : (DataW.weightsEach Tryz.prog (Tryz.f4.params.toList ++ Rows.tableLateSpec.plain.varTypes Tryz.prog) (ds ++ gs)).all (· ≤ reachBytes) = true)
    (hL : laidMetH Tryz.prog Rows.tableLateRow.laid W) :
    Calls Tryz.prog 4 args W fun e W' => ∃ v, e = .returned v ∧ Rows.tableLateSpec.post enc Tryz.prog Tryz.f4 false true false false W args v W' := by
  have hval := hval0
  have hsz := hsz0
  have hW' := hW
  obtain ⟨p, q, hA0, hV, rfl, hfz, hnd⟩ := hW
  have hA : DataW.TrodAll enc Tryz.prog W 0 (fun _ => true) true Tryz.f4.params.toList args.toList ds p := hA0
  rw [Tryz.params4] at hA hval hsz
  obtain ⟨v0, vs0, d0, ds0, p0, q0, hargs, rfl, rfl, h0, r0⟩ := trodAll_cons hA
  obtain ⟨v1, vs1, d1, ds1, p1, q1, rfl, rfl, rfl, h1, r1⟩ := trodAll_cons r0
  obtain ⟨v2, vs2, d2, ds2, p2, q2, rfl, rfl, rfl, h2, r2⟩ := trodAll_cons r1
  obtain ⟨v3, vs3, d3, ds3, p3, q3, rfl, rfl, rfl, h3, r3⟩ := trodAll_cons r2
  obtain ⟨v4, vs4, d4, ds4, p4, q4, rfl, rfl, rfl, h4, r4⟩ := trodAll_cons r3
  obtain ⟨rfl, rfl, rfl⟩ := trodAll_nil r4
  obtain rfl : args = #[v0, v1, v2, v3, v4] := by cases args; simp_all
  obtain ⟨rfl, rfl⟩ := trodVars_none hV
  have k0 := h0
  have lt0 : ∀ x ∈ p0, x.block < W.heap.size := by obtain ⟨m, hm⟩ := k0; exact DataW.trod_lt m _ _ _ hm
  have z0 : ∀ m ∈ d0.weights Tryz.prog 39, m ≤ reachBytes := fun m hm => by
    have := List.all_eq_true.1 hsz m (DataW.weights_mem_each (j := 0) (t := 39) rfl rfl m hm)
    simpa using this
  obtain ⟨x0, ov0, dv0, rfl, w0, ol0, dl0⟩ := open_pkt (hval 0 39 v0 rfl rfl) h0 z0
  have k1 := h1
  have lt1 : ∀ x ∈ p1, x.block < W.heap.size := by obtain ⟨m, hm⟩ := k1; exact DataW.trod_lt m _ _ _ hm
  have z1 : ∀ m ∈ d1.weights Tryz.prog 59, m ≤ reachBytes := fun m hm => by
    have := List.all_eq_true.1 hsz m (DataW.weights_mem_each (j := 1) (t := 59) rfl rfl m hm)
    simpa using this
  obtain ⟨a1, len1, cap1, rfl⟩ := okWide_slice Tryz.underlying59 (hval 1 59 v1 rfl rfl)
  obtain ⟨w1, n1⟩ := open_nums h1 z1
  have k2 := h2
  have lt2 : ∀ x ∈ p2, x.block < W.heap.size := by obtain ⟨m, hm⟩ := k2; exact DataW.trod_lt m _ _ _ hm
  have z2 : ∀ m ∈ d2.weights Tryz.prog 59, m ≤ reachBytes := fun m hm => by
    have := List.all_eq_true.1 hsz m (DataW.weights_mem_each (j := 2) (t := 59) rfl rfl m hm)
    simpa using this
  obtain ⟨a2, len2, cap2, rfl⟩ := okWide_slice Tryz.underlying59 (hval 2 59 v2 rfl rfl)
  obtain ⟨w2, n2⟩ := open_nums h2 z2
  obtain ⟨a3, rfl, rfl, rfl, w3⟩ := open_int Tryz.underlying2 (hval 3 2 v3 rfl rfl) h3
  obtain ⟨a4, rfl, rfl, rfl⟩ := open_bool Tryz.underlying4 (hval 4 4 v4 rfl rfl) h4
  clear hA0 hval0
  refine (walk x0 ov0 dv0 a1 len1 cap1 a2 len2 cap2 a3 a4 W (glob_of hL) w0 ol0 dl0 w1 n1 w2 n2 w3).mono fun e W' ⟨he, bel⟩ => ?_
  subst he
  exact ⟨_, rfl, _, _, _, [], _, [], hW', trodAll_mk1 (shut_bool Tryz.underlying4 _), (trodAll_cons_mk (Below.trod laidOut (by kernel_rfl) (of_decide_eq_true (by kernel_rfl)) k0 bel lt0) (trodAll_cons_mk (Below.trod laidOut (by kernel_rfl) (of_decide_eq_true (by kernel_rfl)) k1 bel lt1) (trodAll_cons_mk (Below.trod laidOut (by kernel_rfl) (of_decide_eq_true (by kernel_rfl)) k2 bel lt2) (trodAll_cons_mk (shut_int Tryz.underlying2 w3) (trodAll_cons_mk (shut_bool Tryz.underlying4 _) trodAll_mk0))))), rfl, bel.frame _, fun h => by cases h⟩
theorem laid_met (os : Os) : laidMet Tryz.prog Rows.tableLateRow.laid ((laidWorld Tryz.prog os).forCall (fun _ _ => 0) ⟨#[], #[.agg (csP zeroPk (.slice none 0 0) (.slice none 0 0)), .slice none 0 0, .slice none 0 0, .int .i64 0, .bool false], []⟩).memory :=
  laidMet_of_run' 8 (by kernel_rfl) (by kernel_rfl)
theorem reads (os : Os) {H : Type} (enc : TypeId × Value → H) : ∃ places, DataW.whole enc Tryz.prog ((laidWorld Tryz.prog os).forCall (fun _ _ => 0) ⟨#[], #[.agg (csP zeroPk (.slice none 0 0) (.slice none 0 0)), .slice none 0 0, .slice none 0 0, .int .i64 0, .bool false], []⟩).memory Tryz.f4.params.toList Rows.tableLateSpec.vars false #[.agg (csP zeroPk (.slice none 0 0) (.slice none 0 0)), .slice none 0 0, .slice none 0 0, .int .i64 0, .bool false].toList 8 = some ([.agg [.lit (.int .i64 0), .lit (.int .i64 0), .lit (.int .i64 0), .agg [.lit (.int .i64 0), .agg [.lit (.int .u8 0), .lit (.int .u8 0), .lit (.int .u8 0), .lit (.int .u8 0), .lit (.int .u8 0), .lit (.int .u8 0), .lit (.int .u8 0), .lit (.int .u8 0), .lit (.int .u8 0), .lit (.int .u8 0), .lit (.int .u8 0), .lit (.int .u8 0), .lit (.int .u8 0), .lit (.int .u8 0), .lit (.int .u8 0), .lit (.int .u8 0)]], .agg [.lit (.int .i64 0), .agg [.lit (.int .u8 0), .lit (.int .u8 0), .lit (.int .u8 0), .lit (.int .u8 0), .lit (.int .u8 0), .lit (.int .u8 0), .lit (.int .u8 0), .lit (.int .u8 0), .lit (.int .u8 0), .lit (.int .u8 0), .lit (.int .u8 0), .lit (.int .u8 0), .lit (.int .u8 0), .lit (.int .u8 0), .lit (.int .u8 0), .lit (.int .u8 0)]], .lit (.int .i64 0), .lit (.int .i64 0), .lit (.int .u32 0), .lit (.bool false), .lit (.bool false), .lit (.bool false), .lit (.int .i64 0), .nil, .nil], .nil, .nil, .lit (.int .i64 0), .lit (.bool false)], [], places) :=
  ⟨[], by kernel_rfl⟩
theorem lifted (os : Os) (started : os.Started) (H : Type) (enc : TypeId × Value → H) (F : Stop.Interp) :
    ReturnsInHanded {} Tryz.checked os 4 .any ((OpenSpec.ofChange Rows.tableLateSpec).preRow enc Tryz.prog Tryz.f4 Rows.tableLateRow.domain false Rows.tableLateRow.laid) (((OpenSpec.ofChange Rows.tableLateSpec).at F).post enc Tryz.prog Tryz.f4 false true false false) := by
  obtain ⟨places, hx⟩ := reads os enc
  refine returnsInHanded_of_row (C := Tryz.checked) (s := OpenSpec.ofChange Rows.tableLateSpec) ownKn started (by kernel_rfl) Tryz.func4
    (witness_row_at (enc := enc) (C := Tryz.checked) false (laidWorld Tryz.prog os) #[.agg (csP zeroPk (.slice none 0 0) (.slice none 0 0)), .slice none 0 0, .slice none 0 0, .int .i64 0, .bool false] rfl (by kernel_rfl) (by kernel_rfl) (by kernel_rfl)
      (OpenSpec.preRow_of_cond 8 hx (by kernel_rfl) (fun k hk => by cases hk) (by kernel_rfl) (laid_met os))) ?_
  intro W base args ds gs before hval hW _ hcond hsz hL hS _
  exact contract H enc W base args ds gs before hval hW hsz hL
theorem said : Rows.TableLateSaid :=
  OpenClaim.holds_of_cond 4 Tryz.f4 rfl rfl rfl rfl rfl rfl rfl ⟨rfl, rfl, rfl, rfl, rfl⟩ rfl rfl rfl rfl rfl (by kernel_rfl) Tryz.func4 (by kernel_rfl)
    (of_decide_eq_true (by kernel_rfl)) (by unfold Func.isWrapper; first | (rw [if_pos (by decide +kernel)]; kernel_rfl) | (rw [if_neg (by decide +kernel)]; exact ⟨rfl, rfl⟩))
    (fun os started H enc _ F => by rw [OpenClaim.pre_eq_preRow]; exact lifted os started H enc F)
theorem plain (f : FuncId) (fn : Func) (hf : Tryz.pinned.checked.prog.funcNamed "mosaic/mosaiclaw15.TableLate" = some f) (hfn : Tryz.pinned.checked.prog.funcs[f]? = some fn) :
    false = Tryz.pinned.checked.prog.looks [] ∧ ∀ (j : Nat) t, fn.params[j]? = some t → Tryz.pinned.checked.prog.wantsStandIn t = false := by
  obtain rfl : f = 4 := Option.some.inj ((show Tryz.prog.funcNamed "mosaic/mosaiclaw15.TableLate" = some 4 by kernel_rfl).symm.trans hf) |>.symm
  obtain rfl : fn = Tryz.f4 := (Option.some.inj (Tryz.func4.symm.trans hfn)).symm
  refine ⟨by kernel_rfl, fun j t ht => ?_⟩
  rw [Tryz.params4] at ht
  have hm := Array.mem_of_getElem? ht
  simp only [List.mem_toArray, List.mem_cons, List.not_mem_nil, or_false] at hm
  have hw0 : Tryz.prog.wantsStandIn 39 = false := by kernel_rfl
  have hw1 : Tryz.prog.wantsStandIn 59 = false := by kernel_rfl
  have hw2 : Tryz.prog.wantsStandIn 59 = false := by kernel_rfl
  have hw3 : Tryz.prog.wantsStandIn 2 = false := by kernel_rfl
  have hw4 : Tryz.prog.wantsStandIn 4 = false := by kernel_rfl
  rcases hm with rfl | rfl | rfl | rfl | rfl
  all_goals first | exact hw0 | exact hw1 | exact hw2 | exact hw3 | exact hw4
theorem card : Rows.TableLateCardSaid :=
  Claim7.holds_tied_plain_at .later [] _ _ _ _ said (fun _ h => by cases h) (by kernel_rfl) (fun _ h => by cases h) tableLate_row_tie rfl ⟨rfl, rfl⟩ (by kernel_rfl) rfl plain (by kernel_rfl)
end tableLate
theorem tableLate_holds : Rows.TableLateCardSaid := tableLate.card
end Go.Proofs.YtkccpidgeecemaaGreatDoor
