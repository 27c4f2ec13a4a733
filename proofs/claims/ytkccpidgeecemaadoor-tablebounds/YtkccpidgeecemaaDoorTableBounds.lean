/-
  TableBounds.
-/
import Derived.Test.YtkccpidgeecemaaDoorKt
import Derived.Deep.CutBlock
import Derived.Deep.DeepCutAuto
namespace Go.Proofs.YtkccpidgeecemaaDoor
open Go.ChangeShapes Go.WideShapes Go.ChangeAt Go.RowKit Go.Deep
open S6 (wp_region_cls quiet_val quiet_call quiet_ld ld3 ld4 ld5 ld25 ld26 load28_run load24m_run)
set_option linter.unusedVariables false
set_option linter.unusedSimpArgs false
set_option maxRecDepth 100000

namespace tableBounds
def tD : Pk := dataP 1 8
def tX : Pk := { dataP 1 8 with ttl := 256 }
theorem tD_wf : Wf tD := data_wf 1 (by omega) (by omega) 8 (by omega)
theorem tX_wf : Wf tX := ⟨tD_wf.v, tD_wf.tos, tD_wf.flow, tD_wf.sv, tD_wf.sl, tD_wf.sb, tD_wf.dv, tD_wf.dl, tD_wf.db, tD_wf.proto, by simp [i64ok, tX], tD_wf.id0, tD_wf.id1, tD_wf.off, tD_wf.o, tD_wf.ol, tD_wf.d, tD_wf.dn⟩
theorem tD_right : rgt2 tD = true := by kernel_rfl
theorem tX_not : rgt2 tX = false := by kernel_rfl
section
variable {w0 w : World} {gt mb : Nat} {ov dv : Value} {q : Qo} {t : Int}
/-- A refused one. -/
theorem bad (h : Ta w0 w gt mb ov q 0 []) (hg : Glob w0) (hq : rightQ q = true) (hp : Pkt w tX (.slice none 0 0) dv) (hd : ∀ k, dv.ownBlock = some k → k ∉ fpT gt mb ov []) (now : Int) :
    Calls Tryd.prog 7 #[.pointer (some ⟨gt, 0, none⟩), .agg (csP tX (.slice none 0 0) dv), .int .i64 now] w (fun E w' => E = .returned (.tuple #[.agg (csTo 0 nilV nilV nilV), .int .i64 1]) ∧ Away [] w w') := by
  simp only [rightQ, Bool.and_eq_true, decide_eq_true_eq] at hq
  refine (tput_c (h.putIn hg hp rfl hd (by simp) (by omega) (by omega) (by simp)) now).mono ?_
  rintro E w' (⟨-, h1, h2⟩ | ⟨⟨h1, -⟩, -⟩)
  · exact ⟨h1, h2⟩
  · rw [tX_not] at h1; simp at h1
/-- A whole one. -/
theorem good (h : Ta w0 w gt mb ov q 0 []) (hg : Glob w0) (hq : rightQ q = true) (hp : Pkt w tD (.slice none 0 0) dv) (hd : ∀ k, dv.ownBlock = some k → k ∉ fpT gt mb ov []) (now : Int) :
    Calls Tryd.prog 7 #[.pointer (some ⟨gt, 0, none⟩), .agg (csP tD (.slice none 0 0) dv), .int .i64 now] w (fun E w' => ∃ n wv lv gv e ov' t', E = .returned (.tuple #[.agg (csTo n wv lv gv), .int .i64 e]) ∧ wv.oneCell' = true ∧ lv.oneCell' = true ∧ gv.oneCell' = true ∧ Ta w0 w' gt mb ov' q t' [] ∧
      (((now < 0 ∨ 1099511627776 < now) ∧ e = 1 ∧ t' = 0) ∨ ((0 ≤ now ∧ now ≤ 1099511627776) ∧ e = 0 ∧ t' = now))) := by
  simp only [rightQ, Bool.and_eq_true, decide_eq_true_eq] at hq
  refine (tput_c (h.putIn hg hp rfl hd (by simp) (by omega) (by omega) (by simp)) now).mono ?_
  rintro E w' (⟨h0, h1, h2⟩ | ⟨⟨-, hn⟩, n, wv, lv, gv, ov', xs, ys, ks, cs', rfl, hcw, hcl, hgk, -, -, htab, hres, hfp, haw⟩)
  · refine ⟨0, nilV, nilV, nilV, 1, ov, 0, h1, rfl, rfl, rfl, h.on h2, .inl ⟨?_, rfl, rfl⟩⟩
    rcases h0 with h3 | h3 | h3
    · rw [tD_right] at h3; simp at h3
    · exact .inl h3
    · exact .inr h3
  · obtain ⟨a1, n1, c1, e1⟩ := lstp_shp hcw.lst
    obtain ⟨a2, n2, c2, e2⟩ := lstp_shp hcl.lst
    obtain ⟨a3, n3, c3, e3⟩ := lstk_shp hgk
    have hcs : cs' = [] := by
      rcases hres with ⟨-, -, -, -, h4⟩ | ⟨h4, -⟩
      · exact h4
      · exact absurd h4 (by decide)
    subst hcs
    exact ⟨n, wv, lv, gv, 0, ov', now, rfl, by rw [e1]; rfl, by rw [e2]; rfl, by rw [e3]; rfl, h.step htab hfp haw, .inr ⟨hn, rfl, rfl⟩⟩
theorem tick (h : Ta w0 w gt mb ov q t []) (ht : 0 ≤ t ∧ t ≤ 1099511627776) (later : Int) :
    Calls Tryd.prog 12 #[.pointer (some ⟨gt, 0, none⟩), .int .i64 later] w (fun E w' => ∃ lv e, E = .returned (.tuple #[.agg (csTo 0 nilV lv nilV), .int .i64 e]) ∧ lv.oneCell' = true ∧ Away [] w0 w' ∧ (((later < t ∨ 1099511627776 < later) ∧ e = 1) ∨ ((t ≤ later ∧ later ≤ 1099511627776) ∧ e = 0))) := by
  refine (tick_c h.tab (by simp) ht later).mono ?_
  rintro E w' (⟨h0, h1, h2⟩ | ⟨hn, v, xs, ov', rfl, hcu, -, -, -, haw⟩)
  · exact ⟨nilV, 1, h1, rfl, h.aw.trans h2, .inl ⟨h0, rfl⟩⟩
  · obtain ⟨a1, n1, c1, e1⟩ := lstp_shp hcu.lst
    refine ⟨v, 0, rfl, by rw [e1]; rfl, h.aw.next haw (fun z hz => .inr ?_), .inr ⟨hn, rfl⟩⟩
    refine h.new z ?_
    simp only [List.mem_cons, Option.mem_toList] at hz
    rcases hz with rfl | rfl | hz
    · exact mem_fpT.2 (.inl rfl)
    · exact mem_fpT.2 (.inr (.inl rfl))
    · exact mem_fpT.2 (.inr (.inr (.inl hz)))
end
set_option maxHeartbeats 16000000 in
theorem walk (q : Qo) (now later : Int) (w : World) (hg : Glob w) (hq : i64ok q.e ∧ i64ok q.b ∧ i64ok q.h ∧ i64ok q.t) (hn0 : (Lit.int .i64 now).wf = true) (hl0 : (Lit.int .i64 later).wf = true) :
    Calls Tryd.prog 4 #[valQ q, .int .i64 now, .int .i64 later] w fun E w' => E = .returned (.bool true) ∧ Below w.heap.size w w' := by
  have HG := Lib.hid hg
  have hb0 := block_new w (.cells #[.int .i64 q.e, .int .i64 q.b, .int .i64 q.h, .int .i64 q.t] 29)
  have haw0 : Away [] w (w.alloc (.cells #[.int .i64 q.e, .int .i64 q.b, .int .i64 q.h, .int .i64 q.t] 29)) := (Away.refl _ _).alloc _
  unfold valQ
  clear hg hq hn0 hl0
  go_enter Tryd.func4, Tryd.ntmps4
  go_wp2_with fail
  obtain ⟨g3, hg3⟩ : ∃ z, z = w.heap.size := ⟨_, rfl⟩
  obtain ⟨w1, hw1⟩ : ∃ z, z = w.alloc (.cells #[.int .i64 q.e, .int .i64 q.b, .int .i64 q.h, .int .i64 q.t] 29) := ⟨_, rfl⟩
  rw [← hg3, ← hw1] at hb0 ⊢
  rw [← hw1] at haw0
  have HB3 := Lib.hid hb0
  have HA := Lib.hid haw0
  clear hb0 haw0 hg3 hw1
  refine (alive_c w1 (HG.out.on HA.out)).mono ?_
  rintro E w2 ⟨rfl, haw⟩
  replace HB3 := Lib.hid (haw.keep (by simp) HB3.out)
  replace HA := Lib.hid (HA.out.trans haw)
  clear haw
  have HC : Hid (∀ i : Nat, w2.cell? ⟨g3, i, none⟩ = (#[.int .i64 q.e, .int .i64 q.b, .int .i64 q.h, .int .i64 q.t] : Array Value)[i]?) := fun i => cell_of_block HB3.out i
  have K6 : Hid (Calls Tryd.prog 6 #[.agg #[.int .i64 q.e, .int .i64 q.b, .int .i64 q.h, .int .i64 q.t]] w2 (NewOut w2 q)) := tnew_c w2 q
  have c0 : w2.cell? ⟨g3, 0, none⟩ = some (.int .i64 q.e) := HC.out 0
  have c1 : w2.cell? ⟨g3, 1, none⟩ = some (.int .i64 q.b) := HC.out 1
  have c2 : w2.cell? ⟨g3, 2, none⟩ = some (.int .i64 q.h) := HC.out 2
  have c3 : w2.cell? ⟨g3, 3, none⟩ = some (.int .i64 q.t) := HC.out 3
  go_wp2_with fail
  refine K6.out.mono ?_
  rintro E w3 hnew
  have HNEW := Lib.hid hnew
  clear K6 HC c0 c1 c2 c3
  obtain ⟨tv, ev, hE, haw, hvi⟩ : ∃ tv ev, E = .returned (.tuple #[tv, ev]) ∧ Away [] w2 w3 ∧ ((rightQ q = false ∧ tv = .pointer none ∧ ev = .int .i64 1) ∨ (rightQ q = true ∧ ∃ gt mb, tv = .pointer (some ⟨gt, 0, none⟩) ∧ ev = .int .i64 0 ∧ Tab w3 gt mb (.slice none 0 0) q 0 [] ∧ w2.heap.size ≤ gt ∧ w2.heap.size ≤ mb)) := by
    rcases HNEW.out with ⟨h1, h2, h3⟩ | ⟨h1, gt, mb, h2, h3, h4, h5, h6⟩
    · exact ⟨_, _, h2, h3, .inl ⟨h1, rfl, rfl⟩⟩
    · exact ⟨_, _, h2, h6, .inr ⟨h1, gt, mb, rfl, rfl, h3, h4, h5⟩⟩
  subst hE
  have HVI := Lib.hid hvi
  replace HB3 := Lib.hid (haw.keep (by simp) HB3.out)
  have HSZ : Hid (w.heap.size ≤ w2.heap.size) := HA.out.size
  replace HA := Lib.hid (HA.out.trans haw)
  clear haw hvi HNEW
  have c0 : w3.cell? ⟨g3, 0, none⟩ = some (.int .i64 q.e) := cell_of_block HB3.out 0
  have c1 : w3.cell? ⟨g3, 1, none⟩ = some (.int .i64 q.b) := cell_of_block HB3.out 1
  have c2 : w3.cell? ⟨g3, 2, none⟩ = some (.int .i64 q.h) := cell_of_block HB3.out 2
  have c3 : w3.cell? ⟨g3, 3, none⟩ = some (.int .i64 q.t) := cell_of_block HB3.out 3
  go_upto_region 5 with fail
  go_cut [10] (fun v wc => v = .bool (rightQ q) ∧ wc = w3)
  case first =>
    as_aux_lemma =>
    by_cases h0 : 1 ≤ q.e
    · have b0 : decide (1 ≤ q.e) = true := by simpa using h0
      by_cases h1 : q.e ≤ 64
      · have b1 : decide (q.e ≤ 64) = true := by simpa using h1
        by_cases h2 : 0 ≤ q.b
        · have b2 : decide (0 ≤ q.b) = true := by simpa using h2
          by_cases h3 : q.b ≤ 1048576
          · have b3 : decide (q.b ≤ 1048576) = true := by simpa using h3
            by_cases h4 : 1 ≤ q.h
            · have b4 : decide (1 ≤ q.h) = true := by simpa using h4
              by_cases h5 : q.h ≤ 8192
              · have b5 : decide (q.h ≤ 8192) = true := by simpa using h5
                by_cases h6 : 1 ≤ q.t
                · have b6 : decide (1 ≤ q.t) = true := by simpa using h6
                  by_cases h7 : q.t ≤ 1099511627776
                  · have b7 : decide (q.t ≤ 1099511627776) = true := by simpa using h7
                    go_wp2_with fail
                    go_meet
                    exact ⟨congrArg Value.bool (by simp [rightQ, h0, h1, h2, h3, h4, h5, h6, h7]), rfl⟩
                  · have b7 : decide (q.t ≤ 1099511627776) = false := by simpa using h7
                    go_wp2_with fail
                    go_meet
                    exact ⟨congrArg Value.bool (by unfold rightQ; cases hd : decide (q.t ≤ 1099511627776) with | false => simp | true => exfalso; simp at hd; omega), rfl⟩
                · have b6 : decide (1 ≤ q.t) = false := by simpa using h6
                  go_wp2_with fail
                  go_meet
                  exact ⟨congrArg Value.bool (by unfold rightQ; cases hd : decide (1 ≤ q.t) with | false => simp | true => exfalso; simp at hd; omega), rfl⟩
              · have b5 : decide (q.h ≤ 8192) = false := by simpa using h5
                go_wp2_with fail
                go_meet
                exact ⟨congrArg Value.bool (by unfold rightQ; cases hd : decide (q.h ≤ 8192) with | false => simp | true => exfalso; simp at hd; omega), rfl⟩
            · have b4 : decide (1 ≤ q.h) = false := by simpa using h4
              go_wp2_with fail
              go_meet
              exact ⟨congrArg Value.bool (by unfold rightQ; cases hd : decide (1 ≤ q.h) with | false => simp | true => exfalso; simp at hd; omega), rfl⟩
          · have b3 : decide (q.b ≤ 1048576) = false := by simpa using h3
            go_wp2_with fail
            go_meet
            exact ⟨congrArg Value.bool (by unfold rightQ; cases hd : decide (q.b ≤ 1048576) with | false => simp | true => exfalso; simp at hd; omega), rfl⟩
        · have b2 : decide (0 ≤ q.b) = false := by simpa using h2
          go_wp2_with fail
          go_meet
          exact ⟨congrArg Value.bool (by unfold rightQ; cases hd : decide (0 ≤ q.b) with | false => simp | true => exfalso; simp at hd; omega), rfl⟩
      · have b1 : decide (q.e ≤ 64) = false := by simpa using h1
        go_wp2_with fail
        go_meet
        exact ⟨congrArg Value.bool (by unfold rightQ; cases hd : decide (q.e ≤ 64) with | false => simp | true => exfalso; simp at hd; omega), rfl⟩
    · have b0 : decide (1 ≤ q.e) = false := by simpa using h0
      go_wp2_with fail
      go_meet
      exact ⟨congrArg Value.bool (by unfold rightQ; cases hd : decide (1 ≤ q.e) with | false => simp | true => exfalso; simp at hd; omega), rfl⟩
  case rest =>
  obtain ⟨rfl, hwc⟩ := hcut
  replace hwc := hwc.symm
  subst hwc
  clear c0 c1 c2 c3 HB3
  rcases HVI.out with ⟨hr, rfl, rfl⟩ | ⟨hr, gt, mb, rfl, rfl, htab, hgt, hmb⟩
  · rw [hr]
    clear HVI
    go_wp2_with fail
    go_ret
    exact ⟨rfl, HA.out.to_below⟩
  rw [hr]
  have HR := Lib.hid hr
  have HTA : Hid (Ta w w3 gt mb (.slice none 0 0) q 0 []) := ⟨htab, fun z hz => by
    have h0 := HSZ.out
    rcases mem_fpT.1 hz with rfl | rfl | h1 | ⟨c, hc, -⟩
    · omega
    · omega
    · simp [Value.ownBlock] at h1
    · simp at hc, HA.out⟩
  clear HVI htab hgt hmb hr HA HSZ
  have K9 : Hid (∀ W, Calls Tryd.prog 9 #[.int .u32 1, .int .i64 8] W (DgrOut W 1 8)) := fun W => data_c 1 8 (by omega) W
  go_wp2_with fail
  refine (K9.out _).mono ?_
  rintro E w4 ⟨dv, rfl, how, hnw, haw⟩
  have HPK : Hid (Pkt w4 tD (.slice none 0 0) dv) := ⟨tD_wf, nil_sl w4, how.sl tD_wf.d tD_wf.dn⟩
  have HD1 := Lib.hid how.one
  have HDN : Hid (∀ k, dv.ownBlock = some k → k ∉ fpT gt mb (.slice none 0 0) []) := fun k hk hm => by have h1 := hnw k hk; have h2 := HTA.out.tab.lt k hm; omega
  have HDL : Hid (∀ k, dv.ownBlock = some k → k < w4.heap.size) := fun k hk => how.lt k hk
  replace HTA := Lib.hid (HTA.out.on haw)
  clear how hnw haw
  rw [show dataP 1 8 = tD from rfl]
  have HAD := Lib.hid tD_wf.ad
  have HAX := Lib.hid tX_wf.ad
  go_wp2_with (refine wpList_new28 rfl rfl rfl _ _ rfl tD (.slice none 0 0) dv (fun g => rfl) (fun g => rfl) HAD.out rfl HD1.out ?_; refine Hid.out ?_)
  refine Lib.hid ?_
  intro g11 w5 hg11 hb11 haw
  have HB11 := Lib.hid hb11
  have HG11 : Hid (w4.heap.size ≤ g11) := hg11
  replace HPK := Lib.hid (HPK.out.on haw)
  have HNF : Hid (g11 ∉ fpT gt mb (.slice none 0 0) []) := fun hm => by have h2 := HTA.out.tab.lt _ hm; have h3 := HG11.out; omega
  have HW4 : Hid (w.heap.size ≤ w4.heap.size) := HTA.out.aw.size
  replace HTA := Lib.hid (HTA.out.on haw)
  clear hg11 hb11 haw
  have a38 := (HB11.out.cells HAD.out).ttl
  have f38 := HB11.out.free 38
  have HBX : Hid (BoxP (w5.setCell ⟨g11, 38, none⟩ (.int .i64 256)) g11 tX (.slice none 0 0) dv) := HB11.out.put 38 _ ((csP_set HAD.out _ _).2.2.2.2.2.2.1 256)
  have hA6 : Away [g11] w5 (w5.setCell ⟨g11, 38, none⟩ (.int .i64 256)) := away_put 38 _
  go_upto_region 12 with fail
  obtain ⟨w6, hw6⟩ : ∃ z, z = w5.setCell ⟨g11, 38, none⟩ (.int .i64 256) := ⟨_, rfl⟩
  rw [← hw6] at HBX hA6 ⊢
  replace HPK : Hid (Pkt w6 tD (.slice none 0 0) dv) := HPK.out.away hA6 ⟨fun e => absurd rfl e, fun _ k hk hm => by simp at hm; subst hm; have h1 := HDL.out k hk; have h2 := HG11.out; omega⟩
  have HPX : Hid (Pkt w6 tX (.slice none 0 0) dv) := ⟨tX_wf, HPK.out.o, HPK.out.d⟩
  replace HTA : Hid (Ta w w6 gt mb (.slice none 0 0) q 0 []) := ⟨HTA.out.tab.away hA6 (fun z hz hm => by simp at hm; subst hm; exact HNF.out hz), HTA.out.new, HTA.out.aw.next hA6 (fun z hz => .inr (by simp at hz; subst hz; exact Nat.le_trans HW4.out HG11.out))⟩
  clear hw6 hA6 a38 f38 HB11 HPK HDL HNF HW4 HG11
  have KB := Lib.hid (bad HTA.out HG.out HR.out HPX.out HDN.out now)
  go_wp2_with (refine wpList_load28 rfl _ rfl g11 rfl tX _ _ (by exact HBX.out) HAX.out ?_)
  refine KB.out.mono ?_
  rintro E w7 ⟨rfl, haw⟩
  replace HTA := Lib.hid (HTA.out.on haw)
  clear haw KB HPX HBX HDN
  go_wp2_with (refine wpList_alloc33 rfl rfl ?_; refine Hid.out ?_)
  refine Lib.hid ?_
  intro g12 x12 hg hb haw1
  have HBN := Lib.hid hb
  have HGN := Lib.hid hg
  have HW1 := Lib.hid haw1
  clear hg hb haw1
  go_wp2_with (refine wpList_store33 rfl _ _ rfl g12 rfl 0 nilV nilV nilV rfl 0 nilV nilV nilV (by exact HBN.out) rfl rfl rfl ?_; refine Hid.out ?_)
  refine Lib.hid ?_
  intro y12 hb haw2
  have HW3 := Lib.hid (HW1.out.next haw2 (fun z hz => .inr (by simp at hz; rw [hz]; exact HGN.out)))
  replace HTA := Lib.hid (HTA.out.on HW3.out)
  clear hb haw2 HW1 HW3 HBN HGN
  go_wp2_with fail
  refine (K9.out _).mono ?_
  rintro E w8 ⟨dv2, rfl, how, hnw, haw⟩
  have HPK : Hid (Pkt w8 tD (.slice none 0 0) dv2) := ⟨tD_wf, nil_sl w8, how.sl tD_wf.d tD_wf.dn⟩
  have HDN : Hid (∀ k, dv2.ownBlock = some k → k ∉ fpT gt mb (.slice none 0 0) []) := fun k hk hm => by have h1 := hnw k hk; have h2 := HTA.out.tab.lt k hm; omega
  replace HTA := Lib.hid (HTA.out.on haw)
  clear how hnw haw K9
  rw [show dataP 1 8 = tD from rfl]
  have KB := Lib.hid (good HTA.out HG.out HR.out HPK.out HDN.out now)
  go_wp2_with fail
  refine KB.out.mono ?_
  rintro E w9 ⟨n9, wv, lv, gv, e9, ov9, t9, rfl, o1, o2, o3, hta, hcase⟩
  have HO1 := Lib.hid o1
  have HO2 := Lib.hid o2
  have HO3 := Lib.hid o3
  have HCA := Lib.hid hcase
  have HTB := Lib.hid hta
  clear o1 o2 o3 hcase hta KB HTA HPK HDN
  go_wp2_with (refine wpList_alloc33 rfl rfl ?_; refine Hid.out ?_)
  refine Lib.hid ?_
  intro g14 x14 hg hb haw1
  have HBN := Lib.hid hb
  have HGN := Lib.hid hg
  have HW1 := Lib.hid haw1
  clear hg hb haw1
  go_wp2_with (refine wpList_store33 rfl _ _ rfl g14 rfl n9 wv lv gv rfl 0 nilV nilV nilV (by exact HBN.out) HO1.out HO2.out HO3.out ?_; refine Hid.out ?_)
  refine Lib.hid ?_
  intro y14 hb haw2
  have HW3 := Lib.hid (HW1.out.next haw2 (fun z hz => .inr (by simp at hz; rw [hz]; exact HGN.out)))
  replace HTB := Lib.hid (HTB.out.on HW3.out)
  clear hb haw2 HW1 HW3 HBN HGN
  have HTT : Hid (0 ≤ t9 ∧ t9 ≤ 1099511627776) := by
    show _ ∧ _
    rcases HCA.out with ⟨-, -, h1⟩ | ⟨h0, -, h1⟩ <;> omega
  have KB := Lib.hid (tick HTB.out HTT.out later)
  go_wp2_with fail
  refine KB.out.mono ?_
  rintro E w10 ⟨lv2, e10, rfl, o2, haw, hcase⟩
  have HO2' := Lib.hid o2
  have HCB := Lib.hid hcase
  have HAE := Lib.hid haw
  clear o2 hcase haw KB HTB HTT
  go_wp2_with (refine wpList_alloc33 rfl rfl ?_; refine Hid.out ?_)
  refine Lib.hid ?_
  intro g16 x16 hg hb haw1
  have HBN := Lib.hid hb
  have HGN := Lib.hid hg
  have HW1 := Lib.hid haw1
  clear hg hb haw1
  go_wp2_with (refine wpList_store33 rfl _ _ rfl g16 rfl 0 nilV lv2 nilV rfl 0 nilV nilV nilV (by exact HBN.out) rfl HO2'.out rfl ?_; refine Hid.out ?_)
  refine Lib.hid ?_
  intro y16 hb haw2
  have HW3 := Lib.hid (HW1.out.next haw2 (fun z hz => .inr (by simp at hz; rw [hz]; exact HGN.out)))
  have HAF := Lib.hid (HAE.out.trans HW3.out)
  clear hb haw2 HW1 HW3 HBN HGN HAE HO2' HO1 HO2 HO3
  rcases HCA.out with ⟨h0, rfl, rfl⟩ | ⟨⟨h0, h0'⟩, rfl, rfl⟩
  · clear HCA
    by_cases h4 : 0 ≤ now
    · have b3 : decide (0 ≤ now) = true := by simpa using h4
      have h5 : ¬ (now ≤ 1099511627776) := by omega
      have b4 : decide (now ≤ 1099511627776) = false := by simpa using h5
      clear h0
      rcases HCB.out with ⟨h1, rfl⟩ | ⟨⟨h1, h2⟩, rfl⟩
      · clear HCB
        by_cases h2 : 0 ≤ later
        · have b1 : decide (0 ≤ later) = true := by simpa using h2
          have h3 : ¬ (later ≤ 1099511627776) := by omega
          have b2 : decide (later ≤ 1099511627776) = false := by simpa using h3
          clear h1
          go_wp2_with fail
          go_ret
          exact ⟨rfl, HAF.out.to_below⟩
        · have b1 : decide (0 ≤ later) = false := by simpa using h2
          clear h1
          go_wp2_with fail
          go_ret
          exact ⟨rfl, HAF.out.to_below⟩
      · clear HCB
        have b1 : decide (0 ≤ later) = true := by simpa using h1
        have b2 : decide (later ≤ 1099511627776) = true := by simpa using h2
        go_wp2_with fail
        go_ret
        exact ⟨rfl, HAF.out.to_below⟩
    · have b3 : decide (0 ≤ now) = false := by simpa using h4
      clear h0
      rcases HCB.out with ⟨h1, rfl⟩ | ⟨⟨h1, h2⟩, rfl⟩
      · clear HCB
        by_cases h2 : 0 ≤ later
        · have b1 : decide (0 ≤ later) = true := by simpa using h2
          have h3 : ¬ (later ≤ 1099511627776) := by omega
          have b2 : decide (later ≤ 1099511627776) = false := by simpa using h3
          clear h1
          go_wp2_with fail
          go_ret
          exact ⟨rfl, HAF.out.to_below⟩
        · have b1 : decide (0 ≤ later) = false := by simpa using h2
          clear h1
          go_wp2_with fail
          go_ret
          exact ⟨rfl, HAF.out.to_below⟩
      · clear HCB
        have b1 : decide (0 ≤ later) = true := by simpa using h1
        have b2 : decide (later ≤ 1099511627776) = true := by simpa using h2
        go_wp2_with fail
        go_ret
        exact ⟨rfl, HAF.out.to_below⟩
  · clear HCA
    have b3 : decide (0 ≤ t9) = true := by simpa using h0
    have b4 : decide (t9 ≤ 1099511627776) = true := by simpa using h0'
    rcases HCB.out with ⟨h1, rfl⟩ | ⟨⟨h1, h2⟩, rfl⟩
    · clear HCB
      by_cases h2 : t9 ≤ later
      · have b1 : decide (t9 ≤ later) = true := by simpa using h2
        have h3 : ¬ (later ≤ 1099511627776) := by omega
        have b2 : decide (later ≤ 1099511627776) = false := by simpa using h3
        clear h1
        go_wp2_with fail
        go_ret
        exact ⟨rfl, HAF.out.to_below⟩
      · have b1 : decide (t9 ≤ later) = false := by simpa using h2
        clear h1
        go_wp2_with fail
        go_ret
        exact ⟨rfl, HAF.out.to_below⟩
    · clear HCB
      have b1 : decide (t9 ≤ later) = true := by simpa using h1
      have b2 : decide (later ≤ 1099511627776) = true := by simpa using h2
      go_wp2_with fail
      go_ret
      exact ⟨rfl, HAF.out.to_below⟩
end tableBounds
namespace tableBounds
theorem contract (H : Type) (enc : TypeId × Value → H) (W : World) (base : Nat) (args : Array Value) (ds gs : List (DataW H)) (before : List MemPlace)
    (hval0 : ∀ (j : Nat) t v, Tryd.f4.params[j]? = some t → args[j]? = some v → Value.okWide Tryd.prog W .any base t v)
    (hW : DataW.Whole enc Tryd.prog Tryd.f4.params.toList Rows.tableBoundsSpec.vars false W args.toList ds gs before)
    (hsz0 : (DataW.weightsEach Tryd.prog (Tryd.f4.params.toList ++ Rows.tableBoundsSpec.plain.varTypes Tryd.prog) (ds ++ gs)).all (· ≤ reachBytes) = true)
    (hL : laidMetH Tryd.prog Rows.tableBoundsRow.laid W) :
    Calls Tryd.prog 4 args W fun e W' => ∃ v, e = .returned v ∧ Rows.tableBoundsSpec.post enc Tryd.prog Tryd.f4 false true false false W args v W' := by
  have hval := hval0
  have hsz := hsz0
  have hW' := hW
  obtain ⟨p, q, hA0, hV, rfl, hfz, hnd⟩ := hW
  have hA : DataW.TrodAll enc Tryd.prog W 0 (fun _ => true) true Tryd.f4.params.toList args.toList ds p := hA0
  rw [Tryd.params4] at hA hval hsz
  obtain ⟨v0, vs0, d0, ds0, p0, q0, hargs, rfl, rfl, h0, r0⟩ := trodAll_cons hA
  obtain ⟨v1, vs1, d1, ds1, p1, q1, rfl, rfl, rfl, h1, r1⟩ := trodAll_cons r0
  obtain ⟨v2, vs2, d2, ds2, p2, q2, rfl, rfl, rfl, h2, r2⟩ := trodAll_cons r1
  obtain ⟨rfl, rfl, rfl⟩ := trodAll_nil r2
  obtain rfl : args = #[v0, v1, v2] := by cases args; simp_all
  obtain ⟨rfl, rfl⟩ := trodVars_none hV
  have k0 := h0
  have lt0 : ∀ x ∈ p0, x.block < W.heap.size := by obtain ⟨m, hm⟩ := k0; exact DataW.trod_lt m _ _ _ hm
  have z0 : ∀ m ∈ d0.weights Tryd.prog 29, m ≤ reachBytes := fun m hm => by
    have := List.all_eq_true.1 hsz m (DataW.weights_mem_each (j := 0) (t := 29) rfl rfl m hm)
    simpa using this
  obtain ⟨x0, rfl, w0⟩ := open_quo (hval 0 29 v0 rfl rfl) h0
  obtain ⟨a1, rfl, rfl, rfl, w1⟩ := open_int Tryd.underlying2 (hval 1 2 v1 rfl rfl) h1
  obtain ⟨a2, rfl, rfl, rfl, w2⟩ := open_int Tryd.underlying2 (hval 2 2 v2 rfl rfl) h2
  clear hA0 hval0
  refine (walk x0 a1 a2 W (glob_of hL) w0 w1 w2).mono fun e W' ⟨he, bel⟩ => ?_
  subst he
  exact ⟨_, rfl, _, _, _, [], _, [], hW', trodAll_mk1 (shut_bool Tryd.underlying4 _), (trodAll_cons_mk (Below.trod laidOut (by kernel_rfl) (of_decide_eq_true (by kernel_rfl)) k0 bel lt0) (trodAll_cons_mk (shut_int Tryd.underlying2 w1) (trodAll_cons_mk (shut_int Tryd.underlying2 w2) trodAll_mk0))), rfl, bel.frame _, fun h => by cases h⟩
theorem laid_met (os : Os) : laidMet Tryd.prog Rows.tableBoundsRow.laid ((laidWorld Tryd.prog os).forCall (fun _ _ => 0) ⟨#[], #[.agg #[.int .i64 0, .int .i64 0, .int .i64 0, .int .i64 0], .int .i64 0, .int .i64 0], []⟩).memory :=
  laidMet_of_run' 8 (by kernel_rfl) (by kernel_rfl)
theorem reads (os : Os) {H : Type} (enc : TypeId × Value → H) : ∃ places, DataW.whole enc Tryd.prog ((laidWorld Tryd.prog os).forCall (fun _ _ => 0) ⟨#[], #[.agg #[.int .i64 0, .int .i64 0, .int .i64 0, .int .i64 0], .int .i64 0, .int .i64 0], []⟩).memory Tryd.f4.params.toList Rows.tableBoundsSpec.vars false #[.agg #[.int .i64 0, .int .i64 0, .int .i64 0, .int .i64 0], .int .i64 0, .int .i64 0].toList 8 = some ([.agg [.lit (.int .i64 0), .lit (.int .i64 0), .lit (.int .i64 0), .lit (.int .i64 0)], .lit (.int .i64 0), .lit (.int .i64 0)], [], places) :=
  ⟨[], by kernel_rfl⟩
theorem lifted (os : Os) (started : os.Started) (H : Type) (enc : TypeId × Value → H) (F : Stop.Interp) :
    ReturnsInHanded {} Tryd.checked os 4 .any ((OpenSpec.ofChange Rows.tableBoundsSpec).preRow enc Tryd.prog Tryd.f4 Rows.tableBoundsRow.domain false Rows.tableBoundsRow.laid) (((OpenSpec.ofChange Rows.tableBoundsSpec).at F).post enc Tryd.prog Tryd.f4 false true false false) := by
  obtain ⟨places, hx⟩ := reads os enc
  refine returnsInHanded_of_row (C := Tryd.checked) (s := OpenSpec.ofChange Rows.tableBoundsSpec) ownKn started (by kernel_rfl) Tryd.func4
    (witness_row_at (enc := enc) (C := Tryd.checked) false (laidWorld Tryd.prog os) #[.agg #[.int .i64 0, .int .i64 0, .int .i64 0, .int .i64 0], .int .i64 0, .int .i64 0] rfl (by kernel_rfl) (by kernel_rfl) (by kernel_rfl)
      (OpenSpec.preRow_of_cond 8 hx (by kernel_rfl) (fun k hk => by cases hk) (by kernel_rfl) (laid_met os))) ?_
  intro W base args ds gs before hval hW _ hcond hsz hL hS _
  exact contract H enc W base args ds gs before hval hW hsz hL
theorem said : Rows.TableBoundsSaid :=
  OpenClaim.holds_of_cond 4 Tryd.f4 rfl rfl rfl rfl rfl rfl rfl ⟨rfl, rfl, rfl, rfl, rfl⟩ rfl rfl rfl rfl rfl (by kernel_rfl) Tryd.func4 (by kernel_rfl)
    (of_decide_eq_true (by kernel_rfl)) (by unfold Func.isWrapper; first | (rw [if_pos (by decide +kernel)]; kernel_rfl) | (rw [if_neg (by decide +kernel)]; exact ⟨rfl, rfl⟩))
    (fun os started H enc _ F => by rw [OpenClaim.pre_eq_preRow]; exact lifted os started H enc F)
theorem plain (f : FuncId) (fn : Func) (hf : Tryd.pinned.checked.prog.funcNamed "mosaic/mosaiclaw15.TableBounds" = some f) (hfn : Tryd.pinned.checked.prog.funcs[f]? = some fn) :
    false = Tryd.pinned.checked.prog.looks [] ∧ ∀ (j : Nat) t, fn.params[j]? = some t → Tryd.pinned.checked.prog.wantsStandIn t = false := by
  obtain rfl : f = 4 := Option.some.inj ((show Tryd.prog.funcNamed "mosaic/mosaiclaw15.TableBounds" = some 4 by kernel_rfl).symm.trans hf) |>.symm
  obtain rfl : fn = Tryd.f4 := (Option.some.inj (Tryd.func4.symm.trans hfn)).symm
  refine ⟨by kernel_rfl, fun j t ht => ?_⟩
  rw [Tryd.params4] at ht
  have hm := Array.mem_of_getElem? ht
  simp only [List.mem_toArray, List.mem_cons, List.not_mem_nil, or_false] at hm
  have h29 : Tryd.prog.wantsStandIn 29 = false := by kernel_rfl
  have h2 : Tryd.prog.wantsStandIn 2 = false := by kernel_rfl
  have h3 : Tryd.prog.wantsStandIn 3 = false := by kernel_rfl
  rcases hm with rfl | rfl | rfl
  all_goals first | exact h29 | exact h2 | exact h3
theorem card : Rows.TableBoundsCardSaid :=
  Claim7.holds_tied_plain_at .later [] _ _ _ _ said (fun _ h => by cases h) (by kernel_rfl) (fun _ h => by cases h) tableBounds_row_tie rfl ⟨rfl, rfl⟩ (by kernel_rfl) rfl plain (by kernel_rfl)
end tableBounds
theorem tableBounds_holds : Rows.TableBoundsCardSaid := tableBounds.card
#print axioms tableBounds_holds
end Go.Proofs.YtkccpidgeecemaaDoor
