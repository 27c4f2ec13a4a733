/-
  EntryPoisons.
-/
import Derived.Test.YtbkeilboneaejaaDoorLwA
import Derived.Deep.CutBlock
import Derived.Deep.DeepCutAuto
namespace Go.Proofs.YtbkeilboneaejaaDoor
open Go.ChangeShapes Go.WideShapes Go.ChangeAt Go.RowKit Go.Deep
open S6 (wp_region_cls quiet_val quiet_call quiet_ld ld3 ld4 ld5 ld25 ld26 load28_run load24m_run)
set_option linter.unusedVariables false
set_option linter.unusedSimpArgs false
set_option maxRecDepth 100000

theorem ld39 {w : World} {b o : Nat} {x y z : Int} {m : Bool} (h0 : w.cell? ⟨b, o, none⟩ = some (.int .i64 x)) (h1 : w.cell? ⟨b, o + 1, none⟩ = some (.int .i64 y)) (h2 : w.cell? ⟨b, o + 2, none⟩ = some (.int .i64 z)) (h3 : w.cell? ⟨b, o + 3, none⟩ = some (.bool m)) :
    (Instr.loadAt 39 (.pointer (some ⟨b, o, none⟩))).run Tryd.prog w = .ok (.agg #[.int .i64 x, .int .i64 y, .int .i64 z, .bool m]) w :=
  run_loadAt_mid (P := Tryd.prog) w b o 39 [.int .i64 x, .int .i64 y, .int .i64 z, .bool m] _ (fun j v hj => by
    match j, hj with
    | 0, hj => simp at hj; subst hj; exact h0
    | 1, hj => simp at hj; subst hj; exact h1
    | 2, hj => simp at hj; subst hj; exact h2
    | 3, hj => simp at hj; subst hj; exact h3
    | j + 4, hj => simp at hj) Tryd.underlying39 rfl (by kernel_rfl)
theorem made_ne (x : Bool) (r : Rw) : (madeP (keyP x) r).d ≠ [] := fun e => by
  have h1 : (madeP (keyP x) r).d.length = lenR r := dat_len r _
  have h2 := (len_bd r).1
  rw [e] at h1
  simp at h1
  omega
theorem quiet_build36 {o : Oper} {a : Act} {C : World → Prop} {K : Act → Prop} (ho : o.op = .build 36 #[]) (hk : K (a.put o.dst (.agg (csP zeroPk (.slice none 0 0) (.slice none 0 0))))) : o.quiet Tryd.prog a C K :=
  quiet_val _ (fun w => by
    unfold execOp
    simp only [ho, List.map_toArray, List.map_nil, run_build36, Sem.run_bind, Result.andThen_ok, Sem.run_pure]) hk
namespace entryPoisons
/-- What the loop holds. -/
structure Lp (w wr : World) (x : Bool) (g g9 : Nat) : Prop where
  ey : Ey wr g (eP x) [g]
  bx : BoxK wr g9 (csK (keyP x))
  gn : w.heap.size ≤ g
  aw : Away [] w wr
theorem Lp.on {w wr w' : World} {x : Bool} {g g9 : Nat} (h : Lp w wr x g g9) (hw : Away [] wr w') : Lp w w' x g g9 := ⟨h.ey.on hw, hw.keep (by simp) h.bx, h.gn, h.aw.trans hw⟩
theorem Lp.put {w wr w' : World} {x : Bool} {g g9 : Nat} {fp : List Nat} (h : Lp w wr x g g9) (hn : g9 ≠ g) (hy : Ey w' g (eP x) fp) (hw : Away [g] wr w') : Lp w w' x g g9 := by
  have hfp : fp = [g] := by
    rcases hy.ent with ⟨-, hfp⟩ | ⟨lb, lv, dv, ov, mb, mn, he, -, -⟩
    · exact hfp
    · have := he.nb; simp [eP, poisS] at this
  rw [hfp] at hy
  exact ⟨hy, hw.keep (by simpa using hn) h.bx, h.gn, h.aw.next hw (fun z hz => .inr (by simp at hz; rw [hz]; exact h.gn))⟩
set_option maxHeartbeats 16000000 in
theorem walkT (v : Int) (sa : Option Addr) (rs : List Rw) (scap : Nat) (xa : Option Addr) (xs : List X) (xcap : Nat) (w : World) (hg : Glob w) (hv0 : (Lit.int .i64 v).wf = true) (hr : RowR w sa rs) (hrl : rs.length ≤ 4398046510976) (hxl : xs.length ≤ 925904528626)
    (hxo : ∀ x ∈ xs, x.ok w ∧ x.p.o.length ≤ 140737488351232 ∧ x.p.d.length ≤ 140737488351232) (hxr : xs = [] ∨ ∃ b off, xa = some ⟨b, off, none⟩ ∧ ∀ i x, xs[i]? = some x → w.rangeAt b (off + i * 46) x.cells) :
    Calls Tryd.prog 4 #[.int .i64 v, .bool true, .slice sa rs.length scap, .slice xa xs.length xcap] w fun E w' => E = .returned (.bool true) ∧ Below w.heap.size w w' := by
  have HG := Lib.hid hg
  have HR := Lib.hid hr
  have HXO := Lib.hid hxo
  have HXR := Lib.hid hxr
  obtain ⟨n, hn⟩ : ∃ n, n = rs.length := ⟨_, rfl⟩
  rw [← hn] at hrl ⊢
  have HN := Lib.hid hn
  obtain ⟨m, hm⟩ : ∃ m, m = xs.length := ⟨_, rfl⟩
  rw [← hm] at hxl ⊢
  have HM := Lib.hid hm
  have hpos := hg.pos
  clear hg hr hxo hxr hn hm hv0
  have K := Lib.hid (alive_c w HG.out)
  go_enter Tryd.func4, Tryd.ntmps4
  go_wp2_with fail
  refine K.out.mono ?_
  rintro E wa ⟨rfl, hawa⟩
  have HA := Lib.hid hawa
  clear hawa K
  have K := Lib.hid (lkey_c wa v)
  go_wp2_with fail
  refine K.out.mono ?_
  rintro E wb ⟨x, rfl, hawb⟩
  replace HA := Lib.hid (HA.out.trans hawb)
  clear hawb K
  go_wp2_with (refine wpList_alloc78 rfl rfl ?_; refine Hid.out ?_)
  refine Lib.hid ?_
  intro g9 wc hg9 hb9 haw9
  have HB9 := Lib.hid hb9
  have hl9 := lt_of_block hb9
  have HS9 : Hid (w.heap.size ≤ g9) := Nat.le_trans HA.out.size hg9
  replace HA := Lib.hid (HA.out.trans haw9)
  clear hb9 haw9 hg9
  go_wp2_with (refine wpList_store78 rfl _ _ rfl _ rfl (keyP x) (key_ad x) rfl (by exact HB9.out) ?_; refine Hid.out ?_)
  refine Lib.hid ?_
  intro wd hb9 haw9
  replace HB9 := Lib.hid hb9
  replace HA : Hid (Away [] w wd) := HA.out.next haw9 (fun z hz => .inr (by simp at hz; rw [hz]; exact HS9.out))
  have hl9 := lt_of_block hb9
  clear hb9 haw9
  have HR9 := Lib.hid (boxK_range HB9.out)
  have K := Lib.hid (new_c wd (keyP x) 7 (key_ad x))
  go_wp2_with (refine wpList_load29m rfl _ rfl g9 0 rfl (keyP x) (by exact HR9.out) (key_ad x) ?_)
  refine K.out.mono ?_
  rintro E we ⟨g, fp, rfl, hent, hfp, hawe⟩
  have HY : Hid (Ey we g (eA x) fp) := ey_new hent
  have HF : Hid (∀ z ∈ fp, wd.heap.size ≤ z) := hfp
  have HGN : Hid (wd.heap.size ≤ g) := hfp g hent.mem
  replace HB9 : Hid (BoxK we g9 (csK (keyP x))) := hawe.keep (by simp) HB9.out
  have HZD : Hid (w.heap.size ≤ wd.heap.size) := HA.out.size
  replace HA := Lib.hid (HA.out.trans hawe)
  have HZE : Hid (wd.heap.size ≤ we.heap.size) := hawe.size
  clear hent hfp hawe K HR9
  have HR9 := Lib.hid (boxK_range HB9.out)
  have K := Lib.hid (made_c we (keyP x) (key_wf x) rA (by unfold OkR rA i64ok; simp))
  have eRA : rawV rA = .agg #[.int .i64 1, .int .i64 0, .int .i64 0, .bool true] := rfl
  rw [eRA] at K
  clear eRA
  go_wp2_with (refine wpList_load29m rfl _ rfl g9 0 rfl (keyP x) (by exact HR9.out) (key_ad x) ?_)
  refine K.out.mono ?_
  rintro E wf ⟨dv, rfl, hpk, hnw, haw⟩
  have KP := Lib.hid (eput_c (HY.out.on haw) (madeP (keyP x) rA) _ dv hpk (HG.out.on (HA.out.trans haw)) (outs_new HY.out rfl hnw) (fun hm => by have h1 := HF.out 0 hm; have h2 := HZD.out; omega))
  replace HA := Lib.hid (HA.out.trans haw)
  replace HB9 : Hid (BoxK wf g9 (csK (keyP x))) := haw.keep (by simp) HB9.out
  have HZF : Hid (wd.heap.size ≤ wf.heap.size) := Nat.le_trans HZE.out haw.size
  clear hpk hnw haw K HR9
  go_wp2_with fail
  refine KP.out.mono ?_
  rintro E wg ⟨rfl, fp1, hy, hfp1, haw⟩
  rw [putA]
  have HY1 : Hid (Ey wg g (eB x) fp1) := hy
  have HNF : Hid (∀ z ∈ fp, z ≠ g9) := fun z hz e => by have h1 := HF.out z hz; omega
  replace HB9 : Hid (BoxK wg g9 (csK (keyP x))) := haw.keep (fun hm => HNF.out g9 hm rfl) HB9.out
  replace HA : Hid (Away [] w wg) := HA.out.next haw (fun z hz => .inr (Nat.le_trans HZD.out (HF.out z hz)))
  have HF1 : Hid (∀ z ∈ fp1, wd.heap.size ≤ z) := fun z hz => by
    rcases hfp1 z hz with h | h
    · exact HF.out z h
    · have := HZF.out; omega
  clear hy hfp1 haw KP HY
  have HGG : Hid (g9 ≠ g) := by have := HGN.out; show _ ≠ _; omega
  have HGW : Hid (w.heap.size ≤ g) := Nat.le_trans HZD.out HGN.out
  obtain ⟨lp, xv, yv, mp, hb, hka, hfa⟩ := HY1.out.ent.blk
  have KP := Lib.hid (poison_c (eB x) lp xv yv mp hb hka hfa)
  clear hb hka hfa
  go_wp2_with fail
  refine KP.out.mono ?_
  rintro E wh ⟨rfl, hb, haw⟩
  rw [poisB] at hb
  have HL : Hid (Lp w wh x g g9) := ⟨ey_pois hb, haw.keep (by simpa using HGG.out) HB9.out, HGW.out, HA.out.next haw (fun z hz => .inr (by simp at hz; rw [hz]; exact HGW.out))⟩
  clear hb haw KP HY1 HB9 HA HF1
  go_wp2_with fail
  go_loopw [11] (fun i wr => ∃ k : Nat, k ≤ n + m ∧ i = .int .i64 (k : Int) ∧ Lp w wr x g g9) (fun i _ => n + m - (intOf i).toNat)
  case atStart => exact ⟨0, by omega, rfl, HL.out⟩
  case round =>
    clear HL
    obtain ⟨k, hk, rfl, hl⟩ := hrel
    have HL := Lib.hid hl
    clear hl
    by_cases hlt : k < n + m
    · have i1 : (k : Int) < (n : Int) + (m : Int) := by omega
      by_cases hkn : k < n
      · obtain ⟨rr, hrr⟩ : ∃ rr, rs[k]? = some rr := ⟨rs[k]'(by have := HN.out; omega), by simp⟩
        obtain ⟨b, off, rfl, hcells, hok⟩ := (HR.out.on HL.out.aw).at hrr
        obtain ⟨ro, rn, rq, rm⟩ := rr
        simp only at hcells
        have HCE := Lib.hid hcells
        have HOK := Lib.hid hok
        have HOWN : Hid (ownB (eP x) (madeP (keyP x) ⟨ro, rn, rq, rm⟩) = (decide (0 < offR ⟨ro, rn, rq, rm⟩) || rm)) := made_own x ⟨ro, rn, rq, rm⟩ (eP x) rfl
        have HOB := Lib.hid (off_bd ⟨ro, rn, rq, rm⟩)
        clear hcells hok hrr
        have i2 : (k : Int) < (n : Int) := by omega
        have i3 : 0 ≤ (k : Int) := by omega
        have i4 : ((k : Int)).toNat = k := by omega
        have HAX : Hid (Away [] wr wr.drew) := (Away.refl _ _).drew
        have HS15 : Hid (∀ W, Away [] wr W → BoxK W g9 (csK (keyP x)) ∧ (W.cell? ⟨b, off + k * 4, none⟩ = some (.int .i64 ro) ∧ W.cell? ⟨b, off + k * 4 + 1, none⟩ = some (.int .i64 rn) ∧ W.cell? ⟨b, off + k * 4 + 2, none⟩ = some (.int .i64 rq) ∧ W.cell? ⟨b, off + k * 4 + 3, none⟩ = some (.bool rm))) := fun W hW => ⟨hW.keep (by simp) HL.out.bx, hW.cell (by simp) HCE.out.1, hW.cell (by simp) HCE.out.2.1, hW.cell (by simp) HCE.out.2.2.1, hW.cell (by simp) HCE.out.2.2.2⟩
        have KM : Hid (∀ W, Away [] wr W → Calls Tryd.prog 8 #[.agg (csK (keyP x)), .agg #[.int .i64 ro, .int .i64 rn, .int .i64 rq, .bool rm]] W (MadeOut W (madeP (keyP x) ⟨ro, rn, rq, rm⟩))) := fun W hW => made_c W (keyP x) (key_wf x) ⟨ro, rn, rq, rm⟩ HOK.out
        have HQO : Hid ((madeP (keyP x) ⟨ro, rn, rq, rm⟩).off = offR ⟨ro, rn, rq, rm⟩ ∧ (madeP (keyP x) ⟨ro, rn, rq, rm⟩).more = rm) := ⟨rfl, rfl⟩
        go_wp2_with fail
        refine wp_region_held_drew (S := fun w' => BoxK w' g9 (csK (keyP x)) ∧ (w'.cell? ⟨b, off + k * 4, none⟩ = some (.int .i64 ro) ∧ w'.cell? ⟨b, off + k * 4 + 1, none⟩ = some (.int .i64 rn) ∧ w'.cell? ⟨b, off + k * 4 + 2, none⟩ = some (.int .i64 rq) ∧ w'.cell? ⟨b, off + k * 4 + 3, none⟩ = some (.bool rm))) (by kernel_rfl) (by exact HS15.out _ HAX.out) (fun hHeld => ?_)
        refine wpAnyH_take (i := 0) (by simp only [List.getElem?_toArray, List.getElem?_cons_zero]; rfl) (by kernel_rfl) (by kernel_rfl) (by kernel_rfl) (by exact fun _ _ _ h => h) (yields_ld (ad := ⟨g9, 0, none⟩) (by rfl) _ rfl rfl (fun w' h => load29_run (boxK_range h.1) (key_ad x))) (by assumption) ?_
        try simp only [Act.put, List.setIfInBounds_toArray, List.set_cons_zero, List.set_cons_succ]
        refine wpAnyH_take (i := 1) (v := ?_) (by simp only [List.getElem?_toArray, List.getElem?_cons_succ, List.getElem?_cons_zero]; rfl) (by kernel_rfl) (by kernel_rfl) (by kernel_rfl) (by exact fun _ _ _ h => h) (Or.inl ⟨by rfl, ?_⟩) (by assumption) ?_
        rotate_left
        · intro wq hSw
          (try dsimp only at hSw)
          go_simp
          all_goals (with_reducible rfl)
        try simp only [Act.put, List.setIfInBounds_toArray, List.set_cons_zero, List.set_cons_succ]
        refine wpAnyH_take (i := 2) (v := ?_) (by simp only [List.getElem?_toArray, List.getElem?_cons_succ, List.getElem?_cons_zero]; rfl) (by kernel_rfl) (by kernel_rfl) (by kernel_rfl) (by exact fun _ _ _ h => h) (Or.inl ⟨by rfl, ?_⟩) (by assumption) ?_
        rotate_left
        · intro wq hSw
          (try dsimp only at hSw)
          go_simp
          all_goals (with_reducible rfl)
        try simp only [Act.put, List.setIfInBounds_toArray, List.set_cons_zero, List.set_cons_succ]
        refine wpAnyH_take (i := 3) (v := ?_) (by simp only [List.getElem?_toArray, List.getElem?_cons_succ, List.getElem?_cons_zero]; rfl) (by kernel_rfl) (by kernel_rfl) (by kernel_rfl) (by exact fun _ _ _ h => h) (Or.inl ⟨by rfl, ?_⟩) (by assumption) ?_
        rotate_left
        · intro wq hSw
          (try dsimp only at hSw)
          go_simp
          all_goals (with_reducible rfl)
        try simp only [Act.put, List.setIfInBounds_toArray, List.set_cons_zero, List.set_cons_succ]
        refine wpAnyH_take (i := 4) (by simp only [List.getElem?_toArray, List.getElem?_cons_succ, List.getElem?_cons_zero]; rfl) (by kernel_rfl) (by kernel_rfl) (by kernel_rfl) (by exact fun _ _ _ h => h) (yields_ld (ad := ⟨b, off + k * 4, none⟩) (by rfl) _ rfl rfl (fun w' h => ld39 h.2.1 h.2.2.1 h.2.2.2.1 h.2.2.2.2)) (by assumption) ?_
        try simp only [Act.put, List.setIfInBounds_toArray, List.set_cons_zero, List.set_cons_succ]
        refine wpAnyH_ready (rs := [5, 6]) (by kernel_rfl) (by simp) ?_
        refine AllReadyH.cons (by simp only [List.getElem?_toArray, List.getElem?_cons_succ, List.getElem?_cons_zero]; rfl) (fun K hK => ?_) (AllReadyH.cons (by simp only [List.getElem?_toArray, List.getElem?_cons_succ, List.getElem?_cons_zero]; rfl) (fun K hK => ?_) AllReadyH.nil)
        · go_simp
          refine (KM.out wr.drew HAX.out).mono ?_
          rintro E u5 ⟨dv, rfl, hpk, hnw, haw5⟩
          have HZC : Hid (wr.heap.size ≤ wr.drew.heap.size) := HAX.out.size
          have HPK := Lib.hid hpk
          have HNW := Lib.hid hnw
          replace HAX := Lib.hid (HAX.out.trans haw5)
          have HD5 := Lib.hid hpk.d.one
          clear hpk hnw haw5
          go_wp2_with fail
          refine hK.out _ _ (by exact HS15.out _ HAX.out) (fun hHeld => ?_)
          clear hK K
          try simp only [Act.put, List.setIfInBounds_toArray, List.set_cons_zero, List.set_cons_succ]
          refine wpAnyH_ready (rs := [6]) (by kernel_rfl) (by simp) ?_
          refine AllReadyH.cons (by simp only [List.getElem?_toArray, List.getElem?_cons_succ, List.getElem?_cons_zero]; rfl) (fun K hK => ?_) AllReadyH.nil
          refine step_alloc28 rfl rfl ?_
          intro g12 u6 hg12 hb12 haw6
          have HB12 := Lib.hid hb12
          have HG12 : Hid (wr.heap.size ≤ g12) := Nat.le_trans HAX.out.size hg12
          replace HAX := Lib.hid (HAX.out.trans haw6)
          have HN12 : Hid (∀ z, dv.ownBlock = some z → z ≠ g12) := fun z hz e => by have h1 := HPK.out.d.old (by rw [show (madeP (keyP x) ⟨ro, rn, rq, rm⟩).d ≠ [] ↔ True from ⟨fun _ => trivial, fun _ => made_ne x ⟨ro, rn, rq, rm⟩⟩]; trivial) z hz; omega
          replace HPK := Lib.hid (HPK.out.on haw6)
          clear hb12 haw6 hg12
          refine hK.out _ _ (by exact HS15.out _ HAX.out) (fun hHeld => ?_)
          clear hK K
          try simp only [Act.put, List.setIfInBounds_toArray, List.set_cons_zero, List.set_cons_succ]
          refine wpAnyH_ready (rs := [7]) (by kernel_rfl) (by simp) ?_
          refine AllReadyH.cons (by simp only [List.getElem?_toArray, List.getElem?_cons_succ, List.getElem?_cons_zero]; rfl) (fun K hK => ?_) AllReadyH.nil
          refine step_store28 rfl _ _ rfl g12 rfl (madeP (keyP x) ⟨ro, rn, rq, rm⟩) (.slice none 0 0) dv rfl zeroPk (.slice none 0 0) (.slice none 0 0) (by exact HB12.out) (made_ad (key_ad x) _ _) ⟨rfl, rfl⟩ rfl HD5.out ?_
          intro u7 hb12 haw7
          have HBX := Lib.hid hb12
          have HAXF : Hid (Away [] wr u7) := HAX.out.next haw7 (fun z hz => .inr (by simp at hz; rw [hz]; exact HG12.out))
          have HPKF : Hid (Pkt u7 (madeP (keyP x) ⟨ro, rn, rq, rm⟩) (.slice none 0 0) dv) := HPK.out.away haw7 ⟨fun e => absurd rfl e, fun _ z hz => by simpa using HN12.out z hz⟩
          have HDVN : Hid (∀ z, dv.ownBlock = some z → wr.heap.size ≤ z) := fun z hz => Nat.le_trans HZC.out (HNW.out z hz)
          clear hb12 haw7
          refine hK.out _ _ (by exact HS15.out _ HAXF.out) (fun hHeld => ?_)
          clear hK K
          try simp only [Act.put]
          refine wpAnyH_done (by kernel_rfl) ?_ _
          have HLF := Lib.hid (HL.out.on HAXF.out)
          have HADM : Hid (Ad (madeP (keyP x) ⟨ro, rn, rq, rm⟩)) := made_ad (key_ad x) _ _
          have KP : Hid (Calls Tryd.prog 9 #[.pointer (some ⟨g, 0, none⟩), .agg (csP (madeP (keyP x) ⟨ro, rn, rq, rm⟩) (.slice none 0 0) dv)] u7 (PutE u7 g (eP x) (madeP (keyP x) ⟨ro, rn, rq, rm⟩) [g])) :=
            eput_c HLF.out.ey _ _ dv HPKF.out (HG.out.on HLF.out.aw) ⟨fun e => absurd rfl e, fun _ z hz hm => by simp at hm; subst hm; have h1 := HDVN.out z hz; have h2 := HL.out.ey.ent.lt z (by simp); omega⟩ (fun hm => by simp at hm; have := HL.out.gn; omega)
          have c43 := (HBX.out.cells HADM.out).off
          have c41 := (HBX.out.cells HADM.out).more
          rw [HQO.out.1] at c43
          rw [HQO.out.2] at c41
          replace HL := HLF
          clear HLF hHeld HAXF HS15 KM HAX HPK HNW HCE
          generalize hMP : madeP (keyP x) ⟨ro, rn, rq, rm⟩ = q at *
          generalize offR ⟨ro, rn, rq, rm⟩ = of at *
          clear hMP
          by_cases ho : of = 0
          · have ho1 : (of == 0) = true := by simpa using ho
            have ho2 : ¬ (0 < of) := by omega
            cases rm with
            | true =>
              have HPW : Hid ((putS (eP x) q).1 = 2 ∧ (putS (eP x) q).2 = eP x) := by
                show _ ∧ _
                rw [bad_put, HOWN.out]
                simp [ho2]
              go_wp2_with (refine wpList_load28 rfl _ rfl _ rfl q _ _ (by exact HBX.out) HADM.out ?_)
              refine KP.out.mono ?_
              rintro E u8 ⟨rfl, fp8, hy8, -, haw8⟩
              rw [HPW.out.1]
              rw [HPW.out.2] at hy8
              replace HL := Lib.hid (HL.out.put HGG.out hy8 haw8)
              clear hy8 haw8 KP
              have KF := Lib.hid (efirst_c HL.out.ey)
              rw [pois_first] at KF
              go_wp2_with fail
              refine KF.out.mono ?_
              rintro E z1 ⟨fo, fd, rfl, hm1, haw1⟩
              have HM1 : Hid (Mine z1 u8.heap.size zeroPk fo fd) := hm1
              replace HL := Lib.hid (HL.out.on haw1)
              have HO1 := Lib.hid hm1.o.one
              have HD1 := Lib.hid hm1.d.one
              clear hm1 haw1 KF
              go_wp2_with (refine wpList_new28 rfl rfl rfl _ _ rfl zeroPk fo fd (fun g => rfl) (fun g => rfl) ⟨rfl, rfl⟩ HO1.out HD1.out ?_; refine Hid.out ?_)
              refine Lib.hid ?_
              intro g16 z2 hg16 hb16 haw16
              have HB16 := Lib.hid hb16
              replace HL := Lib.hid (HL.out.on haw16)
              replace HM1 := Lib.hid (HM1.out.on haw16)
              clear hb16 haw16 hg16
              have KW := Lib.hid (ewhole_c HL.out.ey)
              rw [pois_whole] at KW
              go_wp2_with fail
              refine KW.out.mono ?_
              rintro E z3 ⟨wo, wd', rfl, hm2, haw2⟩
              have HM2 : Hid (Mine z3 z2.heap.size zeroPk wo wd') := hm2
              replace HL := Lib.hid (HL.out.on haw2)
              replace HM1 := Lib.hid (HM1.out.on haw2)
              replace HB16 := Lib.hid (HB16.out.on haw2)
              have HO2 := Lib.hid hm2.o.one
              have HD2 := Lib.hid hm2.d.one
              clear hm2 haw2 KW
              go_wp2_with (refine wpList_new28 rfl rfl rfl _ _ rfl zeroPk wo wd' (fun g => rfl) (fun g => rfl) ⟨rfl, rfl⟩ HO2.out HD2.out ?_; refine Hid.out ?_)
              refine Lib.hid ?_
              intro g18 z4 hg18 hb18 haw18
              have HB18 := Lib.hid hb18
              replace HL := Lib.hid (HL.out.on haw18)
              replace HM1 := Lib.hid (HM1.out.on haw18)
              replace HM2 := Lib.hid (HM2.out.on haw18)
              replace HB16 := Lib.hid (HB16.out.on haw18)
              clear hb18 haw18 hg18
              have HC : Hid (Away [] z4 z4.drew) := (Away.refl _ _).drew
              have Q11 : Hid (∀ W, Away [] z4 W → Calls Tryd.prog 11 #[.pointer (some ⟨g, 0, none⟩)] W fun E w' => E = .returned (.bool true) ∧ Away [] z4 w') := fun W hW => (isP_c (HL.out.ey.on hW).ent).mono (fun E w' h => ⟨h.1, by rw [h.2]; exact hW⟩)
              have Q12 : Hid (∀ W, Away [] z4 W → Calls Tryd.prog 12 #[.pointer (some ⟨g, 0, none⟩)] W fun E w' => E = .returned (.int .i64 0) ∧ Away [] z4 w') := fun W hW => (bytes_c (HL.out.ey.on hW).ent).mono (fun E w' h => ⟨h.1, by rw [h.2]; exact hW⟩)
              have Q13 : Hid (∀ W, Away [] z4 W → Calls Tryd.prog 13 #[.pointer (some ⟨g, 0, none⟩)] W fun E w' => E = .returned (.int .i64 0) ∧ Away [] z4 w') := fun W hW => (eholes_c (HL.out.ey.on hW).ent).mono (fun E w' h => ⟨h.1, hW.trans h.2⟩)
              have Q21a : Hid (∀ W, Away [] z4 W → Calls Tryd.prog 21 #[.agg (csP zeroPk fo fd), .agg (csP zeroPk (.slice none 0 0) (.slice none 0 0))] W fun E w' => E = .returned (.bool true) ∧ Away [] z4 w') := fun W hW => (sameP_yes zeroPk zeroPk fo fd _ _ W (mine_pkt (HM1.out.on hW)) (mine_pkt (mine_zero W 0)) rfl).mono (fun E w' h => ⟨h.1, hW.trans h.2⟩)
              have Q21b : Hid (∀ W, Away [] z4 W → Calls Tryd.prog 21 #[.agg (csP zeroPk wo wd'), .agg (csP zeroPk (.slice none 0 0) (.slice none 0 0))] W fun E w' => E = .returned (.bool true) ∧ Away [] z4 w') := fun W hW => (sameP_yes zeroPk zeroPk wo wd' _ _ W (mine_pkt (HM2.out.on hW)) (mine_pkt (mine_zero W 0)) rfl).mono (fun E w' h => ⟨h.1, hW.trans h.2⟩)
              have Q22 : Hid (∀ W, Away [] z4 W → Calls Tryd.prog 22 #[.pointer (some ⟨g, 0, none⟩)] W fun E w' => E = .returned (.agg (csK (keyP x))) ∧ Away [] z4 w') := fun W hW => (ekey_c (HL.out.ey.on hW).ent).mono (fun E w' h => ⟨h.1, hW.trans h.2⟩)
              have Q23 : Hid (∀ W, Away [] z4 W → Calls Tryd.prog 23 #[.pointer (some ⟨g, 0, none⟩)] W fun E w' => E = .returned (.int .i64 7) ∧ Away [] z4 w') := fun W hW => (born_c (HL.out.ey.on hW).ent).mono (fun E w' h => ⟨h.1, by rw [h.2]; exact hW⟩)
              have HQK : Hid (∀ w, (Op.equalIn 10000 29 (.agg (csK (keyP x))) (.agg (csK (keyP x)))).run Tryd.prog w = .ok true w) := fun w => by
                have := eq78 (keyP x) (keyP x) (key_ad x) (key_ad x) w
                rw [key_ky, show kyB (keyP x) (keyP x) = true from by simp [kyB]] at this
                exact this
              have HB36 := Lib.hid run_build36
              go_wp2_with fail
              refine wp_region_cls (C := fun w' => Away [] z4 w') (by kernel_rfl) (by kernel_rfl) HC.out ?_
              go_big_quiet_want; (refine quiet_val ?_ ?_ ?_; rotate_left; (intro w; go_simp; rfl); go_simp; go_big_quiet_on)
              go_big_quiet_want; refine quiet_call 11 #[.pointer (some ⟨g, 0, none⟩)] (.bool true) ?_ Q11.out ?_
              · intro w; go_simp; all_goals (with_reducible rfl)
              go_simp; go_big_quiet_on
              go_big_quiet_want; (refine quiet_val ?_ ?_ ?_; rotate_left; (intro w; go_simp; rfl); go_simp; go_big_quiet_on)
              go_big_quiet_want; (refine quiet_val ?_ ?_ ?_; rotate_left; (intro w; go_simp; rfl); go_simp; go_big_quiet_on)
              go_big_quiet_want; (refine quiet_val ?_ ?_ ?_; rotate_left; (intro w; go_simp; rfl); go_simp; go_big_quiet_on)
              go_big_quiet_want; refine quiet_call 12 #[.pointer (some ⟨g, 0, none⟩)] (.int .i64 0) ?_ Q12.out ?_
              · intro w; go_simp; all_goals (with_reducible rfl)
              go_simp; go_big_quiet_on
              go_big_quiet_want; (refine quiet_val ?_ ?_ ?_; rotate_left; (intro w; go_simp; rfl); go_simp; go_big_quiet_on)
              go_big_quiet_want; (refine quiet_val ?_ ?_ ?_; rotate_left; (intro w; go_simp; rfl); go_simp; go_big_quiet_on)
              go_big_quiet_want; (refine quiet_val ?_ ?_ ?_; rotate_left; (intro w; go_simp; rfl); go_simp; go_big_quiet_on)
              go_big_quiet_want; (refine quiet_val ?_ ?_ ?_; rotate_left; (intro w; go_simp; rfl); go_simp; go_big_quiet_on)
              go_big_quiet_want; refine quiet_call 13 #[.pointer (some ⟨g, 0, none⟩)] (.int .i64 0) ?_ Q13.out ?_
              · intro w; go_simp; all_goals (with_reducible rfl)
              go_simp; go_big_quiet_on
              go_big_quiet_want; (refine quiet_val ?_ ?_ ?_; rotate_left; (intro w; go_simp; rfl); go_simp; go_big_quiet_on)
              go_big_quiet_want; (refine quiet_val ?_ ?_ ?_; rotate_left; (intro w; go_simp; rfl); go_simp; go_big_quiet_on)
              go_big_quiet_want; (refine quiet_val ?_ ?_ ?_; rotate_left; (intro w; go_simp; rfl); go_simp; go_big_quiet_on)
              go_big_quiet_want; (refine quiet_val ?_ ?_ ?_; rotate_left; (intro w; go_simp; rfl); go_simp; go_big_quiet_on)
              go_big_quiet_want; (refine quiet_val ?_ ?_ ?_; rotate_left; (intro w; go_simp; rfl); go_simp; go_big_quiet_on)
              go_big_quiet_want; (refine quiet_val ?_ ?_ ?_; rotate_left; (intro w; go_simp; rfl); go_simp; go_big_quiet_on)
              go_big_quiet_want; (refine quiet_val ?_ ?_ ?_; rotate_left; (intro w; go_simp; rfl); go_simp; go_big_quiet_on)
              go_big_quiet_want; (refine quiet_val ?_ ?_ ?_; rotate_left; (intro w; go_simp; rfl); go_simp; go_big_quiet_on)
              go_big_quiet_want; (refine quiet_val ?_ ?_ ?_; rotate_left; (intro w; go_simp; rfl); go_simp; go_big_quiet_on)
              go_big_quiet_want; refine quiet_ld _ rfl (ad := ⟨g16, 0, none⟩) rfl (fun w' h => load28_run (HB16.out.on h) ⟨rfl, rfl⟩) ?_; go_simp; go_big_quiet_on
              go_big_quiet_want; refine quiet_build36 rfl ?_; go_simp; go_big_quiet_on
              go_big_quiet_want; refine quiet_call 21 #[.agg (csP zeroPk fo fd), .agg (csP zeroPk (.slice none 0 0) (.slice none 0 0))] (.bool true) ?_ Q21a.out ?_
              · intro w; go_simp; all_goals (with_reducible rfl)
              go_simp; go_big_quiet_on
              go_big_quiet_want; (refine quiet_val ?_ ?_ ?_; rotate_left; (intro w; go_simp; rfl); go_simp; go_big_quiet_on)
              go_big_quiet_want; (refine quiet_val ?_ ?_ ?_; rotate_left; (intro w; go_simp; rfl); go_simp; go_big_quiet_on)
              go_big_quiet_want; (refine quiet_val ?_ ?_ ?_; rotate_left; (intro w; go_simp; rfl); go_simp; go_big_quiet_on)
              go_big_quiet_want; refine quiet_ld _ rfl (ad := ⟨g18, 0, none⟩) rfl (fun w' h => load28_run (HB18.out.on h) ⟨rfl, rfl⟩) ?_; go_simp; go_big_quiet_on
              go_big_quiet_want; refine quiet_build36 rfl ?_; go_simp; go_big_quiet_on
              go_big_quiet_want; refine quiet_call 21 #[.agg (csP zeroPk wo wd'), .agg (csP zeroPk (.slice none 0 0) (.slice none 0 0))] (.bool true) ?_ Q21b.out ?_
              · intro w; go_simp; all_goals (with_reducible rfl)
              go_simp; go_big_quiet_on
              go_big_quiet_want; (refine quiet_val ?_ ?_ ?_; rotate_left; (intro w; go_simp; rfl); go_simp; go_big_quiet_on)
              go_big_quiet_want; (refine quiet_val ?_ ?_ ?_; rotate_left; (intro w; go_simp; rfl); go_simp; go_big_quiet_on)
              go_big_quiet_want; (refine quiet_val ?_ ?_ ?_; rotate_left; (intro w; go_simp; rfl); go_simp; go_big_quiet_on)
              go_big_quiet_want; (refine quiet_val ?_ ?_ ?_; rotate_left; (intro w; go_simp; rfl); go_simp; go_big_quiet_on)
              go_big_quiet_want; refine quiet_call 22 #[.pointer (some ⟨g, 0, none⟩)] (.agg (csK (keyP x))) ?_ Q22.out ?_
              · intro w; go_simp; all_goals (with_reducible rfl)
              go_simp; go_big_quiet_on
              go_big_quiet_want; refine quiet_ld _ rfl (ad := ⟨g9, 0, none⟩) rfl (fun w' h => load29_run (range_away h (by simp) (boxK_range HL.out.bx)) (key_ad x)) ?_; go_simp; go_big_quiet_on
              go_big_quiet_want; refine quiet_ne78 _ _ rfl (csK (keyP x)) (csK (keyP x)) rfl rfl true HQK.out ?_; go_simp; go_big_quiet_on
              go_big_quiet_want; (refine quiet_val ?_ ?_ ?_; rotate_left; (intro w; go_simp; rfl); go_simp; go_big_quiet_on)
              go_big_quiet_want; (refine quiet_val ?_ ?_ ?_; rotate_left; (intro w; go_simp; rfl); go_simp; go_big_quiet_on)
              go_big_quiet_want; (refine quiet_val ?_ ?_ ?_; rotate_left; (intro w; go_simp; rfl); go_simp; go_big_quiet_on)
              go_big_quiet_want; refine quiet_call 23 #[.pointer (some ⟨g, 0, none⟩)] (.int .i64 7) ?_ Q23.out ?_
              · intro w; go_simp; all_goals (with_reducible rfl)
              go_simp; go_big_quiet_on
              go_big_quiet_want; (refine quiet_val ?_ ?_ ?_; rotate_left; (intro w; go_simp; rfl); go_simp; go_big_quiet_on)
              go_big_quiet_want; (refine quiet_val ?_ ?_ ?_; rotate_left; (intro w; go_simp; rfl); go_simp; go_big_quiet_on)
              refine wpQuiet_nil ?_
              intro V hV
              replace HL := Lib.hid (HL.out.on hV)
              clear hV
              go_wp2_with fail
              go_roundw
              case rel => exact ⟨k + 1, by omega, by go_num, HL.out⟩
              case measure => simp [intOf]; omega
            | false =>
              have HPW : Hid ((putS (eP x) q).1 = 1 ∧ (putS (eP x) q).2 = eP x) := by
                show _ ∧ _
                rw [bad_put, HOWN.out]
                simp [ho2]
              go_wp2_with (refine wpList_load28 rfl _ rfl _ rfl q _ _ (by exact HBX.out) HADM.out ?_)
              refine KP.out.mono ?_
              rintro E u8 ⟨rfl, fp8, hy8, -, haw8⟩
              rw [HPW.out.1]
              rw [HPW.out.2] at hy8
              replace HL := Lib.hid (HL.out.put HGG.out hy8 haw8)
              clear hy8 haw8 KP
              have KF := Lib.hid (efirst_c HL.out.ey)
              rw [pois_first] at KF
              go_wp2_with fail
              refine KF.out.mono ?_
              rintro E z1 ⟨fo, fd, rfl, hm1, haw1⟩
              have HM1 : Hid (Mine z1 u8.heap.size zeroPk fo fd) := hm1
              replace HL := Lib.hid (HL.out.on haw1)
              have HO1 := Lib.hid hm1.o.one
              have HD1 := Lib.hid hm1.d.one
              clear hm1 haw1 KF
              go_wp2_with (refine wpList_new28 rfl rfl rfl _ _ rfl zeroPk fo fd (fun g => rfl) (fun g => rfl) ⟨rfl, rfl⟩ HO1.out HD1.out ?_; refine Hid.out ?_)
              refine Lib.hid ?_
              intro g16 z2 hg16 hb16 haw16
              have HB16 := Lib.hid hb16
              replace HL := Lib.hid (HL.out.on haw16)
              replace HM1 := Lib.hid (HM1.out.on haw16)
              clear hb16 haw16 hg16
              have KW := Lib.hid (ewhole_c HL.out.ey)
              rw [pois_whole] at KW
              go_wp2_with fail
              refine KW.out.mono ?_
              rintro E z3 ⟨wo, wd', rfl, hm2, haw2⟩
              have HM2 : Hid (Mine z3 z2.heap.size zeroPk wo wd') := hm2
              replace HL := Lib.hid (HL.out.on haw2)
              replace HM1 := Lib.hid (HM1.out.on haw2)
              replace HB16 := Lib.hid (HB16.out.on haw2)
              have HO2 := Lib.hid hm2.o.one
              have HD2 := Lib.hid hm2.d.one
              clear hm2 haw2 KW
              go_wp2_with (refine wpList_new28 rfl rfl rfl _ _ rfl zeroPk wo wd' (fun g => rfl) (fun g => rfl) ⟨rfl, rfl⟩ HO2.out HD2.out ?_; refine Hid.out ?_)
              refine Lib.hid ?_
              intro g18 z4 hg18 hb18 haw18
              have HB18 := Lib.hid hb18
              replace HL := Lib.hid (HL.out.on haw18)
              replace HM1 := Lib.hid (HM1.out.on haw18)
              replace HM2 := Lib.hid (HM2.out.on haw18)
              replace HB16 := Lib.hid (HB16.out.on haw18)
              clear hb18 haw18 hg18
              have HC : Hid (Away [] z4 z4.drew) := (Away.refl _ _).drew
              have Q11 : Hid (∀ W, Away [] z4 W → Calls Tryd.prog 11 #[.pointer (some ⟨g, 0, none⟩)] W fun E w' => E = .returned (.bool true) ∧ Away [] z4 w') := fun W hW => (isP_c (HL.out.ey.on hW).ent).mono (fun E w' h => ⟨h.1, by rw [h.2]; exact hW⟩)
              have Q12 : Hid (∀ W, Away [] z4 W → Calls Tryd.prog 12 #[.pointer (some ⟨g, 0, none⟩)] W fun E w' => E = .returned (.int .i64 0) ∧ Away [] z4 w') := fun W hW => (bytes_c (HL.out.ey.on hW).ent).mono (fun E w' h => ⟨h.1, by rw [h.2]; exact hW⟩)
              have Q13 : Hid (∀ W, Away [] z4 W → Calls Tryd.prog 13 #[.pointer (some ⟨g, 0, none⟩)] W fun E w' => E = .returned (.int .i64 0) ∧ Away [] z4 w') := fun W hW => (eholes_c (HL.out.ey.on hW).ent).mono (fun E w' h => ⟨h.1, hW.trans h.2⟩)
              have Q21a : Hid (∀ W, Away [] z4 W → Calls Tryd.prog 21 #[.agg (csP zeroPk fo fd), .agg (csP zeroPk (.slice none 0 0) (.slice none 0 0))] W fun E w' => E = .returned (.bool true) ∧ Away [] z4 w') := fun W hW => (sameP_yes zeroPk zeroPk fo fd _ _ W (mine_pkt (HM1.out.on hW)) (mine_pkt (mine_zero W 0)) rfl).mono (fun E w' h => ⟨h.1, hW.trans h.2⟩)
              have Q21b : Hid (∀ W, Away [] z4 W → Calls Tryd.prog 21 #[.agg (csP zeroPk wo wd'), .agg (csP zeroPk (.slice none 0 0) (.slice none 0 0))] W fun E w' => E = .returned (.bool true) ∧ Away [] z4 w') := fun W hW => (sameP_yes zeroPk zeroPk wo wd' _ _ W (mine_pkt (HM2.out.on hW)) (mine_pkt (mine_zero W 0)) rfl).mono (fun E w' h => ⟨h.1, hW.trans h.2⟩)
              have Q22 : Hid (∀ W, Away [] z4 W → Calls Tryd.prog 22 #[.pointer (some ⟨g, 0, none⟩)] W fun E w' => E = .returned (.agg (csK (keyP x))) ∧ Away [] z4 w') := fun W hW => (ekey_c (HL.out.ey.on hW).ent).mono (fun E w' h => ⟨h.1, hW.trans h.2⟩)
              have Q23 : Hid (∀ W, Away [] z4 W → Calls Tryd.prog 23 #[.pointer (some ⟨g, 0, none⟩)] W fun E w' => E = .returned (.int .i64 7) ∧ Away [] z4 w') := fun W hW => (born_c (HL.out.ey.on hW).ent).mono (fun E w' h => ⟨h.1, by rw [h.2]; exact hW⟩)
              have HQK : Hid (∀ w, (Op.equalIn 10000 29 (.agg (csK (keyP x))) (.agg (csK (keyP x)))).run Tryd.prog w = .ok true w) := fun w => by
                have := eq78 (keyP x) (keyP x) (key_ad x) (key_ad x) w
                rw [key_ky, show kyB (keyP x) (keyP x) = true from by simp [kyB]] at this
                exact this
              have HB36 := Lib.hid run_build36
              go_wp2_with fail
              refine wp_region_cls (C := fun w' => Away [] z4 w') (by kernel_rfl) (by kernel_rfl) HC.out ?_
              go_big_quiet_want; (refine quiet_val ?_ ?_ ?_; rotate_left; (intro w; go_simp; rfl); go_simp; go_big_quiet_on)
              go_big_quiet_want; refine quiet_call 11 #[.pointer (some ⟨g, 0, none⟩)] (.bool true) ?_ Q11.out ?_
              · intro w; go_simp; all_goals (with_reducible rfl)
              go_simp; go_big_quiet_on
              go_big_quiet_want; (refine quiet_val ?_ ?_ ?_; rotate_left; (intro w; go_simp; rfl); go_simp; go_big_quiet_on)
              go_big_quiet_want; (refine quiet_val ?_ ?_ ?_; rotate_left; (intro w; go_simp; rfl); go_simp; go_big_quiet_on)
              go_big_quiet_want; (refine quiet_val ?_ ?_ ?_; rotate_left; (intro w; go_simp; rfl); go_simp; go_big_quiet_on)
              go_big_quiet_want; refine quiet_call 12 #[.pointer (some ⟨g, 0, none⟩)] (.int .i64 0) ?_ Q12.out ?_
              · intro w; go_simp; all_goals (with_reducible rfl)
              go_simp; go_big_quiet_on
              go_big_quiet_want; (refine quiet_val ?_ ?_ ?_; rotate_left; (intro w; go_simp; rfl); go_simp; go_big_quiet_on)
              go_big_quiet_want; (refine quiet_val ?_ ?_ ?_; rotate_left; (intro w; go_simp; rfl); go_simp; go_big_quiet_on)
              go_big_quiet_want; (refine quiet_val ?_ ?_ ?_; rotate_left; (intro w; go_simp; rfl); go_simp; go_big_quiet_on)
              go_big_quiet_want; (refine quiet_val ?_ ?_ ?_; rotate_left; (intro w; go_simp; rfl); go_simp; go_big_quiet_on)
              go_big_quiet_want; refine quiet_call 13 #[.pointer (some ⟨g, 0, none⟩)] (.int .i64 0) ?_ Q13.out ?_
              · intro w; go_simp; all_goals (with_reducible rfl)
              go_simp; go_big_quiet_on
              go_big_quiet_want; (refine quiet_val ?_ ?_ ?_; rotate_left; (intro w; go_simp; rfl); go_simp; go_big_quiet_on)
              go_big_quiet_want; (refine quiet_val ?_ ?_ ?_; rotate_left; (intro w; go_simp; rfl); go_simp; go_big_quiet_on)
              go_big_quiet_want; (refine quiet_val ?_ ?_ ?_; rotate_left; (intro w; go_simp; rfl); go_simp; go_big_quiet_on)
              go_big_quiet_want; (refine quiet_val ?_ ?_ ?_; rotate_left; (intro w; go_simp; rfl); go_simp; go_big_quiet_on)
              go_big_quiet_want; (refine quiet_val ?_ ?_ ?_; rotate_left; (intro w; go_simp; rfl); go_simp; go_big_quiet_on)
              go_big_quiet_want; (refine quiet_val ?_ ?_ ?_; rotate_left; (intro w; go_simp; rfl); go_simp; go_big_quiet_on)
              go_big_quiet_want; (refine quiet_val ?_ ?_ ?_; rotate_left; (intro w; go_simp; rfl); go_simp; go_big_quiet_on)
              go_big_quiet_want; (refine quiet_val ?_ ?_ ?_; rotate_left; (intro w; go_simp; rfl); go_simp; go_big_quiet_on)
              go_big_quiet_want; (refine quiet_val ?_ ?_ ?_; rotate_left; (intro w; go_simp; rfl); go_simp; go_big_quiet_on)
              go_big_quiet_want; refine quiet_ld _ rfl (ad := ⟨g16, 0, none⟩) rfl (fun w' h => load28_run (HB16.out.on h) ⟨rfl, rfl⟩) ?_; go_simp; go_big_quiet_on
              go_big_quiet_want; refine quiet_build36 rfl ?_; go_simp; go_big_quiet_on
              go_big_quiet_want; refine quiet_call 21 #[.agg (csP zeroPk fo fd), .agg (csP zeroPk (.slice none 0 0) (.slice none 0 0))] (.bool true) ?_ Q21a.out ?_
              · intro w; go_simp; all_goals (with_reducible rfl)
              go_simp; go_big_quiet_on
              go_big_quiet_want; (refine quiet_val ?_ ?_ ?_; rotate_left; (intro w; go_simp; rfl); go_simp; go_big_quiet_on)
              go_big_quiet_want; (refine quiet_val ?_ ?_ ?_; rotate_left; (intro w; go_simp; rfl); go_simp; go_big_quiet_on)
              go_big_quiet_want; (refine quiet_val ?_ ?_ ?_; rotate_left; (intro w; go_simp; rfl); go_simp; go_big_quiet_on)
              go_big_quiet_want; refine quiet_ld _ rfl (ad := ⟨g18, 0, none⟩) rfl (fun w' h => load28_run (HB18.out.on h) ⟨rfl, rfl⟩) ?_; go_simp; go_big_quiet_on
              go_big_quiet_want; refine quiet_build36 rfl ?_; go_simp; go_big_quiet_on
              go_big_quiet_want; refine quiet_call 21 #[.agg (csP zeroPk wo wd'), .agg (csP zeroPk (.slice none 0 0) (.slice none 0 0))] (.bool true) ?_ Q21b.out ?_
              · intro w; go_simp; all_goals (with_reducible rfl)
              go_simp; go_big_quiet_on
              go_big_quiet_want; (refine quiet_val ?_ ?_ ?_; rotate_left; (intro w; go_simp; rfl); go_simp; go_big_quiet_on)
              go_big_quiet_want; (refine quiet_val ?_ ?_ ?_; rotate_left; (intro w; go_simp; rfl); go_simp; go_big_quiet_on)
              go_big_quiet_want; (refine quiet_val ?_ ?_ ?_; rotate_left; (intro w; go_simp; rfl); go_simp; go_big_quiet_on)
              go_big_quiet_want; (refine quiet_val ?_ ?_ ?_; rotate_left; (intro w; go_simp; rfl); go_simp; go_big_quiet_on)
              go_big_quiet_want; refine quiet_call 22 #[.pointer (some ⟨g, 0, none⟩)] (.agg (csK (keyP x))) ?_ Q22.out ?_
              · intro w; go_simp; all_goals (with_reducible rfl)
              go_simp; go_big_quiet_on
              go_big_quiet_want; refine quiet_ld _ rfl (ad := ⟨g9, 0, none⟩) rfl (fun w' h => load29_run (range_away h (by simp) (boxK_range HL.out.bx)) (key_ad x)) ?_; go_simp; go_big_quiet_on
              go_big_quiet_want; refine quiet_ne78 _ _ rfl (csK (keyP x)) (csK (keyP x)) rfl rfl true HQK.out ?_; go_simp; go_big_quiet_on
              go_big_quiet_want; (refine quiet_val ?_ ?_ ?_; rotate_left; (intro w; go_simp; rfl); go_simp; go_big_quiet_on)
              go_big_quiet_want; (refine quiet_val ?_ ?_ ?_; rotate_left; (intro w; go_simp; rfl); go_simp; go_big_quiet_on)
              go_big_quiet_want; (refine quiet_val ?_ ?_ ?_; rotate_left; (intro w; go_simp; rfl); go_simp; go_big_quiet_on)
              go_big_quiet_want; refine quiet_call 23 #[.pointer (some ⟨g, 0, none⟩)] (.int .i64 7) ?_ Q23.out ?_
              · intro w; go_simp; all_goals (with_reducible rfl)
              go_simp; go_big_quiet_on
              go_big_quiet_want; (refine quiet_val ?_ ?_ ?_; rotate_left; (intro w; go_simp; rfl); go_simp; go_big_quiet_on)
              go_big_quiet_want; (refine quiet_val ?_ ?_ ?_; rotate_left; (intro w; go_simp; rfl); go_simp; go_big_quiet_on)
              refine wpQuiet_nil ?_
              intro V hV
              replace HL := Lib.hid (HL.out.on hV)
              clear hV
              go_wp2_with fail
              go_roundw
              case rel => exact ⟨k + 1, by omega, by go_num, HL.out⟩
              case measure => simp [intOf]; omega
          · have ho1 : (of == 0) = false := by simpa using ho
            have ho2 : 0 < of := by have := HOB.out; omega
            have HPW : Hid ((putS (eP x) q).1 = 2 ∧ (putS (eP x) q).2 = eP x) := by
              show _ ∧ _
              rw [bad_put, HOWN.out]
              simp [ho2]
            go_wp2_with (refine wpList_load28 rfl _ rfl _ rfl q _ _ (by exact HBX.out) HADM.out ?_)
            refine KP.out.mono ?_
            rintro E u8 ⟨rfl, fp8, hy8, -, haw8⟩
            rw [HPW.out.1]
            rw [HPW.out.2] at hy8
            replace HL := Lib.hid (HL.out.put HGG.out hy8 haw8)
            clear hy8 haw8 KP
            have KF := Lib.hid (efirst_c HL.out.ey)
            rw [pois_first] at KF
            go_wp2_with fail
            refine KF.out.mono ?_
            rintro E z1 ⟨fo, fd, rfl, hm1, haw1⟩
            have HM1 : Hid (Mine z1 u8.heap.size zeroPk fo fd) := hm1
            replace HL := Lib.hid (HL.out.on haw1)
            have HO1 := Lib.hid hm1.o.one
            have HD1 := Lib.hid hm1.d.one
            clear hm1 haw1 KF
            go_wp2_with (refine wpList_new28 rfl rfl rfl _ _ rfl zeroPk fo fd (fun g => rfl) (fun g => rfl) ⟨rfl, rfl⟩ HO1.out HD1.out ?_; refine Hid.out ?_)
            refine Lib.hid ?_
            intro g16 z2 hg16 hb16 haw16
            have HB16 := Lib.hid hb16
            replace HL := Lib.hid (HL.out.on haw16)
            replace HM1 := Lib.hid (HM1.out.on haw16)
            clear hb16 haw16 hg16
            have KW := Lib.hid (ewhole_c HL.out.ey)
            rw [pois_whole] at KW
            go_wp2_with fail
            refine KW.out.mono ?_
            rintro E z3 ⟨wo, wd', rfl, hm2, haw2⟩
            have HM2 : Hid (Mine z3 z2.heap.size zeroPk wo wd') := hm2
            replace HL := Lib.hid (HL.out.on haw2)
            replace HM1 := Lib.hid (HM1.out.on haw2)
            replace HB16 := Lib.hid (HB16.out.on haw2)
            have HO2 := Lib.hid hm2.o.one
            have HD2 := Lib.hid hm2.d.one
            clear hm2 haw2 KW
            go_wp2_with (refine wpList_new28 rfl rfl rfl _ _ rfl zeroPk wo wd' (fun g => rfl) (fun g => rfl) ⟨rfl, rfl⟩ HO2.out HD2.out ?_; refine Hid.out ?_)
            refine Lib.hid ?_
            intro g18 z4 hg18 hb18 haw18
            have HB18 := Lib.hid hb18
            replace HL := Lib.hid (HL.out.on haw18)
            replace HM1 := Lib.hid (HM1.out.on haw18)
            replace HM2 := Lib.hid (HM2.out.on haw18)
            replace HB16 := Lib.hid (HB16.out.on haw18)
            clear hb18 haw18 hg18
            have HC : Hid (Away [] z4 z4.drew) := (Away.refl _ _).drew
            have Q11 : Hid (∀ W, Away [] z4 W → Calls Tryd.prog 11 #[.pointer (some ⟨g, 0, none⟩)] W fun E w' => E = .returned (.bool true) ∧ Away [] z4 w') := fun W hW => (isP_c (HL.out.ey.on hW).ent).mono (fun E w' h => ⟨h.1, by rw [h.2]; exact hW⟩)
            have Q12 : Hid (∀ W, Away [] z4 W → Calls Tryd.prog 12 #[.pointer (some ⟨g, 0, none⟩)] W fun E w' => E = .returned (.int .i64 0) ∧ Away [] z4 w') := fun W hW => (bytes_c (HL.out.ey.on hW).ent).mono (fun E w' h => ⟨h.1, by rw [h.2]; exact hW⟩)
            have Q13 : Hid (∀ W, Away [] z4 W → Calls Tryd.prog 13 #[.pointer (some ⟨g, 0, none⟩)] W fun E w' => E = .returned (.int .i64 0) ∧ Away [] z4 w') := fun W hW => (eholes_c (HL.out.ey.on hW).ent).mono (fun E w' h => ⟨h.1, hW.trans h.2⟩)
            have Q21a : Hid (∀ W, Away [] z4 W → Calls Tryd.prog 21 #[.agg (csP zeroPk fo fd), .agg (csP zeroPk (.slice none 0 0) (.slice none 0 0))] W fun E w' => E = .returned (.bool true) ∧ Away [] z4 w') := fun W hW => (sameP_yes zeroPk zeroPk fo fd _ _ W (mine_pkt (HM1.out.on hW)) (mine_pkt (mine_zero W 0)) rfl).mono (fun E w' h => ⟨h.1, hW.trans h.2⟩)
            have Q21b : Hid (∀ W, Away [] z4 W → Calls Tryd.prog 21 #[.agg (csP zeroPk wo wd'), .agg (csP zeroPk (.slice none 0 0) (.slice none 0 0))] W fun E w' => E = .returned (.bool true) ∧ Away [] z4 w') := fun W hW => (sameP_yes zeroPk zeroPk wo wd' _ _ W (mine_pkt (HM2.out.on hW)) (mine_pkt (mine_zero W 0)) rfl).mono (fun E w' h => ⟨h.1, hW.trans h.2⟩)
            have Q22 : Hid (∀ W, Away [] z4 W → Calls Tryd.prog 22 #[.pointer (some ⟨g, 0, none⟩)] W fun E w' => E = .returned (.agg (csK (keyP x))) ∧ Away [] z4 w') := fun W hW => (ekey_c (HL.out.ey.on hW).ent).mono (fun E w' h => ⟨h.1, hW.trans h.2⟩)
            have Q23 : Hid (∀ W, Away [] z4 W → Calls Tryd.prog 23 #[.pointer (some ⟨g, 0, none⟩)] W fun E w' => E = .returned (.int .i64 7) ∧ Away [] z4 w') := fun W hW => (born_c (HL.out.ey.on hW).ent).mono (fun E w' h => ⟨h.1, by rw [h.2]; exact hW⟩)
            have HQK : Hid (∀ w, (Op.equalIn 10000 29 (.agg (csK (keyP x))) (.agg (csK (keyP x)))).run Tryd.prog w = .ok true w) := fun w => by
              have := eq78 (keyP x) (keyP x) (key_ad x) (key_ad x) w
              rw [key_ky, show kyB (keyP x) (keyP x) = true from by simp [kyB]] at this
              exact this
            have HB36 := Lib.hid run_build36
            go_wp2_with fail
            refine wp_region_cls (C := fun w' => Away [] z4 w') (by kernel_rfl) (by kernel_rfl) HC.out ?_
            go_big_quiet_want; (refine quiet_val ?_ ?_ ?_; rotate_left; (intro w; go_simp; rfl); go_simp; go_big_quiet_on)
            go_big_quiet_want; refine quiet_call 11 #[.pointer (some ⟨g, 0, none⟩)] (.bool true) ?_ Q11.out ?_
            · intro w; go_simp; all_goals (with_reducible rfl)
            go_simp; go_big_quiet_on
            go_big_quiet_want; (refine quiet_val ?_ ?_ ?_; rotate_left; (intro w; go_simp; rfl); go_simp; go_big_quiet_on)
            go_big_quiet_want; (refine quiet_val ?_ ?_ ?_; rotate_left; (intro w; go_simp; rfl); go_simp; go_big_quiet_on)
            go_big_quiet_want; (refine quiet_val ?_ ?_ ?_; rotate_left; (intro w; go_simp; rfl); go_simp; go_big_quiet_on)
            go_big_quiet_want; refine quiet_call 12 #[.pointer (some ⟨g, 0, none⟩)] (.int .i64 0) ?_ Q12.out ?_
            · intro w; go_simp; all_goals (with_reducible rfl)
            go_simp; go_big_quiet_on
            go_big_quiet_want; (refine quiet_val ?_ ?_ ?_; rotate_left; (intro w; go_simp; rfl); go_simp; go_big_quiet_on)
            go_big_quiet_want; (refine quiet_val ?_ ?_ ?_; rotate_left; (intro w; go_simp; rfl); go_simp; go_big_quiet_on)
            go_big_quiet_want; (refine quiet_val ?_ ?_ ?_; rotate_left; (intro w; go_simp; rfl); go_simp; go_big_quiet_on)
            go_big_quiet_want; (refine quiet_val ?_ ?_ ?_; rotate_left; (intro w; go_simp; rfl); go_simp; go_big_quiet_on)
            go_big_quiet_want; refine quiet_call 13 #[.pointer (some ⟨g, 0, none⟩)] (.int .i64 0) ?_ Q13.out ?_
            · intro w; go_simp; all_goals (with_reducible rfl)
            go_simp; go_big_quiet_on
            go_big_quiet_want; (refine quiet_val ?_ ?_ ?_; rotate_left; (intro w; go_simp; rfl); go_simp; go_big_quiet_on)
            go_big_quiet_want; (refine quiet_val ?_ ?_ ?_; rotate_left; (intro w; go_simp; rfl); go_simp; go_big_quiet_on)
            go_big_quiet_want; (refine quiet_val ?_ ?_ ?_; rotate_left; (intro w; go_simp; rfl); go_simp; go_big_quiet_on)
            go_big_quiet_want; (refine quiet_val ?_ ?_ ?_; rotate_left; (intro w; go_simp; rfl); go_simp; go_big_quiet_on)
            go_big_quiet_want; (refine quiet_val ?_ ?_ ?_; rotate_left; (intro w; go_simp; rfl); go_simp; go_big_quiet_on)
            go_big_quiet_want; (refine quiet_val ?_ ?_ ?_; rotate_left; (intro w; go_simp; rfl); go_simp; go_big_quiet_on)
            go_big_quiet_want; (refine quiet_val ?_ ?_ ?_; rotate_left; (intro w; go_simp; rfl); go_simp; go_big_quiet_on)
            go_big_quiet_want; (refine quiet_val ?_ ?_ ?_; rotate_left; (intro w; go_simp; rfl); go_simp; go_big_quiet_on)
            go_big_quiet_want; (refine quiet_val ?_ ?_ ?_; rotate_left; (intro w; go_simp; rfl); go_simp; go_big_quiet_on)
            go_big_quiet_want; refine quiet_ld _ rfl (ad := ⟨g16, 0, none⟩) rfl (fun w' h => load28_run (HB16.out.on h) ⟨rfl, rfl⟩) ?_; go_simp; go_big_quiet_on
            go_big_quiet_want; refine quiet_build36 rfl ?_; go_simp; go_big_quiet_on
            go_big_quiet_want; refine quiet_call 21 #[.agg (csP zeroPk fo fd), .agg (csP zeroPk (.slice none 0 0) (.slice none 0 0))] (.bool true) ?_ Q21a.out ?_
            · intro w; go_simp; all_goals (with_reducible rfl)
            go_simp; go_big_quiet_on
            go_big_quiet_want; (refine quiet_val ?_ ?_ ?_; rotate_left; (intro w; go_simp; rfl); go_simp; go_big_quiet_on)
            go_big_quiet_want; (refine quiet_val ?_ ?_ ?_; rotate_left; (intro w; go_simp; rfl); go_simp; go_big_quiet_on)
            go_big_quiet_want; (refine quiet_val ?_ ?_ ?_; rotate_left; (intro w; go_simp; rfl); go_simp; go_big_quiet_on)
            go_big_quiet_want; refine quiet_ld _ rfl (ad := ⟨g18, 0, none⟩) rfl (fun w' h => load28_run (HB18.out.on h) ⟨rfl, rfl⟩) ?_; go_simp; go_big_quiet_on
            go_big_quiet_want; refine quiet_build36 rfl ?_; go_simp; go_big_quiet_on
            go_big_quiet_want; refine quiet_call 21 #[.agg (csP zeroPk wo wd'), .agg (csP zeroPk (.slice none 0 0) (.slice none 0 0))] (.bool true) ?_ Q21b.out ?_
            · intro w; go_simp; all_goals (with_reducible rfl)
            go_simp; go_big_quiet_on
            go_big_quiet_want; (refine quiet_val ?_ ?_ ?_; rotate_left; (intro w; go_simp; rfl); go_simp; go_big_quiet_on)
            go_big_quiet_want; (refine quiet_val ?_ ?_ ?_; rotate_left; (intro w; go_simp; rfl); go_simp; go_big_quiet_on)
            go_big_quiet_want; (refine quiet_val ?_ ?_ ?_; rotate_left; (intro w; go_simp; rfl); go_simp; go_big_quiet_on)
            go_big_quiet_want; (refine quiet_val ?_ ?_ ?_; rotate_left; (intro w; go_simp; rfl); go_simp; go_big_quiet_on)
            go_big_quiet_want; refine quiet_call 22 #[.pointer (some ⟨g, 0, none⟩)] (.agg (csK (keyP x))) ?_ Q22.out ?_
            · intro w; go_simp; all_goals (with_reducible rfl)
            go_simp; go_big_quiet_on
            go_big_quiet_want; refine quiet_ld _ rfl (ad := ⟨g9, 0, none⟩) rfl (fun w' h => load29_run (range_away h (by simp) (boxK_range HL.out.bx)) (key_ad x)) ?_; go_simp; go_big_quiet_on
            go_big_quiet_want; refine quiet_ne78 _ _ rfl (csK (keyP x)) (csK (keyP x)) rfl rfl true HQK.out ?_; go_simp; go_big_quiet_on
            go_big_quiet_want; (refine quiet_val ?_ ?_ ?_; rotate_left; (intro w; go_simp; rfl); go_simp; go_big_quiet_on)
            go_big_quiet_want; (refine quiet_val ?_ ?_ ?_; rotate_left; (intro w; go_simp; rfl); go_simp; go_big_quiet_on)
            go_big_quiet_want; (refine quiet_val ?_ ?_ ?_; rotate_left; (intro w; go_simp; rfl); go_simp; go_big_quiet_on)
            go_big_quiet_want; refine quiet_call 23 #[.pointer (some ⟨g, 0, none⟩)] (.int .i64 7) ?_ Q23.out ?_
            · intro w; go_simp; all_goals (with_reducible rfl)
            go_simp; go_big_quiet_on
            go_big_quiet_want; (refine quiet_val ?_ ?_ ?_; rotate_left; (intro w; go_simp; rfl); go_simp; go_big_quiet_on)
            go_big_quiet_want; (refine quiet_val ?_ ?_ ?_; rotate_left; (intro w; go_simp; rfl); go_simp; go_big_quiet_on)
            refine wpQuiet_nil ?_
            intro V hV
            replace HL := Lib.hid (HL.out.on hV)
            clear hV
            go_wp2_with fail
            go_roundw
            case rel => exact ⟨k + 1, by omega, by go_num, HL.out⟩
            case measure => simp [intOf]; omega
        · refine step_alloc28 rfl rfl ?_
          intro g12 u6 hg12 hb12 haw6
          have HB12 := Lib.hid hb12
          have HG12 : Hid (wr.heap.size ≤ g12) := Nat.le_trans HAX.out.size hg12
          replace HAX := Lib.hid (HAX.out.trans haw6)
          have HL12 : Hid (g12 < u6.heap.size) := hb12.lt
          clear hb12 haw6 hg12
          refine hK.out _ _ (by exact HS15.out _ HAX.out) (fun hHeld => ?_)
          clear hK K
          try simp only [Act.put, List.setIfInBounds_toArray, List.set_cons_zero, List.set_cons_succ]
          refine wpAnyH_ready (rs := [5]) (by kernel_rfl) (by simp) ?_
          refine AllReadyH.cons (by simp only [List.getElem?_toArray, List.getElem?_cons_succ, List.getElem?_cons_zero]; rfl) (fun K hK => ?_) AllReadyH.nil
          go_simp
          refine (KM.out u6 HAX.out).mono ?_
          rintro E u5 ⟨dv, rfl, hpk, hnw, haw5⟩
          have HZC : Hid (wr.heap.size ≤ u6.heap.size) := HAX.out.size
          have HPK := Lib.hid hpk
          have HNW := Lib.hid hnw
          replace HAX := Lib.hid (HAX.out.trans haw5)
          have HD5 := Lib.hid hpk.d.one
          replace HB12 := Lib.hid (HB12.out.on haw5)
          clear hpk hnw haw5
          go_wp2_with fail
          refine hK.out _ _ (by exact HS15.out _ HAX.out) (fun hHeld => ?_)
          clear hK K
          try simp only [Act.put, List.setIfInBounds_toArray, List.set_cons_zero, List.set_cons_succ]
          refine wpAnyH_ready (rs := [7]) (by kernel_rfl) (by simp) ?_
          refine AllReadyH.cons (by simp only [List.getElem?_toArray, List.getElem?_cons_succ, List.getElem?_cons_zero]; rfl) (fun K hK => ?_) AllReadyH.nil
          have HN12 : Hid (∀ z, dv.ownBlock = some z → z ≠ g12) := fun z hz e => by have h1 := HNW.out z hz; have h2 := HL12.out; omega
          refine step_store28 rfl _ _ rfl g12 rfl (madeP (keyP x) ⟨ro, rn, rq, rm⟩) (.slice none 0 0) dv rfl zeroPk (.slice none 0 0) (.slice none 0 0) (by exact HB12.out) (made_ad (key_ad x) _ _) ⟨rfl, rfl⟩ rfl HD5.out ?_
          intro u7 hb12 haw7
          have HBX := Lib.hid hb12
          have HAXF : Hid (Away [] wr u7) := HAX.out.next haw7 (fun z hz => .inr (by simp at hz; rw [hz]; exact HG12.out))
          have HPKF : Hid (Pkt u7 (madeP (keyP x) ⟨ro, rn, rq, rm⟩) (.slice none 0 0) dv) := HPK.out.away haw7 ⟨fun e => absurd rfl e, fun _ z hz => by simpa using HN12.out z hz⟩
          have HDVN : Hid (∀ z, dv.ownBlock = some z → wr.heap.size ≤ z) := fun z hz => Nat.le_trans HZC.out (HNW.out z hz)
          clear hb12 haw7
          refine hK.out _ _ (by exact HS15.out _ HAXF.out) (fun hHeld => ?_)
          clear hK K
          try simp only [Act.put]
          refine wpAnyH_done (by kernel_rfl) ?_ _
          have HLF := Lib.hid (HL.out.on HAXF.out)
          have HADM : Hid (Ad (madeP (keyP x) ⟨ro, rn, rq, rm⟩)) := made_ad (key_ad x) _ _
          have KP : Hid (Calls Tryd.prog 9 #[.pointer (some ⟨g, 0, none⟩), .agg (csP (madeP (keyP x) ⟨ro, rn, rq, rm⟩) (.slice none 0 0) dv)] u7 (PutE u7 g (eP x) (madeP (keyP x) ⟨ro, rn, rq, rm⟩) [g])) :=
            eput_c HLF.out.ey _ _ dv HPKF.out (HG.out.on HLF.out.aw) ⟨fun e => absurd rfl e, fun _ z hz hm => by simp at hm; subst hm; have h1 := HDVN.out z hz; have h2 := HL.out.ey.ent.lt z (by simp); omega⟩ (fun hm => by simp at hm; have := HL.out.gn; omega)
          have c43 := (HBX.out.cells HADM.out).off
          have c41 := (HBX.out.cells HADM.out).more
          rw [HQO.out.1] at c43
          rw [HQO.out.2] at c41
          replace HL := HLF
          clear HLF hHeld HAXF HS15 KM HAX HPK HNW HCE
          generalize hMP : madeP (keyP x) ⟨ro, rn, rq, rm⟩ = q at *
          generalize offR ⟨ro, rn, rq, rm⟩ = of at *
          clear hMP
          by_cases ho : of = 0
          · have ho1 : (of == 0) = true := by simpa using ho
            have ho2 : ¬ (0 < of) := by omega
            cases rm with
            | true =>
              have HPW : Hid ((putS (eP x) q).1 = 2 ∧ (putS (eP x) q).2 = eP x) := by
                show _ ∧ _
                rw [bad_put, HOWN.out]
                simp [ho2]
              go_wp2_with (refine wpList_load28 rfl _ rfl _ rfl q _ _ (by exact HBX.out) HADM.out ?_)
              refine KP.out.mono ?_
              rintro E u8 ⟨rfl, fp8, hy8, -, haw8⟩
              rw [HPW.out.1]
              rw [HPW.out.2] at hy8
              replace HL := Lib.hid (HL.out.put HGG.out hy8 haw8)
              clear hy8 haw8 KP
              have KF := Lib.hid (efirst_c HL.out.ey)
              rw [pois_first] at KF
              go_wp2_with fail
              refine KF.out.mono ?_
              rintro E z1 ⟨fo, fd, rfl, hm1, haw1⟩
              have HM1 : Hid (Mine z1 u8.heap.size zeroPk fo fd) := hm1
              replace HL := Lib.hid (HL.out.on haw1)
              have HO1 := Lib.hid hm1.o.one
              have HD1 := Lib.hid hm1.d.one
              clear hm1 haw1 KF
              go_wp2_with (refine wpList_new28 rfl rfl rfl _ _ rfl zeroPk fo fd (fun g => rfl) (fun g => rfl) ⟨rfl, rfl⟩ HO1.out HD1.out ?_; refine Hid.out ?_)
              refine Lib.hid ?_
              intro g16 z2 hg16 hb16 haw16
              have HB16 := Lib.hid hb16
              replace HL := Lib.hid (HL.out.on haw16)
              replace HM1 := Lib.hid (HM1.out.on haw16)
              clear hb16 haw16 hg16
              have KW := Lib.hid (ewhole_c HL.out.ey)
              rw [pois_whole] at KW
              go_wp2_with fail
              refine KW.out.mono ?_
              rintro E z3 ⟨wo, wd', rfl, hm2, haw2⟩
              have HM2 : Hid (Mine z3 z2.heap.size zeroPk wo wd') := hm2
              replace HL := Lib.hid (HL.out.on haw2)
              replace HM1 := Lib.hid (HM1.out.on haw2)
              replace HB16 := Lib.hid (HB16.out.on haw2)
              have HO2 := Lib.hid hm2.o.one
              have HD2 := Lib.hid hm2.d.one
              clear hm2 haw2 KW
              go_wp2_with (refine wpList_new28 rfl rfl rfl _ _ rfl zeroPk wo wd' (fun g => rfl) (fun g => rfl) ⟨rfl, rfl⟩ HO2.out HD2.out ?_; refine Hid.out ?_)
              refine Lib.hid ?_
              intro g18 z4 hg18 hb18 haw18
              have HB18 := Lib.hid hb18
              replace HL := Lib.hid (HL.out.on haw18)
              replace HM1 := Lib.hid (HM1.out.on haw18)
              replace HM2 := Lib.hid (HM2.out.on haw18)
              replace HB16 := Lib.hid (HB16.out.on haw18)
              clear hb18 haw18 hg18
              have HC : Hid (Away [] z4 z4.drew) := (Away.refl _ _).drew
              have Q11 : Hid (∀ W, Away [] z4 W → Calls Tryd.prog 11 #[.pointer (some ⟨g, 0, none⟩)] W fun E w' => E = .returned (.bool true) ∧ Away [] z4 w') := fun W hW => (isP_c (HL.out.ey.on hW).ent).mono (fun E w' h => ⟨h.1, by rw [h.2]; exact hW⟩)
              have Q12 : Hid (∀ W, Away [] z4 W → Calls Tryd.prog 12 #[.pointer (some ⟨g, 0, none⟩)] W fun E w' => E = .returned (.int .i64 0) ∧ Away [] z4 w') := fun W hW => (bytes_c (HL.out.ey.on hW).ent).mono (fun E w' h => ⟨h.1, by rw [h.2]; exact hW⟩)
              have Q13 : Hid (∀ W, Away [] z4 W → Calls Tryd.prog 13 #[.pointer (some ⟨g, 0, none⟩)] W fun E w' => E = .returned (.int .i64 0) ∧ Away [] z4 w') := fun W hW => (eholes_c (HL.out.ey.on hW).ent).mono (fun E w' h => ⟨h.1, hW.trans h.2⟩)
              have Q21a : Hid (∀ W, Away [] z4 W → Calls Tryd.prog 21 #[.agg (csP zeroPk fo fd), .agg (csP zeroPk (.slice none 0 0) (.slice none 0 0))] W fun E w' => E = .returned (.bool true) ∧ Away [] z4 w') := fun W hW => (sameP_yes zeroPk zeroPk fo fd _ _ W (mine_pkt (HM1.out.on hW)) (mine_pkt (mine_zero W 0)) rfl).mono (fun E w' h => ⟨h.1, hW.trans h.2⟩)
              have Q21b : Hid (∀ W, Away [] z4 W → Calls Tryd.prog 21 #[.agg (csP zeroPk wo wd'), .agg (csP zeroPk (.slice none 0 0) (.slice none 0 0))] W fun E w' => E = .returned (.bool true) ∧ Away [] z4 w') := fun W hW => (sameP_yes zeroPk zeroPk wo wd' _ _ W (mine_pkt (HM2.out.on hW)) (mine_pkt (mine_zero W 0)) rfl).mono (fun E w' h => ⟨h.1, hW.trans h.2⟩)
              have Q22 : Hid (∀ W, Away [] z4 W → Calls Tryd.prog 22 #[.pointer (some ⟨g, 0, none⟩)] W fun E w' => E = .returned (.agg (csK (keyP x))) ∧ Away [] z4 w') := fun W hW => (ekey_c (HL.out.ey.on hW).ent).mono (fun E w' h => ⟨h.1, hW.trans h.2⟩)
              have Q23 : Hid (∀ W, Away [] z4 W → Calls Tryd.prog 23 #[.pointer (some ⟨g, 0, none⟩)] W fun E w' => E = .returned (.int .i64 7) ∧ Away [] z4 w') := fun W hW => (born_c (HL.out.ey.on hW).ent).mono (fun E w' h => ⟨h.1, by rw [h.2]; exact hW⟩)
              have HQK : Hid (∀ w, (Op.equalIn 10000 29 (.agg (csK (keyP x))) (.agg (csK (keyP x)))).run Tryd.prog w = .ok true w) := fun w => by
                have := eq78 (keyP x) (keyP x) (key_ad x) (key_ad x) w
                rw [key_ky, show kyB (keyP x) (keyP x) = true from by simp [kyB]] at this
                exact this
              have HB36 := Lib.hid run_build36
              go_wp2_with fail
              refine wp_region_cls (C := fun w' => Away [] z4 w') (by kernel_rfl) (by kernel_rfl) HC.out ?_
              go_big_quiet_want; (refine quiet_val ?_ ?_ ?_; rotate_left; (intro w; go_simp; rfl); go_simp; go_big_quiet_on)
              go_big_quiet_want; refine quiet_call 11 #[.pointer (some ⟨g, 0, none⟩)] (.bool true) ?_ Q11.out ?_
              · intro w; go_simp; all_goals (with_reducible rfl)
              go_simp; go_big_quiet_on
              go_big_quiet_want; (refine quiet_val ?_ ?_ ?_; rotate_left; (intro w; go_simp; rfl); go_simp; go_big_quiet_on)
              go_big_quiet_want; (refine quiet_val ?_ ?_ ?_; rotate_left; (intro w; go_simp; rfl); go_simp; go_big_quiet_on)
              go_big_quiet_want; (refine quiet_val ?_ ?_ ?_; rotate_left; (intro w; go_simp; rfl); go_simp; go_big_quiet_on)
              go_big_quiet_want; refine quiet_call 12 #[.pointer (some ⟨g, 0, none⟩)] (.int .i64 0) ?_ Q12.out ?_
              · intro w; go_simp; all_goals (with_reducible rfl)
              go_simp; go_big_quiet_on
              go_big_quiet_want; (refine quiet_val ?_ ?_ ?_; rotate_left; (intro w; go_simp; rfl); go_simp; go_big_quiet_on)
              go_big_quiet_want; (refine quiet_val ?_ ?_ ?_; rotate_left; (intro w; go_simp; rfl); go_simp; go_big_quiet_on)
              go_big_quiet_want; (refine quiet_val ?_ ?_ ?_; rotate_left; (intro w; go_simp; rfl); go_simp; go_big_quiet_on)
              go_big_quiet_want; (refine quiet_val ?_ ?_ ?_; rotate_left; (intro w; go_simp; rfl); go_simp; go_big_quiet_on)
              go_big_quiet_want; refine quiet_call 13 #[.pointer (some ⟨g, 0, none⟩)] (.int .i64 0) ?_ Q13.out ?_
              · intro w; go_simp; all_goals (with_reducible rfl)
              go_simp; go_big_quiet_on
              go_big_quiet_want; (refine quiet_val ?_ ?_ ?_; rotate_left; (intro w; go_simp; rfl); go_simp; go_big_quiet_on)
              go_big_quiet_want; (refine quiet_val ?_ ?_ ?_; rotate_left; (intro w; go_simp; rfl); go_simp; go_big_quiet_on)
              go_big_quiet_want; (refine quiet_val ?_ ?_ ?_; rotate_left; (intro w; go_simp; rfl); go_simp; go_big_quiet_on)
              go_big_quiet_want; (refine quiet_val ?_ ?_ ?_; rotate_left; (intro w; go_simp; rfl); go_simp; go_big_quiet_on)
              go_big_quiet_want; (refine quiet_val ?_ ?_ ?_; rotate_left; (intro w; go_simp; rfl); go_simp; go_big_quiet_on)
              go_big_quiet_want; (refine quiet_val ?_ ?_ ?_; rotate_left; (intro w; go_simp; rfl); go_simp; go_big_quiet_on)
              go_big_quiet_want; (refine quiet_val ?_ ?_ ?_; rotate_left; (intro w; go_simp; rfl); go_simp; go_big_quiet_on)
              go_big_quiet_want; (refine quiet_val ?_ ?_ ?_; rotate_left; (intro w; go_simp; rfl); go_simp; go_big_quiet_on)
              go_big_quiet_want; (refine quiet_val ?_ ?_ ?_; rotate_left; (intro w; go_simp; rfl); go_simp; go_big_quiet_on)
              go_big_quiet_want; refine quiet_ld _ rfl (ad := ⟨g16, 0, none⟩) rfl (fun w' h => load28_run (HB16.out.on h) ⟨rfl, rfl⟩) ?_; go_simp; go_big_quiet_on
              go_big_quiet_want; refine quiet_build36 rfl ?_; go_simp; go_big_quiet_on
              go_big_quiet_want; refine quiet_call 21 #[.agg (csP zeroPk fo fd), .agg (csP zeroPk (.slice none 0 0) (.slice none 0 0))] (.bool true) ?_ Q21a.out ?_
              · intro w; go_simp; all_goals (with_reducible rfl)
              go_simp; go_big_quiet_on
              go_big_quiet_want; (refine quiet_val ?_ ?_ ?_; rotate_left; (intro w; go_simp; rfl); go_simp; go_big_quiet_on)
              go_big_quiet_want; (refine quiet_val ?_ ?_ ?_; rotate_left; (intro w; go_simp; rfl); go_simp; go_big_quiet_on)
              go_big_quiet_want; (refine quiet_val ?_ ?_ ?_; rotate_left; (intro w; go_simp; rfl); go_simp; go_big_quiet_on)
              go_big_quiet_want; refine quiet_ld _ rfl (ad := ⟨g18, 0, none⟩) rfl (fun w' h => load28_run (HB18.out.on h) ⟨rfl, rfl⟩) ?_; go_simp; go_big_quiet_on
              go_big_quiet_want; refine quiet_build36 rfl ?_; go_simp; go_big_quiet_on
              go_big_quiet_want; refine quiet_call 21 #[.agg (csP zeroPk wo wd'), .agg (csP zeroPk (.slice none 0 0) (.slice none 0 0))] (.bool true) ?_ Q21b.out ?_
              · intro w; go_simp; all_goals (with_reducible rfl)
              go_simp; go_big_quiet_on
              go_big_quiet_want; (refine quiet_val ?_ ?_ ?_; rotate_left; (intro w; go_simp; rfl); go_simp; go_big_quiet_on)
              go_big_quiet_want; (refine quiet_val ?_ ?_ ?_; rotate_left; (intro w; go_simp; rfl); go_simp; go_big_quiet_on)
              go_big_quiet_want; (refine quiet_val ?_ ?_ ?_; rotate_left; (intro w; go_simp; rfl); go_simp; go_big_quiet_on)
              go_big_quiet_want; (refine quiet_val ?_ ?_ ?_; rotate_left; (intro w; go_simp; rfl); go_simp; go_big_quiet_on)
              go_big_quiet_want; refine quiet_call 22 #[.pointer (some ⟨g, 0, none⟩)] (.agg (csK (keyP x))) ?_ Q22.out ?_
              · intro w; go_simp; all_goals (with_reducible rfl)
              go_simp; go_big_quiet_on
              go_big_quiet_want; refine quiet_ld _ rfl (ad := ⟨g9, 0, none⟩) rfl (fun w' h => load29_run (range_away h (by simp) (boxK_range HL.out.bx)) (key_ad x)) ?_; go_simp; go_big_quiet_on
              go_big_quiet_want; refine quiet_ne78 _ _ rfl (csK (keyP x)) (csK (keyP x)) rfl rfl true HQK.out ?_; go_simp; go_big_quiet_on
              go_big_quiet_want; (refine quiet_val ?_ ?_ ?_; rotate_left; (intro w; go_simp; rfl); go_simp; go_big_quiet_on)
              go_big_quiet_want; (refine quiet_val ?_ ?_ ?_; rotate_left; (intro w; go_simp; rfl); go_simp; go_big_quiet_on)
              go_big_quiet_want; (refine quiet_val ?_ ?_ ?_; rotate_left; (intro w; go_simp; rfl); go_simp; go_big_quiet_on)
              go_big_quiet_want; refine quiet_call 23 #[.pointer (some ⟨g, 0, none⟩)] (.int .i64 7) ?_ Q23.out ?_
              · intro w; go_simp; all_goals (with_reducible rfl)
              go_simp; go_big_quiet_on
              go_big_quiet_want; (refine quiet_val ?_ ?_ ?_; rotate_left; (intro w; go_simp; rfl); go_simp; go_big_quiet_on)
              go_big_quiet_want; (refine quiet_val ?_ ?_ ?_; rotate_left; (intro w; go_simp; rfl); go_simp; go_big_quiet_on)
              refine wpQuiet_nil ?_
              intro V hV
              replace HL := Lib.hid (HL.out.on hV)
              clear hV
              go_wp2_with fail
              go_roundw
              case rel => exact ⟨k + 1, by omega, by go_num, HL.out⟩
              case measure => simp [intOf]; omega
            | false =>
              have HPW : Hid ((putS (eP x) q).1 = 1 ∧ (putS (eP x) q).2 = eP x) := by
                show _ ∧ _
                rw [bad_put, HOWN.out]
                simp [ho2]
              go_wp2_with (refine wpList_load28 rfl _ rfl _ rfl q _ _ (by exact HBX.out) HADM.out ?_)
              refine KP.out.mono ?_
              rintro E u8 ⟨rfl, fp8, hy8, -, haw8⟩
              rw [HPW.out.1]
              rw [HPW.out.2] at hy8
              replace HL := Lib.hid (HL.out.put HGG.out hy8 haw8)
              clear hy8 haw8 KP
              have KF := Lib.hid (efirst_c HL.out.ey)
              rw [pois_first] at KF
              go_wp2_with fail
              refine KF.out.mono ?_
              rintro E z1 ⟨fo, fd, rfl, hm1, haw1⟩
              have HM1 : Hid (Mine z1 u8.heap.size zeroPk fo fd) := hm1
              replace HL := Lib.hid (HL.out.on haw1)
              have HO1 := Lib.hid hm1.o.one
              have HD1 := Lib.hid hm1.d.one
              clear hm1 haw1 KF
              go_wp2_with (refine wpList_new28 rfl rfl rfl _ _ rfl zeroPk fo fd (fun g => rfl) (fun g => rfl) ⟨rfl, rfl⟩ HO1.out HD1.out ?_; refine Hid.out ?_)
              refine Lib.hid ?_
              intro g16 z2 hg16 hb16 haw16
              have HB16 := Lib.hid hb16
              replace HL := Lib.hid (HL.out.on haw16)
              replace HM1 := Lib.hid (HM1.out.on haw16)
              clear hb16 haw16 hg16
              have KW := Lib.hid (ewhole_c HL.out.ey)
              rw [pois_whole] at KW
              go_wp2_with fail
              refine KW.out.mono ?_
              rintro E z3 ⟨wo, wd', rfl, hm2, haw2⟩
              have HM2 : Hid (Mine z3 z2.heap.size zeroPk wo wd') := hm2
              replace HL := Lib.hid (HL.out.on haw2)
              replace HM1 := Lib.hid (HM1.out.on haw2)
              replace HB16 := Lib.hid (HB16.out.on haw2)
              have HO2 := Lib.hid hm2.o.one
              have HD2 := Lib.hid hm2.d.one
              clear hm2 haw2 KW
              go_wp2_with (refine wpList_new28 rfl rfl rfl _ _ rfl zeroPk wo wd' (fun g => rfl) (fun g => rfl) ⟨rfl, rfl⟩ HO2.out HD2.out ?_; refine Hid.out ?_)
              refine Lib.hid ?_
              intro g18 z4 hg18 hb18 haw18
              have HB18 := Lib.hid hb18
              replace HL := Lib.hid (HL.out.on haw18)
              replace HM1 := Lib.hid (HM1.out.on haw18)
              replace HM2 := Lib.hid (HM2.out.on haw18)
              replace HB16 := Lib.hid (HB16.out.on haw18)
              clear hb18 haw18 hg18
              have HC : Hid (Away [] z4 z4.drew) := (Away.refl _ _).drew
              have Q11 : Hid (∀ W, Away [] z4 W → Calls Tryd.prog 11 #[.pointer (some ⟨g, 0, none⟩)] W fun E w' => E = .returned (.bool true) ∧ Away [] z4 w') := fun W hW => (isP_c (HL.out.ey.on hW).ent).mono (fun E w' h => ⟨h.1, by rw [h.2]; exact hW⟩)
              have Q12 : Hid (∀ W, Away [] z4 W → Calls Tryd.prog 12 #[.pointer (some ⟨g, 0, none⟩)] W fun E w' => E = .returned (.int .i64 0) ∧ Away [] z4 w') := fun W hW => (bytes_c (HL.out.ey.on hW).ent).mono (fun E w' h => ⟨h.1, by rw [h.2]; exact hW⟩)
              have Q13 : Hid (∀ W, Away [] z4 W → Calls Tryd.prog 13 #[.pointer (some ⟨g, 0, none⟩)] W fun E w' => E = .returned (.int .i64 0) ∧ Away [] z4 w') := fun W hW => (eholes_c (HL.out.ey.on hW).ent).mono (fun E w' h => ⟨h.1, hW.trans h.2⟩)
              have Q21a : Hid (∀ W, Away [] z4 W → Calls Tryd.prog 21 #[.agg (csP zeroPk fo fd), .agg (csP zeroPk (.slice none 0 0) (.slice none 0 0))] W fun E w' => E = .returned (.bool true) ∧ Away [] z4 w') := fun W hW => (sameP_yes zeroPk zeroPk fo fd _ _ W (mine_pkt (HM1.out.on hW)) (mine_pkt (mine_zero W 0)) rfl).mono (fun E w' h => ⟨h.1, hW.trans h.2⟩)
              have Q21b : Hid (∀ W, Away [] z4 W → Calls Tryd.prog 21 #[.agg (csP zeroPk wo wd'), .agg (csP zeroPk (.slice none 0 0) (.slice none 0 0))] W fun E w' => E = .returned (.bool true) ∧ Away [] z4 w') := fun W hW => (sameP_yes zeroPk zeroPk wo wd' _ _ W (mine_pkt (HM2.out.on hW)) (mine_pkt (mine_zero W 0)) rfl).mono (fun E w' h => ⟨h.1, hW.trans h.2⟩)
              have Q22 : Hid (∀ W, Away [] z4 W → Calls Tryd.prog 22 #[.pointer (some ⟨g, 0, none⟩)] W fun E w' => E = .returned (.agg (csK (keyP x))) ∧ Away [] z4 w') := fun W hW => (ekey_c (HL.out.ey.on hW).ent).mono (fun E w' h => ⟨h.1, hW.trans h.2⟩)
              have Q23 : Hid (∀ W, Away [] z4 W → Calls Tryd.prog 23 #[.pointer (some ⟨g, 0, none⟩)] W fun E w' => E = .returned (.int .i64 7) ∧ Away [] z4 w') := fun W hW => (born_c (HL.out.ey.on hW).ent).mono (fun E w' h => ⟨h.1, by rw [h.2]; exact hW⟩)
              have HQK : Hid (∀ w, (Op.equalIn 10000 29 (.agg (csK (keyP x))) (.agg (csK (keyP x)))).run Tryd.prog w = .ok true w) := fun w => by
                have := eq78 (keyP x) (keyP x) (key_ad x) (key_ad x) w
                rw [key_ky, show kyB (keyP x) (keyP x) = true from by simp [kyB]] at this
                exact this
              have HB36 := Lib.hid run_build36
              go_wp2_with fail
              refine wp_region_cls (C := fun w' => Away [] z4 w') (by kernel_rfl) (by kernel_rfl) HC.out ?_
              go_big_quiet_want; (refine quiet_val ?_ ?_ ?_; rotate_left; (intro w; go_simp; rfl); go_simp; go_big_quiet_on)
              go_big_quiet_want; refine quiet_call 11 #[.pointer (some ⟨g, 0, none⟩)] (.bool true) ?_ Q11.out ?_
              · intro w; go_simp; all_goals (with_reducible rfl)
              go_simp; go_big_quiet_on
              go_big_quiet_want; (refine quiet_val ?_ ?_ ?_; rotate_left; (intro w; go_simp; rfl); go_simp; go_big_quiet_on)
              go_big_quiet_want; (refine quiet_val ?_ ?_ ?_; rotate_left; (intro w; go_simp; rfl); go_simp; go_big_quiet_on)
              go_big_quiet_want; (refine quiet_val ?_ ?_ ?_; rotate_left; (intro w; go_simp; rfl); go_simp; go_big_quiet_on)
              go_big_quiet_want; refine quiet_call 12 #[.pointer (some ⟨g, 0, none⟩)] (.int .i64 0) ?_ Q12.out ?_
              · intro w; go_simp; all_goals (with_reducible rfl)
              go_simp; go_big_quiet_on
              go_big_quiet_want; (refine quiet_val ?_ ?_ ?_; rotate_left; (intro w; go_simp; rfl); go_simp; go_big_quiet_on)
              go_big_quiet_want; (refine quiet_val ?_ ?_ ?_; rotate_left; (intro w; go_simp; rfl); go_simp; go_big_quiet_on)
              go_big_quiet_want; (refine quiet_val ?_ ?_ ?_; rotate_left; (intro w; go_simp; rfl); go_simp; go_big_quiet_on)
              go_big_quiet_want; (refine quiet_val ?_ ?_ ?_; rotate_left; (intro w; go_simp; rfl); go_simp; go_big_quiet_on)
              go_big_quiet_want; refine quiet_call 13 #[.pointer (some ⟨g, 0, none⟩)] (.int .i64 0) ?_ Q13.out ?_
              · intro w; go_simp; all_goals (with_reducible rfl)
              go_simp; go_big_quiet_on
              go_big_quiet_want; (refine quiet_val ?_ ?_ ?_; rotate_left; (intro w; go_simp; rfl); go_simp; go_big_quiet_on)
              go_big_quiet_want; (refine quiet_val ?_ ?_ ?_; rotate_left; (intro w; go_simp; rfl); go_simp; go_big_quiet_on)
              go_big_quiet_want; (refine quiet_val ?_ ?_ ?_; rotate_left; (intro w; go_simp; rfl); go_simp; go_big_quiet_on)
              go_big_quiet_want; (refine quiet_val ?_ ?_ ?_; rotate_left; (intro w; go_simp; rfl); go_simp; go_big_quiet_on)
              go_big_quiet_want; (refine quiet_val ?_ ?_ ?_; rotate_left; (intro w; go_simp; rfl); go_simp; go_big_quiet_on)
              go_big_quiet_want; (refine quiet_val ?_ ?_ ?_; rotate_left; (intro w; go_simp; rfl); go_simp; go_big_quiet_on)
              go_big_quiet_want; (refine quiet_val ?_ ?_ ?_; rotate_left; (intro w; go_simp; rfl); go_simp; go_big_quiet_on)
              go_big_quiet_want; (refine quiet_val ?_ ?_ ?_; rotate_left; (intro w; go_simp; rfl); go_simp; go_big_quiet_on)
              go_big_quiet_want; (refine quiet_val ?_ ?_ ?_; rotate_left; (intro w; go_simp; rfl); go_simp; go_big_quiet_on)
              go_big_quiet_want; refine quiet_ld _ rfl (ad := ⟨g16, 0, none⟩) rfl (fun w' h => load28_run (HB16.out.on h) ⟨rfl, rfl⟩) ?_; go_simp; go_big_quiet_on
              go_big_quiet_want; refine quiet_build36 rfl ?_; go_simp; go_big_quiet_on
              go_big_quiet_want; refine quiet_call 21 #[.agg (csP zeroPk fo fd), .agg (csP zeroPk (.slice none 0 0) (.slice none 0 0))] (.bool true) ?_ Q21a.out ?_
              · intro w; go_simp; all_goals (with_reducible rfl)
              go_simp; go_big_quiet_on
              go_big_quiet_want; (refine quiet_val ?_ ?_ ?_; rotate_left; (intro w; go_simp; rfl); go_simp; go_big_quiet_on)
              go_big_quiet_want; (refine quiet_val ?_ ?_ ?_; rotate_left; (intro w; go_simp; rfl); go_simp; go_big_quiet_on)
              go_big_quiet_want; (refine quiet_val ?_ ?_ ?_; rotate_left; (intro w; go_simp; rfl); go_simp; go_big_quiet_on)
              go_big_quiet_want; refine quiet_ld _ rfl (ad := ⟨g18, 0, none⟩) rfl (fun w' h => load28_run (HB18.out.on h) ⟨rfl, rfl⟩) ?_; go_simp; go_big_quiet_on
              go_big_quiet_want; refine quiet_build36 rfl ?_; go_simp; go_big_quiet_on
              go_big_quiet_want; refine quiet_call 21 #[.agg (csP zeroPk wo wd'), .agg (csP zeroPk (.slice none 0 0) (.slice none 0 0))] (.bool true) ?_ Q21b.out ?_
              · intro w; go_simp; all_goals (with_reducible rfl)
              go_simp; go_big_quiet_on
              go_big_quiet_want; (refine quiet_val ?_ ?_ ?_; rotate_left; (intro w; go_simp; rfl); go_simp; go_big_quiet_on)
              go_big_quiet_want; (refine quiet_val ?_ ?_ ?_; rotate_left; (intro w; go_simp; rfl); go_simp; go_big_quiet_on)
              go_big_quiet_want; (refine quiet_val ?_ ?_ ?_; rotate_left; (intro w; go_simp; rfl); go_simp; go_big_quiet_on)
              go_big_quiet_want; (refine quiet_val ?_ ?_ ?_; rotate_left; (intro w; go_simp; rfl); go_simp; go_big_quiet_on)
              go_big_quiet_want; refine quiet_call 22 #[.pointer (some ⟨g, 0, none⟩)] (.agg (csK (keyP x))) ?_ Q22.out ?_
              · intro w; go_simp; all_goals (with_reducible rfl)
              go_simp; go_big_quiet_on
              go_big_quiet_want; refine quiet_ld _ rfl (ad := ⟨g9, 0, none⟩) rfl (fun w' h => load29_run (range_away h (by simp) (boxK_range HL.out.bx)) (key_ad x)) ?_; go_simp; go_big_quiet_on
              go_big_quiet_want; refine quiet_ne78 _ _ rfl (csK (keyP x)) (csK (keyP x)) rfl rfl true HQK.out ?_; go_simp; go_big_quiet_on
              go_big_quiet_want; (refine quiet_val ?_ ?_ ?_; rotate_left; (intro w; go_simp; rfl); go_simp; go_big_quiet_on)
              go_big_quiet_want; (refine quiet_val ?_ ?_ ?_; rotate_left; (intro w; go_simp; rfl); go_simp; go_big_quiet_on)
              go_big_quiet_want; (refine quiet_val ?_ ?_ ?_; rotate_left; (intro w; go_simp; rfl); go_simp; go_big_quiet_on)
              go_big_quiet_want; refine quiet_call 23 #[.pointer (some ⟨g, 0, none⟩)] (.int .i64 7) ?_ Q23.out ?_
              · intro w; go_simp; all_goals (with_reducible rfl)
              go_simp; go_big_quiet_on
              go_big_quiet_want; (refine quiet_val ?_ ?_ ?_; rotate_left; (intro w; go_simp; rfl); go_simp; go_big_quiet_on)
              go_big_quiet_want; (refine quiet_val ?_ ?_ ?_; rotate_left; (intro w; go_simp; rfl); go_simp; go_big_quiet_on)
              refine wpQuiet_nil ?_
              intro V hV
              replace HL := Lib.hid (HL.out.on hV)
              clear hV
              go_wp2_with fail
              go_roundw
              case rel => exact ⟨k + 1, by omega, by go_num, HL.out⟩
              case measure => simp [intOf]; omega
          · have ho1 : (of == 0) = false := by simpa using ho
            have ho2 : 0 < of := by have := HOB.out; omega
            have HPW : Hid ((putS (eP x) q).1 = 2 ∧ (putS (eP x) q).2 = eP x) := by
              show _ ∧ _
              rw [bad_put, HOWN.out]
              simp [ho2]
            go_wp2_with (refine wpList_load28 rfl _ rfl _ rfl q _ _ (by exact HBX.out) HADM.out ?_)
            refine KP.out.mono ?_
            rintro E u8 ⟨rfl, fp8, hy8, -, haw8⟩
            rw [HPW.out.1]
            rw [HPW.out.2] at hy8
            replace HL := Lib.hid (HL.out.put HGG.out hy8 haw8)
            clear hy8 haw8 KP
            have KF := Lib.hid (efirst_c HL.out.ey)
            rw [pois_first] at KF
            go_wp2_with fail
            refine KF.out.mono ?_
            rintro E z1 ⟨fo, fd, rfl, hm1, haw1⟩
            have HM1 : Hid (Mine z1 u8.heap.size zeroPk fo fd) := hm1
            replace HL := Lib.hid (HL.out.on haw1)
            have HO1 := Lib.hid hm1.o.one
            have HD1 := Lib.hid hm1.d.one
            clear hm1 haw1 KF
            go_wp2_with (refine wpList_new28 rfl rfl rfl _ _ rfl zeroPk fo fd (fun g => rfl) (fun g => rfl) ⟨rfl, rfl⟩ HO1.out HD1.out ?_; refine Hid.out ?_)
            refine Lib.hid ?_
            intro g16 z2 hg16 hb16 haw16
            have HB16 := Lib.hid hb16
            replace HL := Lib.hid (HL.out.on haw16)
            replace HM1 := Lib.hid (HM1.out.on haw16)
            clear hb16 haw16 hg16
            have KW := Lib.hid (ewhole_c HL.out.ey)
            rw [pois_whole] at KW
            go_wp2_with fail
            refine KW.out.mono ?_
            rintro E z3 ⟨wo, wd', rfl, hm2, haw2⟩
            have HM2 : Hid (Mine z3 z2.heap.size zeroPk wo wd') := hm2
            replace HL := Lib.hid (HL.out.on haw2)
            replace HM1 := Lib.hid (HM1.out.on haw2)
            replace HB16 := Lib.hid (HB16.out.on haw2)
            have HO2 := Lib.hid hm2.o.one
            have HD2 := Lib.hid hm2.d.one
            clear hm2 haw2 KW
            go_wp2_with (refine wpList_new28 rfl rfl rfl _ _ rfl zeroPk wo wd' (fun g => rfl) (fun g => rfl) ⟨rfl, rfl⟩ HO2.out HD2.out ?_; refine Hid.out ?_)
            refine Lib.hid ?_
            intro g18 z4 hg18 hb18 haw18
            have HB18 := Lib.hid hb18
            replace HL := Lib.hid (HL.out.on haw18)
            replace HM1 := Lib.hid (HM1.out.on haw18)
            replace HM2 := Lib.hid (HM2.out.on haw18)
            replace HB16 := Lib.hid (HB16.out.on haw18)
            clear hb18 haw18 hg18
            have HC : Hid (Away [] z4 z4.drew) := (Away.refl _ _).drew
            have Q11 : Hid (∀ W, Away [] z4 W → Calls Tryd.prog 11 #[.pointer (some ⟨g, 0, none⟩)] W fun E w' => E = .returned (.bool true) ∧ Away [] z4 w') := fun W hW => (isP_c (HL.out.ey.on hW).ent).mono (fun E w' h => ⟨h.1, by rw [h.2]; exact hW⟩)
            have Q12 : Hid (∀ W, Away [] z4 W → Calls Tryd.prog 12 #[.pointer (some ⟨g, 0, none⟩)] W fun E w' => E = .returned (.int .i64 0) ∧ Away [] z4 w') := fun W hW => (bytes_c (HL.out.ey.on hW).ent).mono (fun E w' h => ⟨h.1, by rw [h.2]; exact hW⟩)
            have Q13 : Hid (∀ W, Away [] z4 W → Calls Tryd.prog 13 #[.pointer (some ⟨g, 0, none⟩)] W fun E w' => E = .returned (.int .i64 0) ∧ Away [] z4 w') := fun W hW => (eholes_c (HL.out.ey.on hW).ent).mono (fun E w' h => ⟨h.1, hW.trans h.2⟩)
            have Q21a : Hid (∀ W, Away [] z4 W → Calls Tryd.prog 21 #[.agg (csP zeroPk fo fd), .agg (csP zeroPk (.slice none 0 0) (.slice none 0 0))] W fun E w' => E = .returned (.bool true) ∧ Away [] z4 w') := fun W hW => (sameP_yes zeroPk zeroPk fo fd _ _ W (mine_pkt (HM1.out.on hW)) (mine_pkt (mine_zero W 0)) rfl).mono (fun E w' h => ⟨h.1, hW.trans h.2⟩)
            have Q21b : Hid (∀ W, Away [] z4 W → Calls Tryd.prog 21 #[.agg (csP zeroPk wo wd'), .agg (csP zeroPk (.slice none 0 0) (.slice none 0 0))] W fun E w' => E = .returned (.bool true) ∧ Away [] z4 w') := fun W hW => (sameP_yes zeroPk zeroPk wo wd' _ _ W (mine_pkt (HM2.out.on hW)) (mine_pkt (mine_zero W 0)) rfl).mono (fun E w' h => ⟨h.1, hW.trans h.2⟩)
            have Q22 : Hid (∀ W, Away [] z4 W → Calls Tryd.prog 22 #[.pointer (some ⟨g, 0, none⟩)] W fun E w' => E = .returned (.agg (csK (keyP x))) ∧ Away [] z4 w') := fun W hW => (ekey_c (HL.out.ey.on hW).ent).mono (fun E w' h => ⟨h.1, hW.trans h.2⟩)
            have Q23 : Hid (∀ W, Away [] z4 W → Calls Tryd.prog 23 #[.pointer (some ⟨g, 0, none⟩)] W fun E w' => E = .returned (.int .i64 7) ∧ Away [] z4 w') := fun W hW => (born_c (HL.out.ey.on hW).ent).mono (fun E w' h => ⟨h.1, by rw [h.2]; exact hW⟩)
            have HQK : Hid (∀ w, (Op.equalIn 10000 29 (.agg (csK (keyP x))) (.agg (csK (keyP x)))).run Tryd.prog w = .ok true w) := fun w => by
              have := eq78 (keyP x) (keyP x) (key_ad x) (key_ad x) w
              rw [key_ky, show kyB (keyP x) (keyP x) = true from by simp [kyB]] at this
              exact this
            have HB36 := Lib.hid run_build36
            go_wp2_with fail
            refine wp_region_cls (C := fun w' => Away [] z4 w') (by kernel_rfl) (by kernel_rfl) HC.out ?_
            go_big_quiet_want; (refine quiet_val ?_ ?_ ?_; rotate_left; (intro w; go_simp; rfl); go_simp; go_big_quiet_on)
            go_big_quiet_want; refine quiet_call 11 #[.pointer (some ⟨g, 0, none⟩)] (.bool true) ?_ Q11.out ?_
            · intro w; go_simp; all_goals (with_reducible rfl)
            go_simp; go_big_quiet_on
            go_big_quiet_want; (refine quiet_val ?_ ?_ ?_; rotate_left; (intro w; go_simp; rfl); go_simp; go_big_quiet_on)
            go_big_quiet_want; (refine quiet_val ?_ ?_ ?_; rotate_left; (intro w; go_simp; rfl); go_simp; go_big_quiet_on)
            go_big_quiet_want; (refine quiet_val ?_ ?_ ?_; rotate_left; (intro w; go_simp; rfl); go_simp; go_big_quiet_on)
            go_big_quiet_want; refine quiet_call 12 #[.pointer (some ⟨g, 0, none⟩)] (.int .i64 0) ?_ Q12.out ?_
            · intro w; go_simp; all_goals (with_reducible rfl)
            go_simp; go_big_quiet_on
            go_big_quiet_want; (refine quiet_val ?_ ?_ ?_; rotate_left; (intro w; go_simp; rfl); go_simp; go_big_quiet_on)
            go_big_quiet_want; (refine quiet_val ?_ ?_ ?_; rotate_left; (intro w; go_simp; rfl); go_simp; go_big_quiet_on)
            go_big_quiet_want; (refine quiet_val ?_ ?_ ?_; rotate_left; (intro w; go_simp; rfl); go_simp; go_big_quiet_on)
            go_big_quiet_want; (refine quiet_val ?_ ?_ ?_; rotate_left; (intro w; go_simp; rfl); go_simp; go_big_quiet_on)
            go_big_quiet_want; refine quiet_call 13 #[.pointer (some ⟨g, 0, none⟩)] (.int .i64 0) ?_ Q13.out ?_
            · intro w; go_simp; all_goals (with_reducible rfl)
            go_simp; go_big_quiet_on
            go_big_quiet_want; (refine quiet_val ?_ ?_ ?_; rotate_left; (intro w; go_simp; rfl); go_simp; go_big_quiet_on)
            go_big_quiet_want; (refine quiet_val ?_ ?_ ?_; rotate_left; (intro w; go_simp; rfl); go_simp; go_big_quiet_on)
            go_big_quiet_want; (refine quiet_val ?_ ?_ ?_; rotate_left; (intro w; go_simp; rfl); go_simp; go_big_quiet_on)
            go_big_quiet_want; (refine quiet_val ?_ ?_ ?_; rotate_left; (intro w; go_simp; rfl); go_simp; go_big_quiet_on)
            go_big_quiet_want; (refine quiet_val ?_ ?_ ?_; rotate_left; (intro w; go_simp; rfl); go_simp; go_big_quiet_on)
            go_big_quiet_want; (refine quiet_val ?_ ?_ ?_; rotate_left; (intro w; go_simp; rfl); go_simp; go_big_quiet_on)
            go_big_quiet_want; (refine quiet_val ?_ ?_ ?_; rotate_left; (intro w; go_simp; rfl); go_simp; go_big_quiet_on)
            go_big_quiet_want; (refine quiet_val ?_ ?_ ?_; rotate_left; (intro w; go_simp; rfl); go_simp; go_big_quiet_on)
            go_big_quiet_want; (refine quiet_val ?_ ?_ ?_; rotate_left; (intro w; go_simp; rfl); go_simp; go_big_quiet_on)
            go_big_quiet_want; refine quiet_ld _ rfl (ad := ⟨g16, 0, none⟩) rfl (fun w' h => load28_run (HB16.out.on h) ⟨rfl, rfl⟩) ?_; go_simp; go_big_quiet_on
            go_big_quiet_want; refine quiet_build36 rfl ?_; go_simp; go_big_quiet_on
            go_big_quiet_want; refine quiet_call 21 #[.agg (csP zeroPk fo fd), .agg (csP zeroPk (.slice none 0 0) (.slice none 0 0))] (.bool true) ?_ Q21a.out ?_
            · intro w; go_simp; all_goals (with_reducible rfl)
            go_simp; go_big_quiet_on
            go_big_quiet_want; (refine quiet_val ?_ ?_ ?_; rotate_left; (intro w; go_simp; rfl); go_simp; go_big_quiet_on)
            go_big_quiet_want; (refine quiet_val ?_ ?_ ?_; rotate_left; (intro w; go_simp; rfl); go_simp; go_big_quiet_on)
            go_big_quiet_want; (refine quiet_val ?_ ?_ ?_; rotate_left; (intro w; go_simp; rfl); go_simp; go_big_quiet_on)
            go_big_quiet_want; refine quiet_ld _ rfl (ad := ⟨g18, 0, none⟩) rfl (fun w' h => load28_run (HB18.out.on h) ⟨rfl, rfl⟩) ?_; go_simp; go_big_quiet_on
            go_big_quiet_want; refine quiet_build36 rfl ?_; go_simp; go_big_quiet_on
            go_big_quiet_want; refine quiet_call 21 #[.agg (csP zeroPk wo wd'), .agg (csP zeroPk (.slice none 0 0) (.slice none 0 0))] (.bool true) ?_ Q21b.out ?_
            · intro w; go_simp; all_goals (with_reducible rfl)
            go_simp; go_big_quiet_on
            go_big_quiet_want; (refine quiet_val ?_ ?_ ?_; rotate_left; (intro w; go_simp; rfl); go_simp; go_big_quiet_on)
            go_big_quiet_want; (refine quiet_val ?_ ?_ ?_; rotate_left; (intro w; go_simp; rfl); go_simp; go_big_quiet_on)
            go_big_quiet_want; (refine quiet_val ?_ ?_ ?_; rotate_left; (intro w; go_simp; rfl); go_simp; go_big_quiet_on)
            go_big_quiet_want; (refine quiet_val ?_ ?_ ?_; rotate_left; (intro w; go_simp; rfl); go_simp; go_big_quiet_on)
            go_big_quiet_want; refine quiet_call 22 #[.pointer (some ⟨g, 0, none⟩)] (.agg (csK (keyP x))) ?_ Q22.out ?_
            · intro w; go_simp; all_goals (with_reducible rfl)
            go_simp; go_big_quiet_on
            go_big_quiet_want; refine quiet_ld _ rfl (ad := ⟨g9, 0, none⟩) rfl (fun w' h => load29_run (range_away h (by simp) (boxK_range HL.out.bx)) (key_ad x)) ?_; go_simp; go_big_quiet_on
            go_big_quiet_want; refine quiet_ne78 _ _ rfl (csK (keyP x)) (csK (keyP x)) rfl rfl true HQK.out ?_; go_simp; go_big_quiet_on
            go_big_quiet_want; (refine quiet_val ?_ ?_ ?_; rotate_left; (intro w; go_simp; rfl); go_simp; go_big_quiet_on)
            go_big_quiet_want; (refine quiet_val ?_ ?_ ?_; rotate_left; (intro w; go_simp; rfl); go_simp; go_big_quiet_on)
            go_big_quiet_want; (refine quiet_val ?_ ?_ ?_; rotate_left; (intro w; go_simp; rfl); go_simp; go_big_quiet_on)
            go_big_quiet_want; refine quiet_call 23 #[.pointer (some ⟨g, 0, none⟩)] (.int .i64 7) ?_ Q23.out ?_
            · intro w; go_simp; all_goals (with_reducible rfl)
            go_simp; go_big_quiet_on
            go_big_quiet_want; (refine quiet_val ?_ ?_ ?_; rotate_left; (intro w; go_simp; rfl); go_simp; go_big_quiet_on)
            go_big_quiet_want; (refine quiet_val ?_ ?_ ?_; rotate_left; (intro w; go_simp; rfl); go_simp; go_big_quiet_on)
            refine wpQuiet_nil ?_
            intro V hV
            replace HL := Lib.hid (HL.out.on hV)
            clear hV
            go_wp2_with fail
            go_roundw
            case rel => exact ⟨k + 1, by omega, by go_num, HL.out⟩
            case measure => simp [intOf]; omega
      · obtain ⟨j, hj⟩ : ∃ j : Nat, (k : Int) - n = j := ⟨k - n, by omega⟩
        have hjm : j < m := by omega
        obtain ⟨xx, hxx, hxm⟩ := get_of (show j < xs.length by have := HM.out; omega)
        obtain ⟨b, off, hxa, hrg⟩ : ∃ b off, xa = some ⟨b, off, none⟩ ∧ ∀ i x, xs[i]? = some x → w.rangeAt b (off + i * 46) x.cells := by
          rcases HXR.out with h | h
          · rw [h] at hxx; simp at hxx
          · exact h
        have hrx := range_away HL.out.aw (by simp) (hrg j xx hxx)
        subst hxa
        obtain ⟨q, qo, qd⟩ := xx
        have HRX : Hid (wr.rangeAt b (off + j * 46) (listP q qo qd)) := hrx
        have HPX : Hid (Pkt wr q qo qd) := (HXO.out _ hxm).1.on HL.out.aw
        have HAX := Lib.hid HPX.out.wf.ad
        have HLT : Hid (g < wr.heap.size) := HL.out.ey.ent.lt g (by simp)
        have KO := Lib.hid (ownP_c q qo qd wr HPX.out)
        have i2 : ¬ ((k : Int) < (n : Int)) := by omega
        have i3 : IntKind.i64.wrap ((k : Int) - n) = (j : Int) := by rw [IntKind.wrap_i64]; omega
        have i4 : 0 ≤ (j : Int) := by omega
        have i5 : (j : Int) < (m : Int) := by omega
        have i6 : ((j : Int)).toNat = j := by omega
        have HJ := Lib.hid hj
        clear hj hrx hrg hxx hxm
        go_wp2_with (refine wpList_load28m rfl _ rfl b (off + j * 46) rfl q qo qd (by exact HRX.out) HAX.out ?_)
        refine KO.out.mono ?_
        rintro E u1 hown
        obtain ⟨po, pd, rfl, hmine, haw1⟩ := hown
        have HMI := Lib.hid hmine
        have HO1 := Lib.hid hmine.o.one
        have HD1 := Lib.hid hmine.d.one
        have hs1 : wr.heap.size ≤ u1.heap.size := haw1.size
        replace HL := Lib.hid (HL.out.on haw1)
        have HWQ := Lib.hid HPX.out.wf
        clear hmine haw1 KO
        go_wp2_with (refine wpList_new28 rfl rfl rfl _ _ rfl q po pd (fun g => rfl) (fun g => rfl) HAX.out HO1.out HD1.out ?_; refine Hid.out ?_)
        refine Lib.hid ?_
        intro g14 u2 hg14 hb14 haw2
        have HB14 := Lib.hid hb14
        replace HL := Lib.hid (HL.out.on haw2)
        replace HMI := Lib.hid (HMI.out.on haw2)
        have HB14L := hb14.lt
        clear hb14 haw2
        have KP : Hid (Calls Tryd.prog 9 #[.pointer (some ⟨g, 0, none⟩), .agg (csP q po pd)] u2 (PutE u2 g (eP x) q [g])) :=
          eput_c HL.out.ey _ po pd (HMI.out.pkt HWQ.out) (HG.out.on HL.out.aw) ⟨fun _ z hz hm => by simp at hm; subst hm; have h1 := (HMI.out.lto z (.inl hz)).2; have h2 := HLT.out; omega, fun _ z hz hm => by simp at hm; subst hm; have h1 := (HMI.out.lto z (.inr hz)).2; have h2 := HLT.out; omega⟩ (fun hm => by simp at hm; have := HL.out.gn; omega)
        have HPW : Hid (putS (eP x) q = (if ownB (eP x) q = false then 1 else 2, eP x)) := bad_put x q
        have HKY : Hid (ownB (eP x) q = true → kyB q (keyP x) = true) := fun h => own_key h
        go_wp2_with (refine wpList_load28 rfl _ rfl _ rfl q _ _ (by exact HB14.out) HAX.out ?_)
        refine KP.out.mono ?_
        rintro E u3 ⟨rfl, fp8, hy8, -, haw8⟩
        rw [HPW.out]
        rw [HPW.out] at hy8
        replace HB14 := Lib.hid (HB14.out.away haw8 (by simp; intro e; have h1 := HLT.out; omega))
        replace HL := Lib.hid (HL.out.put HGG.out hy8 haw8)
        clear hy8 haw8 KP
        have HC : Hid (Away [] u3 u3.drew) := (Away.refl _ _).drew
        generalize ownB (eP x) q = ob at *
        cases ob with
        | false =>
          have e1 : (if (false : Bool) = false then (1 : Int) else 2) = 1 := rfl
          rw [e1]
          clear e1
          go_wp2_with fail
          refine wp_region_cls (C := fun w' => Away [] u3 w') (by kernel_rfl) (by kernel_rfl) HC.out ?_
          go_big_quiet_want; (refine quiet_val ?_ ?_ ?_; rotate_left; (intro w; go_simp; rfl); go_simp; go_big_quiet_on)
          go_big_quiet_want; (refine quiet_val ?_ ?_ ?_; rotate_left; (intro w; go_simp; rfl); go_simp; go_big_quiet_on)
          go_big_quiet_want; (refine quiet_val ?_ ?_ ?_; rotate_left; (intro w; go_simp; rfl); go_simp; go_big_quiet_on)
          go_big_quiet_skip
          go_big_quiet_skip
          go_big_quiet_skip
          go_big_quiet_skip
          go_big_quiet_skip
          go_big_quiet_skip
          go_big_quiet_skip
          go_big_quiet_skip
          go_big_quiet_want; (refine quiet_val ?_ ?_ ?_; rotate_left; (intro w; go_simp; rfl); go_simp; go_big_quiet_on)
          refine wpQuiet_nil ?_
          intro V hV
          replace HL := Lib.hid (HL.out.on hV)
          clear hV HC HB14 HMI
          have KF := Lib.hid (efirst_c HL.out.ey)
          rw [pois_first] at KF
          go_wp2_with fail
          refine KF.out.mono ?_
          rintro E z1 ⟨fo, fd, rfl, hm1, haw1⟩
          have HM1 : Hid (Mine z1 V.heap.size zeroPk fo fd) := hm1
          replace HL := Lib.hid (HL.out.on haw1)
          have HO1 := Lib.hid hm1.o.one
          have HD1 := Lib.hid hm1.d.one
          clear hm1 haw1 KF
          go_wp2_with (refine wpList_new28 rfl rfl rfl _ _ rfl zeroPk fo fd (fun g => rfl) (fun g => rfl) ⟨rfl, rfl⟩ HO1.out HD1.out ?_; refine Hid.out ?_)
          refine Lib.hid ?_
          intro g16 z2 hg16 hb16 haw16
          have HB16 := Lib.hid hb16
          replace HL := Lib.hid (HL.out.on haw16)
          replace HM1 := Lib.hid (HM1.out.on haw16)
          clear hb16 haw16 hg16
          have KW := Lib.hid (ewhole_c HL.out.ey)
          rw [pois_whole] at KW
          go_wp2_with fail
          refine KW.out.mono ?_
          rintro E z3 ⟨wo, wd', rfl, hm2, haw2⟩
          have HM2 : Hid (Mine z3 z2.heap.size zeroPk wo wd') := hm2
          replace HL := Lib.hid (HL.out.on haw2)
          replace HM1 := Lib.hid (HM1.out.on haw2)
          replace HB16 := Lib.hid (HB16.out.on haw2)
          have HO2 := Lib.hid hm2.o.one
          have HD2 := Lib.hid hm2.d.one
          clear hm2 haw2 KW
          go_wp2_with (refine wpList_new28 rfl rfl rfl _ _ rfl zeroPk wo wd' (fun g => rfl) (fun g => rfl) ⟨rfl, rfl⟩ HO2.out HD2.out ?_; refine Hid.out ?_)
          refine Lib.hid ?_
          intro g18 z4 hg18 hb18 haw18
          have HB18 := Lib.hid hb18
          replace HL := Lib.hid (HL.out.on haw18)
          replace HM1 := Lib.hid (HM1.out.on haw18)
          replace HM2 := Lib.hid (HM2.out.on haw18)
          replace HB16 := Lib.hid (HB16.out.on haw18)
          clear hb18 haw18 hg18
          have HC : Hid (Away [] z4 z4.drew) := (Away.refl _ _).drew
          have Q11 : Hid (∀ W, Away [] z4 W → Calls Tryd.prog 11 #[.pointer (some ⟨g, 0, none⟩)] W fun E w' => E = .returned (.bool true) ∧ Away [] z4 w') := fun W hW => (isP_c (HL.out.ey.on hW).ent).mono (fun E w' h => ⟨h.1, by rw [h.2]; exact hW⟩)
          have Q12 : Hid (∀ W, Away [] z4 W → Calls Tryd.prog 12 #[.pointer (some ⟨g, 0, none⟩)] W fun E w' => E = .returned (.int .i64 0) ∧ Away [] z4 w') := fun W hW => (bytes_c (HL.out.ey.on hW).ent).mono (fun E w' h => ⟨h.1, by rw [h.2]; exact hW⟩)
          have Q13 : Hid (∀ W, Away [] z4 W → Calls Tryd.prog 13 #[.pointer (some ⟨g, 0, none⟩)] W fun E w' => E = .returned (.int .i64 0) ∧ Away [] z4 w') := fun W hW => (eholes_c (HL.out.ey.on hW).ent).mono (fun E w' h => ⟨h.1, hW.trans h.2⟩)
          have Q21a : Hid (∀ W, Away [] z4 W → Calls Tryd.prog 21 #[.agg (csP zeroPk fo fd), .agg (csP zeroPk (.slice none 0 0) (.slice none 0 0))] W fun E w' => E = .returned (.bool true) ∧ Away [] z4 w') := fun W hW => (sameP_yes zeroPk zeroPk fo fd _ _ W (mine_pkt (HM1.out.on hW)) (mine_pkt (mine_zero W 0)) rfl).mono (fun E w' h => ⟨h.1, hW.trans h.2⟩)
          have Q21b : Hid (∀ W, Away [] z4 W → Calls Tryd.prog 21 #[.agg (csP zeroPk wo wd'), .agg (csP zeroPk (.slice none 0 0) (.slice none 0 0))] W fun E w' => E = .returned (.bool true) ∧ Away [] z4 w') := fun W hW => (sameP_yes zeroPk zeroPk wo wd' _ _ W (mine_pkt (HM2.out.on hW)) (mine_pkt (mine_zero W 0)) rfl).mono (fun E w' h => ⟨h.1, hW.trans h.2⟩)
          have Q22 : Hid (∀ W, Away [] z4 W → Calls Tryd.prog 22 #[.pointer (some ⟨g, 0, none⟩)] W fun E w' => E = .returned (.agg (csK (keyP x))) ∧ Away [] z4 w') := fun W hW => (ekey_c (HL.out.ey.on hW).ent).mono (fun E w' h => ⟨h.1, hW.trans h.2⟩)
          have Q23 : Hid (∀ W, Away [] z4 W → Calls Tryd.prog 23 #[.pointer (some ⟨g, 0, none⟩)] W fun E w' => E = .returned (.int .i64 7) ∧ Away [] z4 w') := fun W hW => (born_c (HL.out.ey.on hW).ent).mono (fun E w' h => ⟨h.1, by rw [h.2]; exact hW⟩)
          have HQK : Hid (∀ w, (Op.equalIn 10000 29 (.agg (csK (keyP x))) (.agg (csK (keyP x)))).run Tryd.prog w = .ok true w) := fun w => by
            have := eq78 (keyP x) (keyP x) (key_ad x) (key_ad x) w
            rw [key_ky, show kyB (keyP x) (keyP x) = true from by simp [kyB]] at this
            exact this
          have HB36 := Lib.hid run_build36
          go_wp2_with fail
          refine wp_region_cls (C := fun w' => Away [] z4 w') (by kernel_rfl) (by kernel_rfl) HC.out ?_
          go_big_quiet_want; (refine quiet_val ?_ ?_ ?_; rotate_left; (intro w; go_simp; rfl); go_simp; go_big_quiet_on)
          go_big_quiet_want; refine quiet_call 11 #[.pointer (some ⟨g, 0, none⟩)] (.bool true) ?_ Q11.out ?_
          · intro w; go_simp; all_goals (with_reducible rfl)
          go_simp; go_big_quiet_on
          go_big_quiet_want; (refine quiet_val ?_ ?_ ?_; rotate_left; (intro w; go_simp; rfl); go_simp; go_big_quiet_on)
          go_big_quiet_want; (refine quiet_val ?_ ?_ ?_; rotate_left; (intro w; go_simp; rfl); go_simp; go_big_quiet_on)
          go_big_quiet_want; (refine quiet_val ?_ ?_ ?_; rotate_left; (intro w; go_simp; rfl); go_simp; go_big_quiet_on)
          go_big_quiet_want; refine quiet_call 12 #[.pointer (some ⟨g, 0, none⟩)] (.int .i64 0) ?_ Q12.out ?_
          · intro w; go_simp; all_goals (with_reducible rfl)
          go_simp; go_big_quiet_on
          go_big_quiet_want; (refine quiet_val ?_ ?_ ?_; rotate_left; (intro w; go_simp; rfl); go_simp; go_big_quiet_on)
          go_big_quiet_want; (refine quiet_val ?_ ?_ ?_; rotate_left; (intro w; go_simp; rfl); go_simp; go_big_quiet_on)
          go_big_quiet_want; (refine quiet_val ?_ ?_ ?_; rotate_left; (intro w; go_simp; rfl); go_simp; go_big_quiet_on)
          go_big_quiet_want; (refine quiet_val ?_ ?_ ?_; rotate_left; (intro w; go_simp; rfl); go_simp; go_big_quiet_on)
          go_big_quiet_want; refine quiet_call 13 #[.pointer (some ⟨g, 0, none⟩)] (.int .i64 0) ?_ Q13.out ?_
          · intro w; go_simp; all_goals (with_reducible rfl)
          go_simp; go_big_quiet_on
          go_big_quiet_want; (refine quiet_val ?_ ?_ ?_; rotate_left; (intro w; go_simp; rfl); go_simp; go_big_quiet_on)
          go_big_quiet_want; (refine quiet_val ?_ ?_ ?_; rotate_left; (intro w; go_simp; rfl); go_simp; go_big_quiet_on)
          go_big_quiet_want; (refine quiet_val ?_ ?_ ?_; rotate_left; (intro w; go_simp; rfl); go_simp; go_big_quiet_on)
          go_big_quiet_want; (refine quiet_val ?_ ?_ ?_; rotate_left; (intro w; go_simp; rfl); go_simp; go_big_quiet_on)
          go_big_quiet_want; (refine quiet_val ?_ ?_ ?_; rotate_left; (intro w; go_simp; rfl); go_simp; go_big_quiet_on)
          go_big_quiet_want; (refine quiet_val ?_ ?_ ?_; rotate_left; (intro w; go_simp; rfl); go_simp; go_big_quiet_on)
          go_big_quiet_want; (refine quiet_val ?_ ?_ ?_; rotate_left; (intro w; go_simp; rfl); go_simp; go_big_quiet_on)
          go_big_quiet_want; (refine quiet_val ?_ ?_ ?_; rotate_left; (intro w; go_simp; rfl); go_simp; go_big_quiet_on)
          go_big_quiet_want; (refine quiet_val ?_ ?_ ?_; rotate_left; (intro w; go_simp; rfl); go_simp; go_big_quiet_on)
          go_big_quiet_want; refine quiet_ld _ rfl (ad := ⟨g16, 0, none⟩) rfl (fun w' h => load28_run (HB16.out.on h) ⟨rfl, rfl⟩) ?_; go_simp; go_big_quiet_on
          go_big_quiet_want; refine quiet_build36 rfl ?_; go_simp; go_big_quiet_on
          go_big_quiet_want; refine quiet_call 21 #[.agg (csP zeroPk fo fd), .agg (csP zeroPk (.slice none 0 0) (.slice none 0 0))] (.bool true) ?_ Q21a.out ?_
          · intro w; go_simp; all_goals (with_reducible rfl)
          go_simp; go_big_quiet_on
          go_big_quiet_want; (refine quiet_val ?_ ?_ ?_; rotate_left; (intro w; go_simp; rfl); go_simp; go_big_quiet_on)
          go_big_quiet_want; (refine quiet_val ?_ ?_ ?_; rotate_left; (intro w; go_simp; rfl); go_simp; go_big_quiet_on)
          go_big_quiet_want; (refine quiet_val ?_ ?_ ?_; rotate_left; (intro w; go_simp; rfl); go_simp; go_big_quiet_on)
          go_big_quiet_want; refine quiet_ld _ rfl (ad := ⟨g18, 0, none⟩) rfl (fun w' h => load28_run (HB18.out.on h) ⟨rfl, rfl⟩) ?_; go_simp; go_big_quiet_on
          go_big_quiet_want; refine quiet_build36 rfl ?_; go_simp; go_big_quiet_on
          go_big_quiet_want; refine quiet_call 21 #[.agg (csP zeroPk wo wd'), .agg (csP zeroPk (.slice none 0 0) (.slice none 0 0))] (.bool true) ?_ Q21b.out ?_
          · intro w; go_simp; all_goals (with_reducible rfl)
          go_simp; go_big_quiet_on
          go_big_quiet_want; (refine quiet_val ?_ ?_ ?_; rotate_left; (intro w; go_simp; rfl); go_simp; go_big_quiet_on)
          go_big_quiet_want; (refine quiet_val ?_ ?_ ?_; rotate_left; (intro w; go_simp; rfl); go_simp; go_big_quiet_on)
          go_big_quiet_want; (refine quiet_val ?_ ?_ ?_; rotate_left; (intro w; go_simp; rfl); go_simp; go_big_quiet_on)
          go_big_quiet_want; (refine quiet_val ?_ ?_ ?_; rotate_left; (intro w; go_simp; rfl); go_simp; go_big_quiet_on)
          go_big_quiet_want; refine quiet_call 22 #[.pointer (some ⟨g, 0, none⟩)] (.agg (csK (keyP x))) ?_ Q22.out ?_
          · intro w; go_simp; all_goals (with_reducible rfl)
          go_simp; go_big_quiet_on
          go_big_quiet_want; refine quiet_ld _ rfl (ad := ⟨g9, 0, none⟩) rfl (fun w' h => load29_run (range_away h (by simp) (boxK_range HL.out.bx)) (key_ad x)) ?_; go_simp; go_big_quiet_on
          go_big_quiet_want; refine quiet_ne78 _ _ rfl (csK (keyP x)) (csK (keyP x)) rfl rfl true HQK.out ?_; go_simp; go_big_quiet_on
          go_big_quiet_want; (refine quiet_val ?_ ?_ ?_; rotate_left; (intro w; go_simp; rfl); go_simp; go_big_quiet_on)
          go_big_quiet_want; (refine quiet_val ?_ ?_ ?_; rotate_left; (intro w; go_simp; rfl); go_simp; go_big_quiet_on)
          go_big_quiet_want; (refine quiet_val ?_ ?_ ?_; rotate_left; (intro w; go_simp; rfl); go_simp; go_big_quiet_on)
          go_big_quiet_want; refine quiet_call 23 #[.pointer (some ⟨g, 0, none⟩)] (.int .i64 7) ?_ Q23.out ?_
          · intro w; go_simp; all_goals (with_reducible rfl)
          go_simp; go_big_quiet_on
          go_big_quiet_want; (refine quiet_val ?_ ?_ ?_; rotate_left; (intro w; go_simp; rfl); go_simp; go_big_quiet_on)
          go_big_quiet_want; (refine quiet_val ?_ ?_ ?_; rotate_left; (intro w; go_simp; rfl); go_simp; go_big_quiet_on)
          refine wpQuiet_nil ?_
          intro V hV
          replace HL := Lib.hid (HL.out.on hV)
          clear hV
          go_wp2_with fail
          go_roundw
          case rel => exact ⟨k + 1, by omega, by go_num, HL.out⟩
          case measure => simp [intOf]; omega
        | true =>
          have e1 : (if (true : Bool) = false then (1 : Int) else 2) = 2 := rfl
          rw [e1]
          clear e1
          have Q19 : Hid (∀ W, Away [] u3 W → Calls Tryd.prog 19 #[.agg (csP q po pd)] W fun E w' => E = .returned (.agg (csK q)) ∧ Away [] u3 w') := fun W hW => (lkeyOf_c q po pd W HAX.out).mono (fun E w' h => ⟨h.1, hW.trans h.2⟩)
          have HQK : Hid (∀ w, (Op.equalIn 10000 29 (.agg (csK q)) (.agg (csK (keyP x)))).run Tryd.prog w = .ok true w) := fun w => by
            have := eq78 q (keyP x) HAX.out (key_ad x) w
            rw [key_ky, HKY.out rfl] at this
            exact this
          go_wp2_with fail
          refine wp_region_cls (C := fun w' => Away [] u3 w') (by kernel_rfl) (by kernel_rfl) HC.out ?_
          go_big_quiet_want; (refine quiet_val ?_ ?_ ?_; rotate_left; (intro w; go_simp; rfl); go_simp; go_big_quiet_on)
          go_big_quiet_want; (refine quiet_val ?_ ?_ ?_; rotate_left; (intro w; go_simp; rfl); go_simp; go_big_quiet_on)
          go_big_quiet_want; (refine quiet_val ?_ ?_ ?_; rotate_left; (intro w; go_simp; rfl); go_simp; go_big_quiet_on)
          go_big_quiet_want; (refine quiet_val ?_ ?_ ?_; rotate_left; (intro w; go_simp; rfl); go_simp; go_big_quiet_on)
          go_big_quiet_want; (refine quiet_val ?_ ?_ ?_; rotate_left; (intro w; go_simp; rfl); go_simp; go_big_quiet_on)
          go_big_quiet_want; (refine quiet_val ?_ ?_ ?_; rotate_left; (intro w; go_simp; rfl); go_simp; go_big_quiet_on)
          go_big_quiet_want; refine quiet_ld _ rfl (ad := ⟨g14, 0, none⟩) rfl (fun w' h => load28_run (HB14.out.on h) HAX.out) ?_; go_simp; go_big_quiet_on
          go_big_quiet_want; refine quiet_call 19 #[.agg (csP q po pd)] (.agg (csK q)) ?_ Q19.out ?_
          · intro w; go_simp; all_goals (with_reducible rfl)
          go_simp; go_big_quiet_on
          go_big_quiet_want; refine quiet_ld _ rfl (ad := ⟨g9, 0, none⟩) rfl (fun w' h => load29_run (range_away h (by simp) (boxK_range HL.out.bx)) (key_ad x)) ?_; go_simp; go_big_quiet_on
          go_big_quiet_want; refine quiet_ne78 _ _ rfl (csK q) (csK (keyP x)) rfl rfl true HQK.out ?_; go_simp; go_big_quiet_on
          go_big_quiet_want; (refine quiet_val ?_ ?_ ?_; rotate_left; (intro w; go_simp; rfl); go_simp; go_big_quiet_on)
          go_big_quiet_want; (refine quiet_val ?_ ?_ ?_; rotate_left; (intro w; go_simp; rfl); go_simp; go_big_quiet_on)
          refine wpQuiet_nil ?_
          intro V hV
          replace HL := Lib.hid (HL.out.on hV)
          clear hV HC HB14 HMI
          clear HQK
          have KF := Lib.hid (efirst_c HL.out.ey)
          rw [pois_first] at KF
          go_wp2_with fail
          refine KF.out.mono ?_
          rintro E z1 ⟨fo, fd, rfl, hm1, haw1⟩
          have HM1 : Hid (Mine z1 V.heap.size zeroPk fo fd) := hm1
          replace HL := Lib.hid (HL.out.on haw1)
          have HO1 := Lib.hid hm1.o.one
          have HD1 := Lib.hid hm1.d.one
          clear hm1 haw1 KF
          go_wp2_with (refine wpList_new28 rfl rfl rfl _ _ rfl zeroPk fo fd (fun g => rfl) (fun g => rfl) ⟨rfl, rfl⟩ HO1.out HD1.out ?_; refine Hid.out ?_)
          refine Lib.hid ?_
          intro g16 z2 hg16 hb16 haw16
          have HB16 := Lib.hid hb16
          replace HL := Lib.hid (HL.out.on haw16)
          replace HM1 := Lib.hid (HM1.out.on haw16)
          clear hb16 haw16 hg16
          have KW := Lib.hid (ewhole_c HL.out.ey)
          rw [pois_whole] at KW
          go_wp2_with fail
          refine KW.out.mono ?_
          rintro E z3 ⟨wo, wd', rfl, hm2, haw2⟩
          have HM2 : Hid (Mine z3 z2.heap.size zeroPk wo wd') := hm2
          replace HL := Lib.hid (HL.out.on haw2)
          replace HM1 := Lib.hid (HM1.out.on haw2)
          replace HB16 := Lib.hid (HB16.out.on haw2)
          have HO2 := Lib.hid hm2.o.one
          have HD2 := Lib.hid hm2.d.one
          clear hm2 haw2 KW
          go_wp2_with (refine wpList_new28 rfl rfl rfl _ _ rfl zeroPk wo wd' (fun g => rfl) (fun g => rfl) ⟨rfl, rfl⟩ HO2.out HD2.out ?_; refine Hid.out ?_)
          refine Lib.hid ?_
          intro g18 z4 hg18 hb18 haw18
          have HB18 := Lib.hid hb18
          replace HL := Lib.hid (HL.out.on haw18)
          replace HM1 := Lib.hid (HM1.out.on haw18)
          replace HM2 := Lib.hid (HM2.out.on haw18)
          replace HB16 := Lib.hid (HB16.out.on haw18)
          clear hb18 haw18 hg18
          have HC : Hid (Away [] z4 z4.drew) := (Away.refl _ _).drew
          have Q11 : Hid (∀ W, Away [] z4 W → Calls Tryd.prog 11 #[.pointer (some ⟨g, 0, none⟩)] W fun E w' => E = .returned (.bool true) ∧ Away [] z4 w') := fun W hW => (isP_c (HL.out.ey.on hW).ent).mono (fun E w' h => ⟨h.1, by rw [h.2]; exact hW⟩)
          have Q12 : Hid (∀ W, Away [] z4 W → Calls Tryd.prog 12 #[.pointer (some ⟨g, 0, none⟩)] W fun E w' => E = .returned (.int .i64 0) ∧ Away [] z4 w') := fun W hW => (bytes_c (HL.out.ey.on hW).ent).mono (fun E w' h => ⟨h.1, by rw [h.2]; exact hW⟩)
          have Q13 : Hid (∀ W, Away [] z4 W → Calls Tryd.prog 13 #[.pointer (some ⟨g, 0, none⟩)] W fun E w' => E = .returned (.int .i64 0) ∧ Away [] z4 w') := fun W hW => (eholes_c (HL.out.ey.on hW).ent).mono (fun E w' h => ⟨h.1, hW.trans h.2⟩)
          have Q21a : Hid (∀ W, Away [] z4 W → Calls Tryd.prog 21 #[.agg (csP zeroPk fo fd), .agg (csP zeroPk (.slice none 0 0) (.slice none 0 0))] W fun E w' => E = .returned (.bool true) ∧ Away [] z4 w') := fun W hW => (sameP_yes zeroPk zeroPk fo fd _ _ W (mine_pkt (HM1.out.on hW)) (mine_pkt (mine_zero W 0)) rfl).mono (fun E w' h => ⟨h.1, hW.trans h.2⟩)
          have Q21b : Hid (∀ W, Away [] z4 W → Calls Tryd.prog 21 #[.agg (csP zeroPk wo wd'), .agg (csP zeroPk (.slice none 0 0) (.slice none 0 0))] W fun E w' => E = .returned (.bool true) ∧ Away [] z4 w') := fun W hW => (sameP_yes zeroPk zeroPk wo wd' _ _ W (mine_pkt (HM2.out.on hW)) (mine_pkt (mine_zero W 0)) rfl).mono (fun E w' h => ⟨h.1, hW.trans h.2⟩)
          have Q22 : Hid (∀ W, Away [] z4 W → Calls Tryd.prog 22 #[.pointer (some ⟨g, 0, none⟩)] W fun E w' => E = .returned (.agg (csK (keyP x))) ∧ Away [] z4 w') := fun W hW => (ekey_c (HL.out.ey.on hW).ent).mono (fun E w' h => ⟨h.1, hW.trans h.2⟩)
          have Q23 : Hid (∀ W, Away [] z4 W → Calls Tryd.prog 23 #[.pointer (some ⟨g, 0, none⟩)] W fun E w' => E = .returned (.int .i64 7) ∧ Away [] z4 w') := fun W hW => (born_c (HL.out.ey.on hW).ent).mono (fun E w' h => ⟨h.1, by rw [h.2]; exact hW⟩)
          have HQK : Hid (∀ w, (Op.equalIn 10000 29 (.agg (csK (keyP x))) (.agg (csK (keyP x)))).run Tryd.prog w = .ok true w) := fun w => by
            have := eq78 (keyP x) (keyP x) (key_ad x) (key_ad x) w
            rw [key_ky, show kyB (keyP x) (keyP x) = true from by simp [kyB]] at this
            exact this
          have HB36 := Lib.hid run_build36
          go_wp2_with fail
          refine wp_region_cls (C := fun w' => Away [] z4 w') (by kernel_rfl) (by kernel_rfl) HC.out ?_
          go_big_quiet_want; (refine quiet_val ?_ ?_ ?_; rotate_left; (intro w; go_simp; rfl); go_simp; go_big_quiet_on)
          go_big_quiet_want; refine quiet_call 11 #[.pointer (some ⟨g, 0, none⟩)] (.bool true) ?_ Q11.out ?_
          · intro w; go_simp; all_goals (with_reducible rfl)
          go_simp; go_big_quiet_on
          go_big_quiet_want; (refine quiet_val ?_ ?_ ?_; rotate_left; (intro w; go_simp; rfl); go_simp; go_big_quiet_on)
          go_big_quiet_want; (refine quiet_val ?_ ?_ ?_; rotate_left; (intro w; go_simp; rfl); go_simp; go_big_quiet_on)
          go_big_quiet_want; (refine quiet_val ?_ ?_ ?_; rotate_left; (intro w; go_simp; rfl); go_simp; go_big_quiet_on)
          go_big_quiet_want; refine quiet_call 12 #[.pointer (some ⟨g, 0, none⟩)] (.int .i64 0) ?_ Q12.out ?_
          · intro w; go_simp; all_goals (with_reducible rfl)
          go_simp; go_big_quiet_on
          go_big_quiet_want; (refine quiet_val ?_ ?_ ?_; rotate_left; (intro w; go_simp; rfl); go_simp; go_big_quiet_on)
          go_big_quiet_want; (refine quiet_val ?_ ?_ ?_; rotate_left; (intro w; go_simp; rfl); go_simp; go_big_quiet_on)
          go_big_quiet_want; (refine quiet_val ?_ ?_ ?_; rotate_left; (intro w; go_simp; rfl); go_simp; go_big_quiet_on)
          go_big_quiet_want; (refine quiet_val ?_ ?_ ?_; rotate_left; (intro w; go_simp; rfl); go_simp; go_big_quiet_on)
          go_big_quiet_want; refine quiet_call 13 #[.pointer (some ⟨g, 0, none⟩)] (.int .i64 0) ?_ Q13.out ?_
          · intro w; go_simp; all_goals (with_reducible rfl)
          go_simp; go_big_quiet_on
          go_big_quiet_want; (refine quiet_val ?_ ?_ ?_; rotate_left; (intro w; go_simp; rfl); go_simp; go_big_quiet_on)
          go_big_quiet_want; (refine quiet_val ?_ ?_ ?_; rotate_left; (intro w; go_simp; rfl); go_simp; go_big_quiet_on)
          go_big_quiet_want; (refine quiet_val ?_ ?_ ?_; rotate_left; (intro w; go_simp; rfl); go_simp; go_big_quiet_on)
          go_big_quiet_want; (refine quiet_val ?_ ?_ ?_; rotate_left; (intro w; go_simp; rfl); go_simp; go_big_quiet_on)
          go_big_quiet_want; (refine quiet_val ?_ ?_ ?_; rotate_left; (intro w; go_simp; rfl); go_simp; go_big_quiet_on)
          go_big_quiet_want; (refine quiet_val ?_ ?_ ?_; rotate_left; (intro w; go_simp; rfl); go_simp; go_big_quiet_on)
          go_big_quiet_want; (refine quiet_val ?_ ?_ ?_; rotate_left; (intro w; go_simp; rfl); go_simp; go_big_quiet_on)
          go_big_quiet_want; (refine quiet_val ?_ ?_ ?_; rotate_left; (intro w; go_simp; rfl); go_simp; go_big_quiet_on)
          go_big_quiet_want; (refine quiet_val ?_ ?_ ?_; rotate_left; (intro w; go_simp; rfl); go_simp; go_big_quiet_on)
          go_big_quiet_want; refine quiet_ld _ rfl (ad := ⟨g16, 0, none⟩) rfl (fun w' h => load28_run (HB16.out.on h) ⟨rfl, rfl⟩) ?_; go_simp; go_big_quiet_on
          go_big_quiet_want; refine quiet_build36 rfl ?_; go_simp; go_big_quiet_on
          go_big_quiet_want; refine quiet_call 21 #[.agg (csP zeroPk fo fd), .agg (csP zeroPk (.slice none 0 0) (.slice none 0 0))] (.bool true) ?_ Q21a.out ?_
          · intro w; go_simp; all_goals (with_reducible rfl)
          go_simp; go_big_quiet_on
          go_big_quiet_want; (refine quiet_val ?_ ?_ ?_; rotate_left; (intro w; go_simp; rfl); go_simp; go_big_quiet_on)
          go_big_quiet_want; (refine quiet_val ?_ ?_ ?_; rotate_left; (intro w; go_simp; rfl); go_simp; go_big_quiet_on)
          go_big_quiet_want; (refine quiet_val ?_ ?_ ?_; rotate_left; (intro w; go_simp; rfl); go_simp; go_big_quiet_on)
          go_big_quiet_want; refine quiet_ld _ rfl (ad := ⟨g18, 0, none⟩) rfl (fun w' h => load28_run (HB18.out.on h) ⟨rfl, rfl⟩) ?_; go_simp; go_big_quiet_on
          go_big_quiet_want; refine quiet_build36 rfl ?_; go_simp; go_big_quiet_on
          go_big_quiet_want; refine quiet_call 21 #[.agg (csP zeroPk wo wd'), .agg (csP zeroPk (.slice none 0 0) (.slice none 0 0))] (.bool true) ?_ Q21b.out ?_
          · intro w; go_simp; all_goals (with_reducible rfl)
          go_simp; go_big_quiet_on
          go_big_quiet_want; (refine quiet_val ?_ ?_ ?_; rotate_left; (intro w; go_simp; rfl); go_simp; go_big_quiet_on)
          go_big_quiet_want; (refine quiet_val ?_ ?_ ?_; rotate_left; (intro w; go_simp; rfl); go_simp; go_big_quiet_on)
          go_big_quiet_want; (refine quiet_val ?_ ?_ ?_; rotate_left; (intro w; go_simp; rfl); go_simp; go_big_quiet_on)
          go_big_quiet_want; (refine quiet_val ?_ ?_ ?_; rotate_left; (intro w; go_simp; rfl); go_simp; go_big_quiet_on)
          go_big_quiet_want; refine quiet_call 22 #[.pointer (some ⟨g, 0, none⟩)] (.agg (csK (keyP x))) ?_ Q22.out ?_
          · intro w; go_simp; all_goals (with_reducible rfl)
          go_simp; go_big_quiet_on
          go_big_quiet_want; refine quiet_ld _ rfl (ad := ⟨g9, 0, none⟩) rfl (fun w' h => load29_run (range_away h (by simp) (boxK_range HL.out.bx)) (key_ad x)) ?_; go_simp; go_big_quiet_on
          go_big_quiet_want; refine quiet_ne78 _ _ rfl (csK (keyP x)) (csK (keyP x)) rfl rfl true HQK.out ?_; go_simp; go_big_quiet_on
          go_big_quiet_want; (refine quiet_val ?_ ?_ ?_; rotate_left; (intro w; go_simp; rfl); go_simp; go_big_quiet_on)
          go_big_quiet_want; (refine quiet_val ?_ ?_ ?_; rotate_left; (intro w; go_simp; rfl); go_simp; go_big_quiet_on)
          go_big_quiet_want; (refine quiet_val ?_ ?_ ?_; rotate_left; (intro w; go_simp; rfl); go_simp; go_big_quiet_on)
          go_big_quiet_want; refine quiet_call 23 #[.pointer (some ⟨g, 0, none⟩)] (.int .i64 7) ?_ Q23.out ?_
          · intro w; go_simp; all_goals (with_reducible rfl)
          go_simp; go_big_quiet_on
          go_big_quiet_want; (refine quiet_val ?_ ?_ ?_; rotate_left; (intro w; go_simp; rfl); go_simp; go_big_quiet_on)
          go_big_quiet_want; (refine quiet_val ?_ ?_ ?_; rotate_left; (intro w; go_simp; rfl); go_simp; go_big_quiet_on)
          refine wpQuiet_nil ?_
          intro V hV
          replace HL := Lib.hid (HL.out.on hV)
          clear hV
          go_wp2_with fail
          go_roundw
          case rel => exact ⟨k + 1, by omega, by go_num, HL.out⟩
          case measure => simp [intOf]; omega
    · have i1 : ¬ ((k : Int) < (n : Int) + (m : Int)) := by omega
      go_wp2_with fail
      go_ret
      exact ⟨rfl, HL.out.aw.to_below⟩
set_option maxHeartbeats 16000000 in
theorem walkF (v : Int) (sa : Option Addr) (rs : List Rw) (scap : Nat) (xa : Option Addr) (xs : List X) (xcap : Nat) (w : World) (hg : Glob w) (hv0 : (Lit.int .i64 v).wf = true) (hr : RowR w sa rs) (hrl : rs.length ≤ 4398046510976) (hxl : xs.length ≤ 925904528626)
    (hxo : ∀ x ∈ xs, x.ok w ∧ x.p.o.length ≤ 140737488351232 ∧ x.p.d.length ≤ 140737488351232) (hxr : xs = [] ∨ ∃ b off, xa = some ⟨b, off, none⟩ ∧ ∀ i x, xs[i]? = some x → w.rangeAt b (off + i * 46) x.cells) :
    Calls Tryd.prog 4 #[.int .i64 v, .bool false, .slice sa rs.length scap, .slice xa xs.length xcap] w fun E w' => E = .returned (.bool true) ∧ Below w.heap.size w w' := by
  have HG := Lib.hid hg
  have HR := Lib.hid hr
  have HXO := Lib.hid hxo
  have HXR := Lib.hid hxr
  obtain ⟨n, hn⟩ : ∃ n, n = rs.length := ⟨_, rfl⟩
  rw [← hn] at hrl ⊢
  have HN := Lib.hid hn
  obtain ⟨m, hm⟩ : ∃ m, m = xs.length := ⟨_, rfl⟩
  rw [← hm] at hxl ⊢
  have HM := Lib.hid hm
  have hpos := hg.pos
  clear hg hr hxo hxr hn hm hv0
  have K := Lib.hid (alive_c w HG.out)
  go_enter Tryd.func4, Tryd.ntmps4
  go_wp2_with fail
  refine K.out.mono ?_
  rintro E wa ⟨rfl, hawa⟩
  have HA := Lib.hid hawa
  clear hawa K
  have K := Lib.hid (lkey_c wa v)
  go_wp2_with fail
  refine K.out.mono ?_
  rintro E wb ⟨x, rfl, hawb⟩
  replace HA := Lib.hid (HA.out.trans hawb)
  clear hawb K
  go_wp2_with (refine wpList_alloc78 rfl rfl ?_; refine Hid.out ?_)
  refine Lib.hid ?_
  intro g9 wc hg9 hb9 haw9
  have HB9 := Lib.hid hb9
  have hl9 := lt_of_block hb9
  have HS9 : Hid (w.heap.size ≤ g9) := Nat.le_trans HA.out.size hg9
  replace HA := Lib.hid (HA.out.trans haw9)
  clear hb9 haw9 hg9
  go_wp2_with (refine wpList_store78 rfl _ _ rfl _ rfl (keyP x) (key_ad x) rfl (by exact HB9.out) ?_; refine Hid.out ?_)
  refine Lib.hid ?_
  intro wd hb9 haw9
  replace HB9 := Lib.hid hb9
  replace HA : Hid (Away [] w wd) := HA.out.next haw9 (fun z hz => .inr (by simp at hz; rw [hz]; exact HS9.out))
  have hl9 := lt_of_block hb9
  clear hb9 haw9
  have HR9 := Lib.hid (boxK_range HB9.out)
  have K := Lib.hid (new_c wd (keyP x) 7 (key_ad x))
  go_wp2_with (refine wpList_load29m rfl _ rfl g9 0 rfl (keyP x) (by exact HR9.out) (key_ad x) ?_)
  refine K.out.mono ?_
  rintro E we ⟨g, fp, rfl, hent, hfp, hawe⟩
  have HY : Hid (Ey we g (eA x) fp) := ey_new hent
  have HF : Hid (∀ z ∈ fp, wd.heap.size ≤ z) := hfp
  have HGN : Hid (wd.heap.size ≤ g) := hfp g hent.mem
  replace HB9 : Hid (BoxK we g9 (csK (keyP x))) := hawe.keep (by simp) HB9.out
  have HZD : Hid (w.heap.size ≤ wd.heap.size) := HA.out.size
  replace HA := Lib.hid (HA.out.trans hawe)
  have HZE : Hid (wd.heap.size ≤ we.heap.size) := hawe.size
  clear hent hfp hawe K HR9
  have HR9 := Lib.hid (boxK_range HB9.out)
  have K := Lib.hid (made_c we (keyP x) (key_wf x) rA (by unfold OkR rA i64ok; simp))
  have eRA : rawV rA = .agg #[.int .i64 1, .int .i64 0, .int .i64 0, .bool true] := rfl
  rw [eRA] at K
  clear eRA
  go_wp2_with (refine wpList_load29m rfl _ rfl g9 0 rfl (keyP x) (by exact HR9.out) (key_ad x) ?_)
  refine K.out.mono ?_
  rintro E wf ⟨dv, rfl, hpk, hnw, haw⟩
  have KP := Lib.hid (eput_c (HY.out.on haw) (madeP (keyP x) rA) _ dv hpk (HG.out.on (HA.out.trans haw)) (outs_new HY.out rfl hnw) (fun hm => by have h1 := HF.out 0 hm; have h2 := HZD.out; omega))
  replace HA := Lib.hid (HA.out.trans haw)
  replace HB9 : Hid (BoxK wf g9 (csK (keyP x))) := haw.keep (by simp) HB9.out
  have HZF : Hid (wd.heap.size ≤ wf.heap.size) := Nat.le_trans HZE.out haw.size
  clear hpk hnw haw K HR9
  go_wp2_with fail
  refine KP.out.mono ?_
  rintro E wg ⟨rfl, fp1, hy, hfp1, haw⟩
  rw [putA]
  have HY1 : Hid (Ey wg g (eB x) fp1) := hy
  have HNF : Hid (∀ z ∈ fp, z ≠ g9) := fun z hz e => by have h1 := HF.out z hz; omega
  replace HB9 : Hid (BoxK wg g9 (csK (keyP x))) := haw.keep (fun hm => HNF.out g9 hm rfl) HB9.out
  replace HA : Hid (Away [] w wg) := HA.out.next haw (fun z hz => .inr (Nat.le_trans HZD.out (HF.out z hz)))
  have HF1 : Hid (∀ z ∈ fp1, wd.heap.size ≤ z) := fun z hz => by
    rcases hfp1 z hz with h | h
    · exact HF.out z h
    · have := HZF.out; omega
  clear hy hfp1 haw KP HY
  have HGG : Hid (g9 ≠ g) := by have := HGN.out; show _ ≠ _; omega
  have HGW : Hid (w.heap.size ≤ g) := Nat.le_trans HZD.out HGN.out
  have HR9 := Lib.hid (boxK_range HB9.out)
  have K := Lib.hid (made_c wg (keyP x) (key_wf x) rB (by unfold OkR rB i64ok; simp))
  have eRB : rawV rB = .agg #[.int .i64 1, .int .i64 0, .int .i64 1, .bool true] := rfl
  rw [eRB] at K
  clear eRB
  go_wp2_with (refine wpList_load29m rfl _ rfl g9 0 rfl (keyP x) (by exact HR9.out) (key_ad x) ?_)
  refine K.out.mono ?_
  rintro E wi ⟨dv2, rfl, hpk, hnw, haw⟩
  have KP := Lib.hid (eput_c (HY1.out.on haw) (madeP (keyP x) rB) _ dv2 hpk (HG.out.on (HA.out.trans haw)) (outs_new HY1.out rfl hnw) (fun hm => by have h1 := HF1.out 0 hm; have h2 := HZD.out; omega))
  replace HA := Lib.hid (HA.out.trans haw)
  replace HB9 : Hid (BoxK wi g9 (csK (keyP x))) := haw.keep (by simp) HB9.out
  clear hpk hnw haw K HR9
  go_wp2_with fail
  refine KP.out.mono ?_
  rintro E wh ⟨rfl, fp2, hy, hfp2, haw⟩
  rw [putB]
  rw [four_pois (putB x), poisB] at hy
  have HL : Hid (Lp w wh x g g9) := by
    have hfp : fp2 = [g] := by
      rcases hy.ent with ⟨-, hfp⟩ | ⟨lb, lv, dv, ov, mb, mn, he, -, -⟩
      · exact hfp
      · have := he.nb; simp [eP, poisS] at this
    rw [hfp] at hy
    exact ⟨hy, haw.keep (fun hm => by have h1 := HF1.out g9 hm; omega) HB9.out, HGW.out, HA.out.next haw (fun z hz => .inr (Nat.le_trans HZD.out (HF1.out z hz)))⟩
  clear hy hfp2 haw KP HY1 HB9 HA HF1
  go_wp2_with fail
  go_loopw [11] (fun i wr => ∃ k : Nat, k ≤ n + m ∧ i = .int .i64 (k : Int) ∧ Lp w wr x g g9) (fun i _ => n + m - (intOf i).toNat)
  case atStart => exact ⟨0, by omega, rfl, HL.out⟩
  case round =>
    clear HL
    obtain ⟨k, hk, rfl, hl⟩ := hrel
    have HL := Lib.hid hl
    clear hl
    by_cases hlt : k < n + m
    · have i1 : (k : Int) < (n : Int) + (m : Int) := by omega
      by_cases hkn : k < n
      · obtain ⟨rr, hrr⟩ : ∃ rr, rs[k]? = some rr := ⟨rs[k]'(by have := HN.out; omega), by simp⟩
        obtain ⟨b, off, rfl, hcells, hok⟩ := (HR.out.on HL.out.aw).at hrr
        obtain ⟨ro, rn, rq, rm⟩ := rr
        simp only at hcells
        have HCE := Lib.hid hcells
        have HOK := Lib.hid hok
        have HOWN : Hid (ownB (eP x) (madeP (keyP x) ⟨ro, rn, rq, rm⟩) = (decide (0 < offR ⟨ro, rn, rq, rm⟩) || rm)) := made_own x ⟨ro, rn, rq, rm⟩ (eP x) rfl
        have HOB := Lib.hid (off_bd ⟨ro, rn, rq, rm⟩)
        clear hcells hok hrr
        have i2 : (k : Int) < (n : Int) := by omega
        have i3 : 0 ≤ (k : Int) := by omega
        have i4 : ((k : Int)).toNat = k := by omega
        have HAX : Hid (Away [] wr wr.drew) := (Away.refl _ _).drew
        have HS15 : Hid (∀ W, Away [] wr W → BoxK W g9 (csK (keyP x)) ∧ (W.cell? ⟨b, off + k * 4, none⟩ = some (.int .i64 ro) ∧ W.cell? ⟨b, off + k * 4 + 1, none⟩ = some (.int .i64 rn) ∧ W.cell? ⟨b, off + k * 4 + 2, none⟩ = some (.int .i64 rq) ∧ W.cell? ⟨b, off + k * 4 + 3, none⟩ = some (.bool rm))) := fun W hW => ⟨hW.keep (by simp) HL.out.bx, hW.cell (by simp) HCE.out.1, hW.cell (by simp) HCE.out.2.1, hW.cell (by simp) HCE.out.2.2.1, hW.cell (by simp) HCE.out.2.2.2⟩
        have KM : Hid (∀ W, Away [] wr W → Calls Tryd.prog 8 #[.agg (csK (keyP x)), .agg #[.int .i64 ro, .int .i64 rn, .int .i64 rq, .bool rm]] W (MadeOut W (madeP (keyP x) ⟨ro, rn, rq, rm⟩))) := fun W hW => made_c W (keyP x) (key_wf x) ⟨ro, rn, rq, rm⟩ HOK.out
        have HQO : Hid ((madeP (keyP x) ⟨ro, rn, rq, rm⟩).off = offR ⟨ro, rn, rq, rm⟩ ∧ (madeP (keyP x) ⟨ro, rn, rq, rm⟩).more = rm) := ⟨rfl, rfl⟩
        go_wp2_with fail
        refine wp_region_held_drew (S := fun w' => BoxK w' g9 (csK (keyP x)) ∧ (w'.cell? ⟨b, off + k * 4, none⟩ = some (.int .i64 ro) ∧ w'.cell? ⟨b, off + k * 4 + 1, none⟩ = some (.int .i64 rn) ∧ w'.cell? ⟨b, off + k * 4 + 2, none⟩ = some (.int .i64 rq) ∧ w'.cell? ⟨b, off + k * 4 + 3, none⟩ = some (.bool rm))) (by kernel_rfl) (by exact HS15.out _ HAX.out) (fun hHeld => ?_)
        refine wpAnyH_take (i := 0) (by simp only [List.getElem?_toArray, List.getElem?_cons_zero]; rfl) (by kernel_rfl) (by kernel_rfl) (by kernel_rfl) (by exact fun _ _ _ h => h) (yields_ld (ad := ⟨g9, 0, none⟩) (by rfl) _ rfl rfl (fun w' h => load29_run (boxK_range h.1) (key_ad x))) (by assumption) ?_
        try simp only [Act.put, List.setIfInBounds_toArray, List.set_cons_zero, List.set_cons_succ]
        refine wpAnyH_take (i := 1) (v := ?_) (by simp only [List.getElem?_toArray, List.getElem?_cons_succ, List.getElem?_cons_zero]; rfl) (by kernel_rfl) (by kernel_rfl) (by kernel_rfl) (by exact fun _ _ _ h => h) (Or.inl ⟨by rfl, ?_⟩) (by assumption) ?_
        rotate_left
        · intro wq hSw
          (try dsimp only at hSw)
          go_simp
          all_goals (with_reducible rfl)
        try simp only [Act.put, List.setIfInBounds_toArray, List.set_cons_zero, List.set_cons_succ]
        refine wpAnyH_take (i := 2) (v := ?_) (by simp only [List.getElem?_toArray, List.getElem?_cons_succ, List.getElem?_cons_zero]; rfl) (by kernel_rfl) (by kernel_rfl) (by kernel_rfl) (by exact fun _ _ _ h => h) (Or.inl ⟨by rfl, ?_⟩) (by assumption) ?_
        rotate_left
        · intro wq hSw
          (try dsimp only at hSw)
          go_simp
          all_goals (with_reducible rfl)
        try simp only [Act.put, List.setIfInBounds_toArray, List.set_cons_zero, List.set_cons_succ]
        refine wpAnyH_take (i := 3) (v := ?_) (by simp only [List.getElem?_toArray, List.getElem?_cons_succ, List.getElem?_cons_zero]; rfl) (by kernel_rfl) (by kernel_rfl) (by kernel_rfl) (by exact fun _ _ _ h => h) (Or.inl ⟨by rfl, ?_⟩) (by assumption) ?_
        rotate_left
        · intro wq hSw
          (try dsimp only at hSw)
          go_simp
          all_goals (with_reducible rfl)
        try simp only [Act.put, List.setIfInBounds_toArray, List.set_cons_zero, List.set_cons_succ]
        refine wpAnyH_take (i := 4) (by simp only [List.getElem?_toArray, List.getElem?_cons_succ, List.getElem?_cons_zero]; rfl) (by kernel_rfl) (by kernel_rfl) (by kernel_rfl) (by exact fun _ _ _ h => h) (yields_ld (ad := ⟨b, off + k * 4, none⟩) (by rfl) _ rfl rfl (fun w' h => ld39 h.2.1 h.2.2.1 h.2.2.2.1 h.2.2.2.2)) (by assumption) ?_
        try simp only [Act.put, List.setIfInBounds_toArray, List.set_cons_zero, List.set_cons_succ]
        refine wpAnyH_ready (rs := [5, 6]) (by kernel_rfl) (by simp) ?_
        refine AllReadyH.cons (by simp only [List.getElem?_toArray, List.getElem?_cons_succ, List.getElem?_cons_zero]; rfl) (fun K hK => ?_) (AllReadyH.cons (by simp only [List.getElem?_toArray, List.getElem?_cons_succ, List.getElem?_cons_zero]; rfl) (fun K hK => ?_) AllReadyH.nil)
        · go_simp
          refine (KM.out wr.drew HAX.out).mono ?_
          rintro E u5 ⟨dv, rfl, hpk, hnw, haw5⟩
          have HZC : Hid (wr.heap.size ≤ wr.drew.heap.size) := HAX.out.size
          have HPK := Lib.hid hpk
          have HNW := Lib.hid hnw
          replace HAX := Lib.hid (HAX.out.trans haw5)
          have HD5 := Lib.hid hpk.d.one
          clear hpk hnw haw5
          go_wp2_with fail
          refine hK.out _ _ (by exact HS15.out _ HAX.out) (fun hHeld => ?_)
          clear hK K
          try simp only [Act.put, List.setIfInBounds_toArray, List.set_cons_zero, List.set_cons_succ]
          refine wpAnyH_ready (rs := [6]) (by kernel_rfl) (by simp) ?_
          refine AllReadyH.cons (by simp only [List.getElem?_toArray, List.getElem?_cons_succ, List.getElem?_cons_zero]; rfl) (fun K hK => ?_) AllReadyH.nil
          refine step_alloc28 rfl rfl ?_
          intro g12 u6 hg12 hb12 haw6
          have HB12 := Lib.hid hb12
          have HG12 : Hid (wr.heap.size ≤ g12) := Nat.le_trans HAX.out.size hg12
          replace HAX := Lib.hid (HAX.out.trans haw6)
          have HN12 : Hid (∀ z, dv.ownBlock = some z → z ≠ g12) := fun z hz e => by have h1 := HPK.out.d.old (by rw [show (madeP (keyP x) ⟨ro, rn, rq, rm⟩).d ≠ [] ↔ True from ⟨fun _ => trivial, fun _ => made_ne x ⟨ro, rn, rq, rm⟩⟩]; trivial) z hz; omega
          replace HPK := Lib.hid (HPK.out.on haw6)
          clear hb12 haw6 hg12
          refine hK.out _ _ (by exact HS15.out _ HAX.out) (fun hHeld => ?_)
          clear hK K
          try simp only [Act.put, List.setIfInBounds_toArray, List.set_cons_zero, List.set_cons_succ]
          refine wpAnyH_ready (rs := [7]) (by kernel_rfl) (by simp) ?_
          refine AllReadyH.cons (by simp only [List.getElem?_toArray, List.getElem?_cons_succ, List.getElem?_cons_zero]; rfl) (fun K hK => ?_) AllReadyH.nil
          refine step_store28 rfl _ _ rfl g12 rfl (madeP (keyP x) ⟨ro, rn, rq, rm⟩) (.slice none 0 0) dv rfl zeroPk (.slice none 0 0) (.slice none 0 0) (by exact HB12.out) (made_ad (key_ad x) _ _) ⟨rfl, rfl⟩ rfl HD5.out ?_
          intro u7 hb12 haw7
          have HBX := Lib.hid hb12
          have HAXF : Hid (Away [] wr u7) := HAX.out.next haw7 (fun z hz => .inr (by simp at hz; rw [hz]; exact HG12.out))
          have HPKF : Hid (Pkt u7 (madeP (keyP x) ⟨ro, rn, rq, rm⟩) (.slice none 0 0) dv) := HPK.out.away haw7 ⟨fun e => absurd rfl e, fun _ z hz => by simpa using HN12.out z hz⟩
          have HDVN : Hid (∀ z, dv.ownBlock = some z → wr.heap.size ≤ z) := fun z hz => Nat.le_trans HZC.out (HNW.out z hz)
          clear hb12 haw7
          refine hK.out _ _ (by exact HS15.out _ HAXF.out) (fun hHeld => ?_)
          clear hK K
          try simp only [Act.put]
          refine wpAnyH_done (by kernel_rfl) ?_ _
          have HLF := Lib.hid (HL.out.on HAXF.out)
          have HADM : Hid (Ad (madeP (keyP x) ⟨ro, rn, rq, rm⟩)) := made_ad (key_ad x) _ _
          have KP : Hid (Calls Tryd.prog 9 #[.pointer (some ⟨g, 0, none⟩), .agg (csP (madeP (keyP x) ⟨ro, rn, rq, rm⟩) (.slice none 0 0) dv)] u7 (PutE u7 g (eP x) (madeP (keyP x) ⟨ro, rn, rq, rm⟩) [g])) :=
            eput_c HLF.out.ey _ _ dv HPKF.out (HG.out.on HLF.out.aw) ⟨fun e => absurd rfl e, fun _ z hz hm => by simp at hm; subst hm; have h1 := HDVN.out z hz; have h2 := HL.out.ey.ent.lt z (by simp); omega⟩ (fun hm => by simp at hm; have := HL.out.gn; omega)
          have c43 := (HBX.out.cells HADM.out).off
          have c41 := (HBX.out.cells HADM.out).more
          rw [HQO.out.1] at c43
          rw [HQO.out.2] at c41
          replace HL := HLF
          clear HLF hHeld HAXF HS15 KM HAX HPK HNW HCE
          generalize hMP : madeP (keyP x) ⟨ro, rn, rq, rm⟩ = q at *
          generalize offR ⟨ro, rn, rq, rm⟩ = of at *
          clear hMP
          by_cases ho : of = 0
          · have ho1 : (of == 0) = true := by simpa using ho
            have ho2 : ¬ (0 < of) := by omega
            cases rm with
            | true =>
              have HPW : Hid ((putS (eP x) q).1 = 2 ∧ (putS (eP x) q).2 = eP x) := by
                show _ ∧ _
                rw [bad_put, HOWN.out]
                simp [ho2]
              go_wp2_with (refine wpList_load28 rfl _ rfl _ rfl q _ _ (by exact HBX.out) HADM.out ?_)
              refine KP.out.mono ?_
              rintro E u8 ⟨rfl, fp8, hy8, -, haw8⟩
              rw [HPW.out.1]
              rw [HPW.out.2] at hy8
              replace HL := Lib.hid (HL.out.put HGG.out hy8 haw8)
              clear hy8 haw8 KP
              have KF := Lib.hid (efirst_c HL.out.ey)
              rw [pois_first] at KF
              go_wp2_with fail
              refine KF.out.mono ?_
              rintro E z1 ⟨fo, fd, rfl, hm1, haw1⟩
              have HM1 : Hid (Mine z1 u8.heap.size zeroPk fo fd) := hm1
              replace HL := Lib.hid (HL.out.on haw1)
              have HO1 := Lib.hid hm1.o.one
              have HD1 := Lib.hid hm1.d.one
              clear hm1 haw1 KF
              go_wp2_with (refine wpList_new28 rfl rfl rfl _ _ rfl zeroPk fo fd (fun g => rfl) (fun g => rfl) ⟨rfl, rfl⟩ HO1.out HD1.out ?_; refine Hid.out ?_)
              refine Lib.hid ?_
              intro g16 z2 hg16 hb16 haw16
              have HB16 := Lib.hid hb16
              replace HL := Lib.hid (HL.out.on haw16)
              replace HM1 := Lib.hid (HM1.out.on haw16)
              clear hb16 haw16 hg16
              have KW := Lib.hid (ewhole_c HL.out.ey)
              rw [pois_whole] at KW
              go_wp2_with fail
              refine KW.out.mono ?_
              rintro E z3 ⟨wo, wd', rfl, hm2, haw2⟩
              have HM2 : Hid (Mine z3 z2.heap.size zeroPk wo wd') := hm2
              replace HL := Lib.hid (HL.out.on haw2)
              replace HM1 := Lib.hid (HM1.out.on haw2)
              replace HB16 := Lib.hid (HB16.out.on haw2)
              have HO2 := Lib.hid hm2.o.one
              have HD2 := Lib.hid hm2.d.one
              clear hm2 haw2 KW
              go_wp2_with (refine wpList_new28 rfl rfl rfl _ _ rfl zeroPk wo wd' (fun g => rfl) (fun g => rfl) ⟨rfl, rfl⟩ HO2.out HD2.out ?_; refine Hid.out ?_)
              refine Lib.hid ?_
              intro g18 z4 hg18 hb18 haw18
              have HB18 := Lib.hid hb18
              replace HL := Lib.hid (HL.out.on haw18)
              replace HM1 := Lib.hid (HM1.out.on haw18)
              replace HM2 := Lib.hid (HM2.out.on haw18)
              replace HB16 := Lib.hid (HB16.out.on haw18)
              clear hb18 haw18 hg18
              have HC : Hid (Away [] z4 z4.drew) := (Away.refl _ _).drew
              have Q11 : Hid (∀ W, Away [] z4 W → Calls Tryd.prog 11 #[.pointer (some ⟨g, 0, none⟩)] W fun E w' => E = .returned (.bool true) ∧ Away [] z4 w') := fun W hW => (isP_c (HL.out.ey.on hW).ent).mono (fun E w' h => ⟨h.1, by rw [h.2]; exact hW⟩)
              have Q12 : Hid (∀ W, Away [] z4 W → Calls Tryd.prog 12 #[.pointer (some ⟨g, 0, none⟩)] W fun E w' => E = .returned (.int .i64 0) ∧ Away [] z4 w') := fun W hW => (bytes_c (HL.out.ey.on hW).ent).mono (fun E w' h => ⟨h.1, by rw [h.2]; exact hW⟩)
              have Q13 : Hid (∀ W, Away [] z4 W → Calls Tryd.prog 13 #[.pointer (some ⟨g, 0, none⟩)] W fun E w' => E = .returned (.int .i64 0) ∧ Away [] z4 w') := fun W hW => (eholes_c (HL.out.ey.on hW).ent).mono (fun E w' h => ⟨h.1, hW.trans h.2⟩)
              have Q21a : Hid (∀ W, Away [] z4 W → Calls Tryd.prog 21 #[.agg (csP zeroPk fo fd), .agg (csP zeroPk (.slice none 0 0) (.slice none 0 0))] W fun E w' => E = .returned (.bool true) ∧ Away [] z4 w') := fun W hW => (sameP_yes zeroPk zeroPk fo fd _ _ W (mine_pkt (HM1.out.on hW)) (mine_pkt (mine_zero W 0)) rfl).mono (fun E w' h => ⟨h.1, hW.trans h.2⟩)
              have Q21b : Hid (∀ W, Away [] z4 W → Calls Tryd.prog 21 #[.agg (csP zeroPk wo wd'), .agg (csP zeroPk (.slice none 0 0) (.slice none 0 0))] W fun E w' => E = .returned (.bool true) ∧ Away [] z4 w') := fun W hW => (sameP_yes zeroPk zeroPk wo wd' _ _ W (mine_pkt (HM2.out.on hW)) (mine_pkt (mine_zero W 0)) rfl).mono (fun E w' h => ⟨h.1, hW.trans h.2⟩)
              have Q22 : Hid (∀ W, Away [] z4 W → Calls Tryd.prog 22 #[.pointer (some ⟨g, 0, none⟩)] W fun E w' => E = .returned (.agg (csK (keyP x))) ∧ Away [] z4 w') := fun W hW => (ekey_c (HL.out.ey.on hW).ent).mono (fun E w' h => ⟨h.1, hW.trans h.2⟩)
              have Q23 : Hid (∀ W, Away [] z4 W → Calls Tryd.prog 23 #[.pointer (some ⟨g, 0, none⟩)] W fun E w' => E = .returned (.int .i64 7) ∧ Away [] z4 w') := fun W hW => (born_c (HL.out.ey.on hW).ent).mono (fun E w' h => ⟨h.1, by rw [h.2]; exact hW⟩)
              have HQK : Hid (∀ w, (Op.equalIn 10000 29 (.agg (csK (keyP x))) (.agg (csK (keyP x)))).run Tryd.prog w = .ok true w) := fun w => by
                have := eq78 (keyP x) (keyP x) (key_ad x) (key_ad x) w
                rw [key_ky, show kyB (keyP x) (keyP x) = true from by simp [kyB]] at this
                exact this
              have HB36 := Lib.hid run_build36
              go_wp2_with fail
              refine wp_region_cls (C := fun w' => Away [] z4 w') (by kernel_rfl) (by kernel_rfl) HC.out ?_
              go_big_quiet_want; (refine quiet_val ?_ ?_ ?_; rotate_left; (intro w; go_simp; rfl); go_simp; go_big_quiet_on)
              go_big_quiet_want; refine quiet_call 11 #[.pointer (some ⟨g, 0, none⟩)] (.bool true) ?_ Q11.out ?_
              · intro w; go_simp; all_goals (with_reducible rfl)
              go_simp; go_big_quiet_on
              go_big_quiet_want; (refine quiet_val ?_ ?_ ?_; rotate_left; (intro w; go_simp; rfl); go_simp; go_big_quiet_on)
              go_big_quiet_want; (refine quiet_val ?_ ?_ ?_; rotate_left; (intro w; go_simp; rfl); go_simp; go_big_quiet_on)
              go_big_quiet_want; (refine quiet_val ?_ ?_ ?_; rotate_left; (intro w; go_simp; rfl); go_simp; go_big_quiet_on)
              go_big_quiet_want; refine quiet_call 12 #[.pointer (some ⟨g, 0, none⟩)] (.int .i64 0) ?_ Q12.out ?_
              · intro w; go_simp; all_goals (with_reducible rfl)
              go_simp; go_big_quiet_on
              go_big_quiet_want; (refine quiet_val ?_ ?_ ?_; rotate_left; (intro w; go_simp; rfl); go_simp; go_big_quiet_on)
              go_big_quiet_want; (refine quiet_val ?_ ?_ ?_; rotate_left; (intro w; go_simp; rfl); go_simp; go_big_quiet_on)
              go_big_quiet_want; (refine quiet_val ?_ ?_ ?_; rotate_left; (intro w; go_simp; rfl); go_simp; go_big_quiet_on)
              go_big_quiet_want; (refine quiet_val ?_ ?_ ?_; rotate_left; (intro w; go_simp; rfl); go_simp; go_big_quiet_on)
              go_big_quiet_want; refine quiet_call 13 #[.pointer (some ⟨g, 0, none⟩)] (.int .i64 0) ?_ Q13.out ?_
              · intro w; go_simp; all_goals (with_reducible rfl)
              go_simp; go_big_quiet_on
              go_big_quiet_want; (refine quiet_val ?_ ?_ ?_; rotate_left; (intro w; go_simp; rfl); go_simp; go_big_quiet_on)
              go_big_quiet_want; (refine quiet_val ?_ ?_ ?_; rotate_left; (intro w; go_simp; rfl); go_simp; go_big_quiet_on)
              go_big_quiet_want; (refine quiet_val ?_ ?_ ?_; rotate_left; (intro w; go_simp; rfl); go_simp; go_big_quiet_on)
              go_big_quiet_want; (refine quiet_val ?_ ?_ ?_; rotate_left; (intro w; go_simp; rfl); go_simp; go_big_quiet_on)
              go_big_quiet_want; (refine quiet_val ?_ ?_ ?_; rotate_left; (intro w; go_simp; rfl); go_simp; go_big_quiet_on)
              go_big_quiet_want; (refine quiet_val ?_ ?_ ?_; rotate_left; (intro w; go_simp; rfl); go_simp; go_big_quiet_on)
              go_big_quiet_want; (refine quiet_val ?_ ?_ ?_; rotate_left; (intro w; go_simp; rfl); go_simp; go_big_quiet_on)
              go_big_quiet_want; (refine quiet_val ?_ ?_ ?_; rotate_left; (intro w; go_simp; rfl); go_simp; go_big_quiet_on)
              go_big_quiet_want; (refine quiet_val ?_ ?_ ?_; rotate_left; (intro w; go_simp; rfl); go_simp; go_big_quiet_on)
              go_big_quiet_want; refine quiet_ld _ rfl (ad := ⟨g16, 0, none⟩) rfl (fun w' h => load28_run (HB16.out.on h) ⟨rfl, rfl⟩) ?_; go_simp; go_big_quiet_on
              go_big_quiet_want; refine quiet_build36 rfl ?_; go_simp; go_big_quiet_on
              go_big_quiet_want; refine quiet_call 21 #[.agg (csP zeroPk fo fd), .agg (csP zeroPk (.slice none 0 0) (.slice none 0 0))] (.bool true) ?_ Q21a.out ?_
              · intro w; go_simp; all_goals (with_reducible rfl)
              go_simp; go_big_quiet_on
              go_big_quiet_want; (refine quiet_val ?_ ?_ ?_; rotate_left; (intro w; go_simp; rfl); go_simp; go_big_quiet_on)
              go_big_quiet_want; (refine quiet_val ?_ ?_ ?_; rotate_left; (intro w; go_simp; rfl); go_simp; go_big_quiet_on)
              go_big_quiet_want; (refine quiet_val ?_ ?_ ?_; rotate_left; (intro w; go_simp; rfl); go_simp; go_big_quiet_on)
              go_big_quiet_want; refine quiet_ld _ rfl (ad := ⟨g18, 0, none⟩) rfl (fun w' h => load28_run (HB18.out.on h) ⟨rfl, rfl⟩) ?_; go_simp; go_big_quiet_on
              go_big_quiet_want; refine quiet_build36 rfl ?_; go_simp; go_big_quiet_on
              go_big_quiet_want; refine quiet_call 21 #[.agg (csP zeroPk wo wd'), .agg (csP zeroPk (.slice none 0 0) (.slice none 0 0))] (.bool true) ?_ Q21b.out ?_
              · intro w; go_simp; all_goals (with_reducible rfl)
              go_simp; go_big_quiet_on
              go_big_quiet_want; (refine quiet_val ?_ ?_ ?_; rotate_left; (intro w; go_simp; rfl); go_simp; go_big_quiet_on)
              go_big_quiet_want; (refine quiet_val ?_ ?_ ?_; rotate_left; (intro w; go_simp; rfl); go_simp; go_big_quiet_on)
              go_big_quiet_want; (refine quiet_val ?_ ?_ ?_; rotate_left; (intro w; go_simp; rfl); go_simp; go_big_quiet_on)
              go_big_quiet_want; (refine quiet_val ?_ ?_ ?_; rotate_left; (intro w; go_simp; rfl); go_simp; go_big_quiet_on)
              go_big_quiet_want; refine quiet_call 22 #[.pointer (some ⟨g, 0, none⟩)] (.agg (csK (keyP x))) ?_ Q22.out ?_
              · intro w; go_simp; all_goals (with_reducible rfl)
              go_simp; go_big_quiet_on
              go_big_quiet_want; refine quiet_ld _ rfl (ad := ⟨g9, 0, none⟩) rfl (fun w' h => load29_run (range_away h (by simp) (boxK_range HL.out.bx)) (key_ad x)) ?_; go_simp; go_big_quiet_on
              go_big_quiet_want; refine quiet_ne78 _ _ rfl (csK (keyP x)) (csK (keyP x)) rfl rfl true HQK.out ?_; go_simp; go_big_quiet_on
              go_big_quiet_want; (refine quiet_val ?_ ?_ ?_; rotate_left; (intro w; go_simp; rfl); go_simp; go_big_quiet_on)
              go_big_quiet_want; (refine quiet_val ?_ ?_ ?_; rotate_left; (intro w; go_simp; rfl); go_simp; go_big_quiet_on)
              go_big_quiet_want; (refine quiet_val ?_ ?_ ?_; rotate_left; (intro w; go_simp; rfl); go_simp; go_big_quiet_on)
              go_big_quiet_want; refine quiet_call 23 #[.pointer (some ⟨g, 0, none⟩)] (.int .i64 7) ?_ Q23.out ?_
              · intro w; go_simp; all_goals (with_reducible rfl)
              go_simp; go_big_quiet_on
              go_big_quiet_want; (refine quiet_val ?_ ?_ ?_; rotate_left; (intro w; go_simp; rfl); go_simp; go_big_quiet_on)
              go_big_quiet_want; (refine quiet_val ?_ ?_ ?_; rotate_left; (intro w; go_simp; rfl); go_simp; go_big_quiet_on)
              refine wpQuiet_nil ?_
              intro V hV
              replace HL := Lib.hid (HL.out.on hV)
              clear hV
              go_wp2_with fail
              go_roundw
              case rel => exact ⟨k + 1, by omega, by go_num, HL.out⟩
              case measure => simp [intOf]; omega
            | false =>
              have HPW : Hid ((putS (eP x) q).1 = 1 ∧ (putS (eP x) q).2 = eP x) := by
                show _ ∧ _
                rw [bad_put, HOWN.out]
                simp [ho2]
              go_wp2_with (refine wpList_load28 rfl _ rfl _ rfl q _ _ (by exact HBX.out) HADM.out ?_)
              refine KP.out.mono ?_
              rintro E u8 ⟨rfl, fp8, hy8, -, haw8⟩
              rw [HPW.out.1]
              rw [HPW.out.2] at hy8
              replace HL := Lib.hid (HL.out.put HGG.out hy8 haw8)
              clear hy8 haw8 KP
              have KF := Lib.hid (efirst_c HL.out.ey)
              rw [pois_first] at KF
              go_wp2_with fail
              refine KF.out.mono ?_
              rintro E z1 ⟨fo, fd, rfl, hm1, haw1⟩
              have HM1 : Hid (Mine z1 u8.heap.size zeroPk fo fd) := hm1
              replace HL := Lib.hid (HL.out.on haw1)
              have HO1 := Lib.hid hm1.o.one
              have HD1 := Lib.hid hm1.d.one
              clear hm1 haw1 KF
              go_wp2_with (refine wpList_new28 rfl rfl rfl _ _ rfl zeroPk fo fd (fun g => rfl) (fun g => rfl) ⟨rfl, rfl⟩ HO1.out HD1.out ?_; refine Hid.out ?_)
              refine Lib.hid ?_
              intro g16 z2 hg16 hb16 haw16
              have HB16 := Lib.hid hb16
              replace HL := Lib.hid (HL.out.on haw16)
              replace HM1 := Lib.hid (HM1.out.on haw16)
              clear hb16 haw16 hg16
              have KW := Lib.hid (ewhole_c HL.out.ey)
              rw [pois_whole] at KW
              go_wp2_with fail
              refine KW.out.mono ?_
              rintro E z3 ⟨wo, wd', rfl, hm2, haw2⟩
              have HM2 : Hid (Mine z3 z2.heap.size zeroPk wo wd') := hm2
              replace HL := Lib.hid (HL.out.on haw2)
              replace HM1 := Lib.hid (HM1.out.on haw2)
              replace HB16 := Lib.hid (HB16.out.on haw2)
              have HO2 := Lib.hid hm2.o.one
              have HD2 := Lib.hid hm2.d.one
              clear hm2 haw2 KW
              go_wp2_with (refine wpList_new28 rfl rfl rfl _ _ rfl zeroPk wo wd' (fun g => rfl) (fun g => rfl) ⟨rfl, rfl⟩ HO2.out HD2.out ?_; refine Hid.out ?_)
              refine Lib.hid ?_
              intro g18 z4 hg18 hb18 haw18
              have HB18 := Lib.hid hb18
              replace HL := Lib.hid (HL.out.on haw18)
              replace HM1 := Lib.hid (HM1.out.on haw18)
              replace HM2 := Lib.hid (HM2.out.on haw18)
              replace HB16 := Lib.hid (HB16.out.on haw18)
              clear hb18 haw18 hg18
              have HC : Hid (Away [] z4 z4.drew) := (Away.refl _ _).drew
              have Q11 : Hid (∀ W, Away [] z4 W → Calls Tryd.prog 11 #[.pointer (some ⟨g, 0, none⟩)] W fun E w' => E = .returned (.bool true) ∧ Away [] z4 w') := fun W hW => (isP_c (HL.out.ey.on hW).ent).mono (fun E w' h => ⟨h.1, by rw [h.2]; exact hW⟩)
              have Q12 : Hid (∀ W, Away [] z4 W → Calls Tryd.prog 12 #[.pointer (some ⟨g, 0, none⟩)] W fun E w' => E = .returned (.int .i64 0) ∧ Away [] z4 w') := fun W hW => (bytes_c (HL.out.ey.on hW).ent).mono (fun E w' h => ⟨h.1, by rw [h.2]; exact hW⟩)
              have Q13 : Hid (∀ W, Away [] z4 W → Calls Tryd.prog 13 #[.pointer (some ⟨g, 0, none⟩)] W fun E w' => E = .returned (.int .i64 0) ∧ Away [] z4 w') := fun W hW => (eholes_c (HL.out.ey.on hW).ent).mono (fun E w' h => ⟨h.1, hW.trans h.2⟩)
              have Q21a : Hid (∀ W, Away [] z4 W → Calls Tryd.prog 21 #[.agg (csP zeroPk fo fd), .agg (csP zeroPk (.slice none 0 0) (.slice none 0 0))] W fun E w' => E = .returned (.bool true) ∧ Away [] z4 w') := fun W hW => (sameP_yes zeroPk zeroPk fo fd _ _ W (mine_pkt (HM1.out.on hW)) (mine_pkt (mine_zero W 0)) rfl).mono (fun E w' h => ⟨h.1, hW.trans h.2⟩)
              have Q21b : Hid (∀ W, Away [] z4 W → Calls Tryd.prog 21 #[.agg (csP zeroPk wo wd'), .agg (csP zeroPk (.slice none 0 0) (.slice none 0 0))] W fun E w' => E = .returned (.bool true) ∧ Away [] z4 w') := fun W hW => (sameP_yes zeroPk zeroPk wo wd' _ _ W (mine_pkt (HM2.out.on hW)) (mine_pkt (mine_zero W 0)) rfl).mono (fun E w' h => ⟨h.1, hW.trans h.2⟩)
              have Q22 : Hid (∀ W, Away [] z4 W → Calls Tryd.prog 22 #[.pointer (some ⟨g, 0, none⟩)] W fun E w' => E = .returned (.agg (csK (keyP x))) ∧ Away [] z4 w') := fun W hW => (ekey_c (HL.out.ey.on hW).ent).mono (fun E w' h => ⟨h.1, hW.trans h.2⟩)
              have Q23 : Hid (∀ W, Away [] z4 W → Calls Tryd.prog 23 #[.pointer (some ⟨g, 0, none⟩)] W fun E w' => E = .returned (.int .i64 7) ∧ Away [] z4 w') := fun W hW => (born_c (HL.out.ey.on hW).ent).mono (fun E w' h => ⟨h.1, by rw [h.2]; exact hW⟩)
              have HQK : Hid (∀ w, (Op.equalIn 10000 29 (.agg (csK (keyP x))) (.agg (csK (keyP x)))).run Tryd.prog w = .ok true w) := fun w => by
                have := eq78 (keyP x) (keyP x) (key_ad x) (key_ad x) w
                rw [key_ky, show kyB (keyP x) (keyP x) = true from by simp [kyB]] at this
                exact this
              have HB36 := Lib.hid run_build36
              go_wp2_with fail
              refine wp_region_cls (C := fun w' => Away [] z4 w') (by kernel_rfl) (by kernel_rfl) HC.out ?_
              go_big_quiet_want; (refine quiet_val ?_ ?_ ?_; rotate_left; (intro w; go_simp; rfl); go_simp; go_big_quiet_on)
              go_big_quiet_want; refine quiet_call 11 #[.pointer (some ⟨g, 0, none⟩)] (.bool true) ?_ Q11.out ?_
              · intro w; go_simp; all_goals (with_reducible rfl)
              go_simp; go_big_quiet_on
              go_big_quiet_want; (refine quiet_val ?_ ?_ ?_; rotate_left; (intro w; go_simp; rfl); go_simp; go_big_quiet_on)
              go_big_quiet_want; (refine quiet_val ?_ ?_ ?_; rotate_left; (intro w; go_simp; rfl); go_simp; go_big_quiet_on)
              go_big_quiet_want; (refine quiet_val ?_ ?_ ?_; rotate_left; (intro w; go_simp; rfl); go_simp; go_big_quiet_on)
              go_big_quiet_want; refine quiet_call 12 #[.pointer (some ⟨g, 0, none⟩)] (.int .i64 0) ?_ Q12.out ?_
              · intro w; go_simp; all_goals (with_reducible rfl)
              go_simp; go_big_quiet_on
              go_big_quiet_want; (refine quiet_val ?_ ?_ ?_; rotate_left; (intro w; go_simp; rfl); go_simp; go_big_quiet_on)
              go_big_quiet_want; (refine quiet_val ?_ ?_ ?_; rotate_left; (intro w; go_simp; rfl); go_simp; go_big_quiet_on)
              go_big_quiet_want; (refine quiet_val ?_ ?_ ?_; rotate_left; (intro w; go_simp; rfl); go_simp; go_big_quiet_on)
              go_big_quiet_want; (refine quiet_val ?_ ?_ ?_; rotate_left; (intro w; go_simp; rfl); go_simp; go_big_quiet_on)
              go_big_quiet_want; refine quiet_call 13 #[.pointer (some ⟨g, 0, none⟩)] (.int .i64 0) ?_ Q13.out ?_
              · intro w; go_simp; all_goals (with_reducible rfl)
              go_simp; go_big_quiet_on
              go_big_quiet_want; (refine quiet_val ?_ ?_ ?_; rotate_left; (intro w; go_simp; rfl); go_simp; go_big_quiet_on)
              go_big_quiet_want; (refine quiet_val ?_ ?_ ?_; rotate_left; (intro w; go_simp; rfl); go_simp; go_big_quiet_on)
              go_big_quiet_want; (refine quiet_val ?_ ?_ ?_; rotate_left; (intro w; go_simp; rfl); go_simp; go_big_quiet_on)
              go_big_quiet_want; (refine quiet_val ?_ ?_ ?_; rotate_left; (intro w; go_simp; rfl); go_simp; go_big_quiet_on)
              go_big_quiet_want; (refine quiet_val ?_ ?_ ?_; rotate_left; (intro w; go_simp; rfl); go_simp; go_big_quiet_on)
              go_big_quiet_want; (refine quiet_val ?_ ?_ ?_; rotate_left; (intro w; go_simp; rfl); go_simp; go_big_quiet_on)
              go_big_quiet_want; (refine quiet_val ?_ ?_ ?_; rotate_left; (intro w; go_simp; rfl); go_simp; go_big_quiet_on)
              go_big_quiet_want; (refine quiet_val ?_ ?_ ?_; rotate_left; (intro w; go_simp; rfl); go_simp; go_big_quiet_on)
              go_big_quiet_want; (refine quiet_val ?_ ?_ ?_; rotate_left; (intro w; go_simp; rfl); go_simp; go_big_quiet_on)
              go_big_quiet_want; refine quiet_ld _ rfl (ad := ⟨g16, 0, none⟩) rfl (fun w' h => load28_run (HB16.out.on h) ⟨rfl, rfl⟩) ?_; go_simp; go_big_quiet_on
              go_big_quiet_want; refine quiet_build36 rfl ?_; go_simp; go_big_quiet_on
              go_big_quiet_want; refine quiet_call 21 #[.agg (csP zeroPk fo fd), .agg (csP zeroPk (.slice none 0 0) (.slice none 0 0))] (.bool true) ?_ Q21a.out ?_
              · intro w; go_simp; all_goals (with_reducible rfl)
              go_simp; go_big_quiet_on
              go_big_quiet_want; (refine quiet_val ?_ ?_ ?_; rotate_left; (intro w; go_simp; rfl); go_simp; go_big_quiet_on)
              go_big_quiet_want; (refine quiet_val ?_ ?_ ?_; rotate_left; (intro w; go_simp; rfl); go_simp; go_big_quiet_on)
              go_big_quiet_want; (refine quiet_val ?_ ?_ ?_; rotate_left; (intro w; go_simp; rfl); go_simp; go_big_quiet_on)
              go_big_quiet_want; refine quiet_ld _ rfl (ad := ⟨g18, 0, none⟩) rfl (fun w' h => load28_run (HB18.out.on h) ⟨rfl, rfl⟩) ?_; go_simp; go_big_quiet_on
              go_big_quiet_want; refine quiet_build36 rfl ?_; go_simp; go_big_quiet_on
              go_big_quiet_want; refine quiet_call 21 #[.agg (csP zeroPk wo wd'), .agg (csP zeroPk (.slice none 0 0) (.slice none 0 0))] (.bool true) ?_ Q21b.out ?_
              · intro w; go_simp; all_goals (with_reducible rfl)
              go_simp; go_big_quiet_on
              go_big_quiet_want; (refine quiet_val ?_ ?_ ?_; rotate_left; (intro w; go_simp; rfl); go_simp; go_big_quiet_on)
              go_big_quiet_want; (refine quiet_val ?_ ?_ ?_; rotate_left; (intro w; go_simp; rfl); go_simp; go_big_quiet_on)
              go_big_quiet_want; (refine quiet_val ?_ ?_ ?_; rotate_left; (intro w; go_simp; rfl); go_simp; go_big_quiet_on)
              go_big_quiet_want; (refine quiet_val ?_ ?_ ?_; rotate_left; (intro w; go_simp; rfl); go_simp; go_big_quiet_on)
              go_big_quiet_want; refine quiet_call 22 #[.pointer (some ⟨g, 0, none⟩)] (.agg (csK (keyP x))) ?_ Q22.out ?_
              · intro w; go_simp; all_goals (with_reducible rfl)
              go_simp; go_big_quiet_on
              go_big_quiet_want; refine quiet_ld _ rfl (ad := ⟨g9, 0, none⟩) rfl (fun w' h => load29_run (range_away h (by simp) (boxK_range HL.out.bx)) (key_ad x)) ?_; go_simp; go_big_quiet_on
              go_big_quiet_want; refine quiet_ne78 _ _ rfl (csK (keyP x)) (csK (keyP x)) rfl rfl true HQK.out ?_; go_simp; go_big_quiet_on
              go_big_quiet_want; (refine quiet_val ?_ ?_ ?_; rotate_left; (intro w; go_simp; rfl); go_simp; go_big_quiet_on)
              go_big_quiet_want; (refine quiet_val ?_ ?_ ?_; rotate_left; (intro w; go_simp; rfl); go_simp; go_big_quiet_on)
              go_big_quiet_want; (refine quiet_val ?_ ?_ ?_; rotate_left; (intro w; go_simp; rfl); go_simp; go_big_quiet_on)
              go_big_quiet_want; refine quiet_call 23 #[.pointer (some ⟨g, 0, none⟩)] (.int .i64 7) ?_ Q23.out ?_
              · intro w; go_simp; all_goals (with_reducible rfl)
              go_simp; go_big_quiet_on
              go_big_quiet_want; (refine quiet_val ?_ ?_ ?_; rotate_left; (intro w; go_simp; rfl); go_simp; go_big_quiet_on)
              go_big_quiet_want; (refine quiet_val ?_ ?_ ?_; rotate_left; (intro w; go_simp; rfl); go_simp; go_big_quiet_on)
              refine wpQuiet_nil ?_
              intro V hV
              replace HL := Lib.hid (HL.out.on hV)
              clear hV
              go_wp2_with fail
              go_roundw
              case rel => exact ⟨k + 1, by omega, by go_num, HL.out⟩
              case measure => simp [intOf]; omega
          · have ho1 : (of == 0) = false := by simpa using ho
            have ho2 : 0 < of := by have := HOB.out; omega
            have HPW : Hid ((putS (eP x) q).1 = 2 ∧ (putS (eP x) q).2 = eP x) := by
              show _ ∧ _
              rw [bad_put, HOWN.out]
              simp [ho2]
            go_wp2_with (refine wpList_load28 rfl _ rfl _ rfl q _ _ (by exact HBX.out) HADM.out ?_)
            refine KP.out.mono ?_
            rintro E u8 ⟨rfl, fp8, hy8, -, haw8⟩
            rw [HPW.out.1]
            rw [HPW.out.2] at hy8
            replace HL := Lib.hid (HL.out.put HGG.out hy8 haw8)
            clear hy8 haw8 KP
            have KF := Lib.hid (efirst_c HL.out.ey)
            rw [pois_first] at KF
            go_wp2_with fail
            refine KF.out.mono ?_
            rintro E z1 ⟨fo, fd, rfl, hm1, haw1⟩
            have HM1 : Hid (Mine z1 u8.heap.size zeroPk fo fd) := hm1
            replace HL := Lib.hid (HL.out.on haw1)
            have HO1 := Lib.hid hm1.o.one
            have HD1 := Lib.hid hm1.d.one
            clear hm1 haw1 KF
            go_wp2_with (refine wpList_new28 rfl rfl rfl _ _ rfl zeroPk fo fd (fun g => rfl) (fun g => rfl) ⟨rfl, rfl⟩ HO1.out HD1.out ?_; refine Hid.out ?_)
            refine Lib.hid ?_
            intro g16 z2 hg16 hb16 haw16
            have HB16 := Lib.hid hb16
            replace HL := Lib.hid (HL.out.on haw16)
            replace HM1 := Lib.hid (HM1.out.on haw16)
            clear hb16 haw16 hg16
            have KW := Lib.hid (ewhole_c HL.out.ey)
            rw [pois_whole] at KW
            go_wp2_with fail
            refine KW.out.mono ?_
            rintro E z3 ⟨wo, wd', rfl, hm2, haw2⟩
            have HM2 : Hid (Mine z3 z2.heap.size zeroPk wo wd') := hm2
            replace HL := Lib.hid (HL.out.on haw2)
            replace HM1 := Lib.hid (HM1.out.on haw2)
            replace HB16 := Lib.hid (HB16.out.on haw2)
            have HO2 := Lib.hid hm2.o.one
            have HD2 := Lib.hid hm2.d.one
            clear hm2 haw2 KW
            go_wp2_with (refine wpList_new28 rfl rfl rfl _ _ rfl zeroPk wo wd' (fun g => rfl) (fun g => rfl) ⟨rfl, rfl⟩ HO2.out HD2.out ?_; refine Hid.out ?_)
            refine Lib.hid ?_
            intro g18 z4 hg18 hb18 haw18
            have HB18 := Lib.hid hb18
            replace HL := Lib.hid (HL.out.on haw18)
            replace HM1 := Lib.hid (HM1.out.on haw18)
            replace HM2 := Lib.hid (HM2.out.on haw18)
            replace HB16 := Lib.hid (HB16.out.on haw18)
            clear hb18 haw18 hg18
            have HC : Hid (Away [] z4 z4.drew) := (Away.refl _ _).drew
            have Q11 : Hid (∀ W, Away [] z4 W → Calls Tryd.prog 11 #[.pointer (some ⟨g, 0, none⟩)] W fun E w' => E = .returned (.bool true) ∧ Away [] z4 w') := fun W hW => (isP_c (HL.out.ey.on hW).ent).mono (fun E w' h => ⟨h.1, by rw [h.2]; exact hW⟩)
            have Q12 : Hid (∀ W, Away [] z4 W → Calls Tryd.prog 12 #[.pointer (some ⟨g, 0, none⟩)] W fun E w' => E = .returned (.int .i64 0) ∧ Away [] z4 w') := fun W hW => (bytes_c (HL.out.ey.on hW).ent).mono (fun E w' h => ⟨h.1, by rw [h.2]; exact hW⟩)
            have Q13 : Hid (∀ W, Away [] z4 W → Calls Tryd.prog 13 #[.pointer (some ⟨g, 0, none⟩)] W fun E w' => E = .returned (.int .i64 0) ∧ Away [] z4 w') := fun W hW => (eholes_c (HL.out.ey.on hW).ent).mono (fun E w' h => ⟨h.1, hW.trans h.2⟩)
            have Q21a : Hid (∀ W, Away [] z4 W → Calls Tryd.prog 21 #[.agg (csP zeroPk fo fd), .agg (csP zeroPk (.slice none 0 0) (.slice none 0 0))] W fun E w' => E = .returned (.bool true) ∧ Away [] z4 w') := fun W hW => (sameP_yes zeroPk zeroPk fo fd _ _ W (mine_pkt (HM1.out.on hW)) (mine_pkt (mine_zero W 0)) rfl).mono (fun E w' h => ⟨h.1, hW.trans h.2⟩)
            have Q21b : Hid (∀ W, Away [] z4 W → Calls Tryd.prog 21 #[.agg (csP zeroPk wo wd'), .agg (csP zeroPk (.slice none 0 0) (.slice none 0 0))] W fun E w' => E = .returned (.bool true) ∧ Away [] z4 w') := fun W hW => (sameP_yes zeroPk zeroPk wo wd' _ _ W (mine_pkt (HM2.out.on hW)) (mine_pkt (mine_zero W 0)) rfl).mono (fun E w' h => ⟨h.1, hW.trans h.2⟩)
            have Q22 : Hid (∀ W, Away [] z4 W → Calls Tryd.prog 22 #[.pointer (some ⟨g, 0, none⟩)] W fun E w' => E = .returned (.agg (csK (keyP x))) ∧ Away [] z4 w') := fun W hW => (ekey_c (HL.out.ey.on hW).ent).mono (fun E w' h => ⟨h.1, hW.trans h.2⟩)
            have Q23 : Hid (∀ W, Away [] z4 W → Calls Tryd.prog 23 #[.pointer (some ⟨g, 0, none⟩)] W fun E w' => E = .returned (.int .i64 7) ∧ Away [] z4 w') := fun W hW => (born_c (HL.out.ey.on hW).ent).mono (fun E w' h => ⟨h.1, by rw [h.2]; exact hW⟩)
            have HQK : Hid (∀ w, (Op.equalIn 10000 29 (.agg (csK (keyP x))) (.agg (csK (keyP x)))).run Tryd.prog w = .ok true w) := fun w => by
              have := eq78 (keyP x) (keyP x) (key_ad x) (key_ad x) w
              rw [key_ky, show kyB (keyP x) (keyP x) = true from by simp [kyB]] at this
              exact this
            have HB36 := Lib.hid run_build36
            go_wp2_with fail
            refine wp_region_cls (C := fun w' => Away [] z4 w') (by kernel_rfl) (by kernel_rfl) HC.out ?_
            go_big_quiet_want; (refine quiet_val ?_ ?_ ?_; rotate_left; (intro w; go_simp; rfl); go_simp; go_big_quiet_on)
            go_big_quiet_want; refine quiet_call 11 #[.pointer (some ⟨g, 0, none⟩)] (.bool true) ?_ Q11.out ?_
            · intro w; go_simp; all_goals (with_reducible rfl)
            go_simp; go_big_quiet_on
            go_big_quiet_want; (refine quiet_val ?_ ?_ ?_; rotate_left; (intro w; go_simp; rfl); go_simp; go_big_quiet_on)
            go_big_quiet_want; (refine quiet_val ?_ ?_ ?_; rotate_left; (intro w; go_simp; rfl); go_simp; go_big_quiet_on)
            go_big_quiet_want; (refine quiet_val ?_ ?_ ?_; rotate_left; (intro w; go_simp; rfl); go_simp; go_big_quiet_on)
            go_big_quiet_want; refine quiet_call 12 #[.pointer (some ⟨g, 0, none⟩)] (.int .i64 0) ?_ Q12.out ?_
            · intro w; go_simp; all_goals (with_reducible rfl)
            go_simp; go_big_quiet_on
            go_big_quiet_want; (refine quiet_val ?_ ?_ ?_; rotate_left; (intro w; go_simp; rfl); go_simp; go_big_quiet_on)
            go_big_quiet_want; (refine quiet_val ?_ ?_ ?_; rotate_left; (intro w; go_simp; rfl); go_simp; go_big_quiet_on)
            go_big_quiet_want; (refine quiet_val ?_ ?_ ?_; rotate_left; (intro w; go_simp; rfl); go_simp; go_big_quiet_on)
            go_big_quiet_want; (refine quiet_val ?_ ?_ ?_; rotate_left; (intro w; go_simp; rfl); go_simp; go_big_quiet_on)
            go_big_quiet_want; refine quiet_call 13 #[.pointer (some ⟨g, 0, none⟩)] (.int .i64 0) ?_ Q13.out ?_
            · intro w; go_simp; all_goals (with_reducible rfl)
            go_simp; go_big_quiet_on
            go_big_quiet_want; (refine quiet_val ?_ ?_ ?_; rotate_left; (intro w; go_simp; rfl); go_simp; go_big_quiet_on)
            go_big_quiet_want; (refine quiet_val ?_ ?_ ?_; rotate_left; (intro w; go_simp; rfl); go_simp; go_big_quiet_on)
            go_big_quiet_want; (refine quiet_val ?_ ?_ ?_; rotate_left; (intro w; go_simp; rfl); go_simp; go_big_quiet_on)
            go_big_quiet_want; (refine quiet_val ?_ ?_ ?_; rotate_left; (intro w; go_simp; rfl); go_simp; go_big_quiet_on)
            go_big_quiet_want; (refine quiet_val ?_ ?_ ?_; rotate_left; (intro w; go_simp; rfl); go_simp; go_big_quiet_on)
            go_big_quiet_want; (refine quiet_val ?_ ?_ ?_; rotate_left; (intro w; go_simp; rfl); go_simp; go_big_quiet_on)
            go_big_quiet_want; (refine quiet_val ?_ ?_ ?_; rotate_left; (intro w; go_simp; rfl); go_simp; go_big_quiet_on)
            go_big_quiet_want; (refine quiet_val ?_ ?_ ?_; rotate_left; (intro w; go_simp; rfl); go_simp; go_big_quiet_on)
            go_big_quiet_want; (refine quiet_val ?_ ?_ ?_; rotate_left; (intro w; go_simp; rfl); go_simp; go_big_quiet_on)
            go_big_quiet_want; refine quiet_ld _ rfl (ad := ⟨g16, 0, none⟩) rfl (fun w' h => load28_run (HB16.out.on h) ⟨rfl, rfl⟩) ?_; go_simp; go_big_quiet_on
            go_big_quiet_want; refine quiet_build36 rfl ?_; go_simp; go_big_quiet_on
            go_big_quiet_want; refine quiet_call 21 #[.agg (csP zeroPk fo fd), .agg (csP zeroPk (.slice none 0 0) (.slice none 0 0))] (.bool true) ?_ Q21a.out ?_
            · intro w; go_simp; all_goals (with_reducible rfl)
            go_simp; go_big_quiet_on
            go_big_quiet_want; (refine quiet_val ?_ ?_ ?_; rotate_left; (intro w; go_simp; rfl); go_simp; go_big_quiet_on)
            go_big_quiet_want; (refine quiet_val ?_ ?_ ?_; rotate_left; (intro w; go_simp; rfl); go_simp; go_big_quiet_on)
            go_big_quiet_want; (refine quiet_val ?_ ?_ ?_; rotate_left; (intro w; go_simp; rfl); go_simp; go_big_quiet_on)
            go_big_quiet_want; refine quiet_ld _ rfl (ad := ⟨g18, 0, none⟩) rfl (fun w' h => load28_run (HB18.out.on h) ⟨rfl, rfl⟩) ?_; go_simp; go_big_quiet_on
            go_big_quiet_want; refine quiet_build36 rfl ?_; go_simp; go_big_quiet_on
            go_big_quiet_want; refine quiet_call 21 #[.agg (csP zeroPk wo wd'), .agg (csP zeroPk (.slice none 0 0) (.slice none 0 0))] (.bool true) ?_ Q21b.out ?_
            · intro w; go_simp; all_goals (with_reducible rfl)
            go_simp; go_big_quiet_on
            go_big_quiet_want; (refine quiet_val ?_ ?_ ?_; rotate_left; (intro w; go_simp; rfl); go_simp; go_big_quiet_on)
            go_big_quiet_want; (refine quiet_val ?_ ?_ ?_; rotate_left; (intro w; go_simp; rfl); go_simp; go_big_quiet_on)
            go_big_quiet_want; (refine quiet_val ?_ ?_ ?_; rotate_left; (intro w; go_simp; rfl); go_simp; go_big_quiet_on)
            go_big_quiet_want; (refine quiet_val ?_ ?_ ?_; rotate_left; (intro w; go_simp; rfl); go_simp; go_big_quiet_on)
            go_big_quiet_want; refine quiet_call 22 #[.pointer (some ⟨g, 0, none⟩)] (.agg (csK (keyP x))) ?_ Q22.out ?_
            · intro w; go_simp; all_goals (with_reducible rfl)
            go_simp; go_big_quiet_on
            go_big_quiet_want; refine quiet_ld _ rfl (ad := ⟨g9, 0, none⟩) rfl (fun w' h => load29_run (range_away h (by simp) (boxK_range HL.out.bx)) (key_ad x)) ?_; go_simp; go_big_quiet_on
            go_big_quiet_want; refine quiet_ne78 _ _ rfl (csK (keyP x)) (csK (keyP x)) rfl rfl true HQK.out ?_; go_simp; go_big_quiet_on
            go_big_quiet_want; (refine quiet_val ?_ ?_ ?_; rotate_left; (intro w; go_simp; rfl); go_simp; go_big_quiet_on)
            go_big_quiet_want; (refine quiet_val ?_ ?_ ?_; rotate_left; (intro w; go_simp; rfl); go_simp; go_big_quiet_on)
            go_big_quiet_want; (refine quiet_val ?_ ?_ ?_; rotate_left; (intro w; go_simp; rfl); go_simp; go_big_quiet_on)
            go_big_quiet_want; refine quiet_call 23 #[.pointer (some ⟨g, 0, none⟩)] (.int .i64 7) ?_ Q23.out ?_
            · intro w; go_simp; all_goals (with_reducible rfl)
            go_simp; go_big_quiet_on
            go_big_quiet_want; (refine quiet_val ?_ ?_ ?_; rotate_left; (intro w; go_simp; rfl); go_simp; go_big_quiet_on)
            go_big_quiet_want; (refine quiet_val ?_ ?_ ?_; rotate_left; (intro w; go_simp; rfl); go_simp; go_big_quiet_on)
            refine wpQuiet_nil ?_
            intro V hV
            replace HL := Lib.hid (HL.out.on hV)
            clear hV
            go_wp2_with fail
            go_roundw
            case rel => exact ⟨k + 1, by omega, by go_num, HL.out⟩
            case measure => simp [intOf]; omega
        · refine step_alloc28 rfl rfl ?_
          intro g12 u6 hg12 hb12 haw6
          have HB12 := Lib.hid hb12
          have HG12 : Hid (wr.heap.size ≤ g12) := Nat.le_trans HAX.out.size hg12
          replace HAX := Lib.hid (HAX.out.trans haw6)
          have HL12 : Hid (g12 < u6.heap.size) := hb12.lt
          clear hb12 haw6 hg12
          refine hK.out _ _ (by exact HS15.out _ HAX.out) (fun hHeld => ?_)
          clear hK K
          try simp only [Act.put, List.setIfInBounds_toArray, List.set_cons_zero, List.set_cons_succ]
          refine wpAnyH_ready (rs := [5]) (by kernel_rfl) (by simp) ?_
          refine AllReadyH.cons (by simp only [List.getElem?_toArray, List.getElem?_cons_succ, List.getElem?_cons_zero]; rfl) (fun K hK => ?_) AllReadyH.nil
          go_simp
          refine (KM.out u6 HAX.out).mono ?_
          rintro E u5 ⟨dv, rfl, hpk, hnw, haw5⟩
          have HZC : Hid (wr.heap.size ≤ u6.heap.size) := HAX.out.size
          have HPK := Lib.hid hpk
          have HNW := Lib.hid hnw
          replace HAX := Lib.hid (HAX.out.trans haw5)
          have HD5 := Lib.hid hpk.d.one
          replace HB12 := Lib.hid (HB12.out.on haw5)
          clear hpk hnw haw5
          go_wp2_with fail
          refine hK.out _ _ (by exact HS15.out _ HAX.out) (fun hHeld => ?_)
          clear hK K
          try simp only [Act.put, List.setIfInBounds_toArray, List.set_cons_zero, List.set_cons_succ]
          refine wpAnyH_ready (rs := [7]) (by kernel_rfl) (by simp) ?_
          refine AllReadyH.cons (by simp only [List.getElem?_toArray, List.getElem?_cons_succ, List.getElem?_cons_zero]; rfl) (fun K hK => ?_) AllReadyH.nil
          have HN12 : Hid (∀ z, dv.ownBlock = some z → z ≠ g12) := fun z hz e => by have h1 := HNW.out z hz; have h2 := HL12.out; omega
          refine step_store28 rfl _ _ rfl g12 rfl (madeP (keyP x) ⟨ro, rn, rq, rm⟩) (.slice none 0 0) dv rfl zeroPk (.slice none 0 0) (.slice none 0 0) (by exact HB12.out) (made_ad (key_ad x) _ _) ⟨rfl, rfl⟩ rfl HD5.out ?_
          intro u7 hb12 haw7
          have HBX := Lib.hid hb12
          have HAXF : Hid (Away [] wr u7) := HAX.out.next haw7 (fun z hz => .inr (by simp at hz; rw [hz]; exact HG12.out))
          have HPKF : Hid (Pkt u7 (madeP (keyP x) ⟨ro, rn, rq, rm⟩) (.slice none 0 0) dv) := HPK.out.away haw7 ⟨fun e => absurd rfl e, fun _ z hz => by simpa using HN12.out z hz⟩
          have HDVN : Hid (∀ z, dv.ownBlock = some z → wr.heap.size ≤ z) := fun z hz => Nat.le_trans HZC.out (HNW.out z hz)
          clear hb12 haw7
          refine hK.out _ _ (by exact HS15.out _ HAXF.out) (fun hHeld => ?_)
          clear hK K
          try simp only [Act.put]
          refine wpAnyH_done (by kernel_rfl) ?_ _
          have HLF := Lib.hid (HL.out.on HAXF.out)
          have HADM : Hid (Ad (madeP (keyP x) ⟨ro, rn, rq, rm⟩)) := made_ad (key_ad x) _ _
          have KP : Hid (Calls Tryd.prog 9 #[.pointer (some ⟨g, 0, none⟩), .agg (csP (madeP (keyP x) ⟨ro, rn, rq, rm⟩) (.slice none 0 0) dv)] u7 (PutE u7 g (eP x) (madeP (keyP x) ⟨ro, rn, rq, rm⟩) [g])) :=
            eput_c HLF.out.ey _ _ dv HPKF.out (HG.out.on HLF.out.aw) ⟨fun e => absurd rfl e, fun _ z hz hm => by simp at hm; subst hm; have h1 := HDVN.out z hz; have h2 := HL.out.ey.ent.lt z (by simp); omega⟩ (fun hm => by simp at hm; have := HL.out.gn; omega)
          have c43 := (HBX.out.cells HADM.out).off
          have c41 := (HBX.out.cells HADM.out).more
          rw [HQO.out.1] at c43
          rw [HQO.out.2] at c41
          replace HL := HLF
          clear HLF hHeld HAXF HS15 KM HAX HPK HNW HCE
          generalize hMP : madeP (keyP x) ⟨ro, rn, rq, rm⟩ = q at *
          generalize offR ⟨ro, rn, rq, rm⟩ = of at *
          clear hMP
          by_cases ho : of = 0
          · have ho1 : (of == 0) = true := by simpa using ho
            have ho2 : ¬ (0 < of) := by omega
            cases rm with
            | true =>
              have HPW : Hid ((putS (eP x) q).1 = 2 ∧ (putS (eP x) q).2 = eP x) := by
                show _ ∧ _
                rw [bad_put, HOWN.out]
                simp [ho2]
              go_wp2_with (refine wpList_load28 rfl _ rfl _ rfl q _ _ (by exact HBX.out) HADM.out ?_)
              refine KP.out.mono ?_
              rintro E u8 ⟨rfl, fp8, hy8, -, haw8⟩
              rw [HPW.out.1]
              rw [HPW.out.2] at hy8
              replace HL := Lib.hid (HL.out.put HGG.out hy8 haw8)
              clear hy8 haw8 KP
              have KF := Lib.hid (efirst_c HL.out.ey)
              rw [pois_first] at KF
              go_wp2_with fail
              refine KF.out.mono ?_
              rintro E z1 ⟨fo, fd, rfl, hm1, haw1⟩
              have HM1 : Hid (Mine z1 u8.heap.size zeroPk fo fd) := hm1
              replace HL := Lib.hid (HL.out.on haw1)
              have HO1 := Lib.hid hm1.o.one
              have HD1 := Lib.hid hm1.d.one
              clear hm1 haw1 KF
              go_wp2_with (refine wpList_new28 rfl rfl rfl _ _ rfl zeroPk fo fd (fun g => rfl) (fun g => rfl) ⟨rfl, rfl⟩ HO1.out HD1.out ?_; refine Hid.out ?_)
              refine Lib.hid ?_
              intro g16 z2 hg16 hb16 haw16
              have HB16 := Lib.hid hb16
              replace HL := Lib.hid (HL.out.on haw16)
              replace HM1 := Lib.hid (HM1.out.on haw16)
              clear hb16 haw16 hg16
              have KW := Lib.hid (ewhole_c HL.out.ey)
              rw [pois_whole] at KW
              go_wp2_with fail
              refine KW.out.mono ?_
              rintro E z3 ⟨wo, wd', rfl, hm2, haw2⟩
              have HM2 : Hid (Mine z3 z2.heap.size zeroPk wo wd') := hm2
              replace HL := Lib.hid (HL.out.on haw2)
              replace HM1 := Lib.hid (HM1.out.on haw2)
              replace HB16 := Lib.hid (HB16.out.on haw2)
              have HO2 := Lib.hid hm2.o.one
              have HD2 := Lib.hid hm2.d.one
              clear hm2 haw2 KW
              go_wp2_with (refine wpList_new28 rfl rfl rfl _ _ rfl zeroPk wo wd' (fun g => rfl) (fun g => rfl) ⟨rfl, rfl⟩ HO2.out HD2.out ?_; refine Hid.out ?_)
              refine Lib.hid ?_
              intro g18 z4 hg18 hb18 haw18
              have HB18 := Lib.hid hb18
              replace HL := Lib.hid (HL.out.on haw18)
              replace HM1 := Lib.hid (HM1.out.on haw18)
              replace HM2 := Lib.hid (HM2.out.on haw18)
              replace HB16 := Lib.hid (HB16.out.on haw18)
              clear hb18 haw18 hg18
              have HC : Hid (Away [] z4 z4.drew) := (Away.refl _ _).drew
              have Q11 : Hid (∀ W, Away [] z4 W → Calls Tryd.prog 11 #[.pointer (some ⟨g, 0, none⟩)] W fun E w' => E = .returned (.bool true) ∧ Away [] z4 w') := fun W hW => (isP_c (HL.out.ey.on hW).ent).mono (fun E w' h => ⟨h.1, by rw [h.2]; exact hW⟩)
              have Q12 : Hid (∀ W, Away [] z4 W → Calls Tryd.prog 12 #[.pointer (some ⟨g, 0, none⟩)] W fun E w' => E = .returned (.int .i64 0) ∧ Away [] z4 w') := fun W hW => (bytes_c (HL.out.ey.on hW).ent).mono (fun E w' h => ⟨h.1, by rw [h.2]; exact hW⟩)
              have Q13 : Hid (∀ W, Away [] z4 W → Calls Tryd.prog 13 #[.pointer (some ⟨g, 0, none⟩)] W fun E w' => E = .returned (.int .i64 0) ∧ Away [] z4 w') := fun W hW => (eholes_c (HL.out.ey.on hW).ent).mono (fun E w' h => ⟨h.1, hW.trans h.2⟩)
              have Q21a : Hid (∀ W, Away [] z4 W → Calls Tryd.prog 21 #[.agg (csP zeroPk fo fd), .agg (csP zeroPk (.slice none 0 0) (.slice none 0 0))] W fun E w' => E = .returned (.bool true) ∧ Away [] z4 w') := fun W hW => (sameP_yes zeroPk zeroPk fo fd _ _ W (mine_pkt (HM1.out.on hW)) (mine_pkt (mine_zero W 0)) rfl).mono (fun E w' h => ⟨h.1, hW.trans h.2⟩)
              have Q21b : Hid (∀ W, Away [] z4 W → Calls Tryd.prog 21 #[.agg (csP zeroPk wo wd'), .agg (csP zeroPk (.slice none 0 0) (.slice none 0 0))] W fun E w' => E = .returned (.bool true) ∧ Away [] z4 w') := fun W hW => (sameP_yes zeroPk zeroPk wo wd' _ _ W (mine_pkt (HM2.out.on hW)) (mine_pkt (mine_zero W 0)) rfl).mono (fun E w' h => ⟨h.1, hW.trans h.2⟩)
              have Q22 : Hid (∀ W, Away [] z4 W → Calls Tryd.prog 22 #[.pointer (some ⟨g, 0, none⟩)] W fun E w' => E = .returned (.agg (csK (keyP x))) ∧ Away [] z4 w') := fun W hW => (ekey_c (HL.out.ey.on hW).ent).mono (fun E w' h => ⟨h.1, hW.trans h.2⟩)
              have Q23 : Hid (∀ W, Away [] z4 W → Calls Tryd.prog 23 #[.pointer (some ⟨g, 0, none⟩)] W fun E w' => E = .returned (.int .i64 7) ∧ Away [] z4 w') := fun W hW => (born_c (HL.out.ey.on hW).ent).mono (fun E w' h => ⟨h.1, by rw [h.2]; exact hW⟩)
              have HQK : Hid (∀ w, (Op.equalIn 10000 29 (.agg (csK (keyP x))) (.agg (csK (keyP x)))).run Tryd.prog w = .ok true w) := fun w => by
                have := eq78 (keyP x) (keyP x) (key_ad x) (key_ad x) w
                rw [key_ky, show kyB (keyP x) (keyP x) = true from by simp [kyB]] at this
                exact this
              have HB36 := Lib.hid run_build36
              go_wp2_with fail
              refine wp_region_cls (C := fun w' => Away [] z4 w') (by kernel_rfl) (by kernel_rfl) HC.out ?_
              go_big_quiet_want; (refine quiet_val ?_ ?_ ?_; rotate_left; (intro w; go_simp; rfl); go_simp; go_big_quiet_on)
              go_big_quiet_want; refine quiet_call 11 #[.pointer (some ⟨g, 0, none⟩)] (.bool true) ?_ Q11.out ?_
              · intro w; go_simp; all_goals (with_reducible rfl)
              go_simp; go_big_quiet_on
              go_big_quiet_want; (refine quiet_val ?_ ?_ ?_; rotate_left; (intro w; go_simp; rfl); go_simp; go_big_quiet_on)
              go_big_quiet_want; (refine quiet_val ?_ ?_ ?_; rotate_left; (intro w; go_simp; rfl); go_simp; go_big_quiet_on)
              go_big_quiet_want; (refine quiet_val ?_ ?_ ?_; rotate_left; (intro w; go_simp; rfl); go_simp; go_big_quiet_on)
              go_big_quiet_want; refine quiet_call 12 #[.pointer (some ⟨g, 0, none⟩)] (.int .i64 0) ?_ Q12.out ?_
              · intro w; go_simp; all_goals (with_reducible rfl)
              go_simp; go_big_quiet_on
              go_big_quiet_want; (refine quiet_val ?_ ?_ ?_; rotate_left; (intro w; go_simp; rfl); go_simp; go_big_quiet_on)
              go_big_quiet_want; (refine quiet_val ?_ ?_ ?_; rotate_left; (intro w; go_simp; rfl); go_simp; go_big_quiet_on)
              go_big_quiet_want; (refine quiet_val ?_ ?_ ?_; rotate_left; (intro w; go_simp; rfl); go_simp; go_big_quiet_on)
              go_big_quiet_want; (refine quiet_val ?_ ?_ ?_; rotate_left; (intro w; go_simp; rfl); go_simp; go_big_quiet_on)
              go_big_quiet_want; refine quiet_call 13 #[.pointer (some ⟨g, 0, none⟩)] (.int .i64 0) ?_ Q13.out ?_
              · intro w; go_simp; all_goals (with_reducible rfl)
              go_simp; go_big_quiet_on
              go_big_quiet_want; (refine quiet_val ?_ ?_ ?_; rotate_left; (intro w; go_simp; rfl); go_simp; go_big_quiet_on)
              go_big_quiet_want; (refine quiet_val ?_ ?_ ?_; rotate_left; (intro w; go_simp; rfl); go_simp; go_big_quiet_on)
              go_big_quiet_want; (refine quiet_val ?_ ?_ ?_; rotate_left; (intro w; go_simp; rfl); go_simp; go_big_quiet_on)
              go_big_quiet_want; (refine quiet_val ?_ ?_ ?_; rotate_left; (intro w; go_simp; rfl); go_simp; go_big_quiet_on)
              go_big_quiet_want; (refine quiet_val ?_ ?_ ?_; rotate_left; (intro w; go_simp; rfl); go_simp; go_big_quiet_on)
              go_big_quiet_want; (refine quiet_val ?_ ?_ ?_; rotate_left; (intro w; go_simp; rfl); go_simp; go_big_quiet_on)
              go_big_quiet_want; (refine quiet_val ?_ ?_ ?_; rotate_left; (intro w; go_simp; rfl); go_simp; go_big_quiet_on)
              go_big_quiet_want; (refine quiet_val ?_ ?_ ?_; rotate_left; (intro w; go_simp; rfl); go_simp; go_big_quiet_on)
              go_big_quiet_want; (refine quiet_val ?_ ?_ ?_; rotate_left; (intro w; go_simp; rfl); go_simp; go_big_quiet_on)
              go_big_quiet_want; refine quiet_ld _ rfl (ad := ⟨g16, 0, none⟩) rfl (fun w' h => load28_run (HB16.out.on h) ⟨rfl, rfl⟩) ?_; go_simp; go_big_quiet_on
              go_big_quiet_want; refine quiet_build36 rfl ?_; go_simp; go_big_quiet_on
              go_big_quiet_want; refine quiet_call 21 #[.agg (csP zeroPk fo fd), .agg (csP zeroPk (.slice none 0 0) (.slice none 0 0))] (.bool true) ?_ Q21a.out ?_
              · intro w; go_simp; all_goals (with_reducible rfl)
              go_simp; go_big_quiet_on
              go_big_quiet_want; (refine quiet_val ?_ ?_ ?_; rotate_left; (intro w; go_simp; rfl); go_simp; go_big_quiet_on)
              go_big_quiet_want; (refine quiet_val ?_ ?_ ?_; rotate_left; (intro w; go_simp; rfl); go_simp; go_big_quiet_on)
              go_big_quiet_want; (refine quiet_val ?_ ?_ ?_; rotate_left; (intro w; go_simp; rfl); go_simp; go_big_quiet_on)
              go_big_quiet_want; refine quiet_ld _ rfl (ad := ⟨g18, 0, none⟩) rfl (fun w' h => load28_run (HB18.out.on h) ⟨rfl, rfl⟩) ?_; go_simp; go_big_quiet_on
              go_big_quiet_want; refine quiet_build36 rfl ?_; go_simp; go_big_quiet_on
              go_big_quiet_want; refine quiet_call 21 #[.agg (csP zeroPk wo wd'), .agg (csP zeroPk (.slice none 0 0) (.slice none 0 0))] (.bool true) ?_ Q21b.out ?_
              · intro w; go_simp; all_goals (with_reducible rfl)
              go_simp; go_big_quiet_on
              go_big_quiet_want; (refine quiet_val ?_ ?_ ?_; rotate_left; (intro w; go_simp; rfl); go_simp; go_big_quiet_on)
              go_big_quiet_want; (refine quiet_val ?_ ?_ ?_; rotate_left; (intro w; go_simp; rfl); go_simp; go_big_quiet_on)
              go_big_quiet_want; (refine quiet_val ?_ ?_ ?_; rotate_left; (intro w; go_simp; rfl); go_simp; go_big_quiet_on)
              go_big_quiet_want; (refine quiet_val ?_ ?_ ?_; rotate_left; (intro w; go_simp; rfl); go_simp; go_big_quiet_on)
              go_big_quiet_want; refine quiet_call 22 #[.pointer (some ⟨g, 0, none⟩)] (.agg (csK (keyP x))) ?_ Q22.out ?_
              · intro w; go_simp; all_goals (with_reducible rfl)
              go_simp; go_big_quiet_on
              go_big_quiet_want; refine quiet_ld _ rfl (ad := ⟨g9, 0, none⟩) rfl (fun w' h => load29_run (range_away h (by simp) (boxK_range HL.out.bx)) (key_ad x)) ?_; go_simp; go_big_quiet_on
              go_big_quiet_want; refine quiet_ne78 _ _ rfl (csK (keyP x)) (csK (keyP x)) rfl rfl true HQK.out ?_; go_simp; go_big_quiet_on
              go_big_quiet_want; (refine quiet_val ?_ ?_ ?_; rotate_left; (intro w; go_simp; rfl); go_simp; go_big_quiet_on)
              go_big_quiet_want; (refine quiet_val ?_ ?_ ?_; rotate_left; (intro w; go_simp; rfl); go_simp; go_big_quiet_on)
              go_big_quiet_want; (refine quiet_val ?_ ?_ ?_; rotate_left; (intro w; go_simp; rfl); go_simp; go_big_quiet_on)
              go_big_quiet_want; refine quiet_call 23 #[.pointer (some ⟨g, 0, none⟩)] (.int .i64 7) ?_ Q23.out ?_
              · intro w; go_simp; all_goals (with_reducible rfl)
              go_simp; go_big_quiet_on
              go_big_quiet_want; (refine quiet_val ?_ ?_ ?_; rotate_left; (intro w; go_simp; rfl); go_simp; go_big_quiet_on)
              go_big_quiet_want; (refine quiet_val ?_ ?_ ?_; rotate_left; (intro w; go_simp; rfl); go_simp; go_big_quiet_on)
              refine wpQuiet_nil ?_
              intro V hV
              replace HL := Lib.hid (HL.out.on hV)
              clear hV
              go_wp2_with fail
              go_roundw
              case rel => exact ⟨k + 1, by omega, by go_num, HL.out⟩
              case measure => simp [intOf]; omega
            | false =>
              have HPW : Hid ((putS (eP x) q).1 = 1 ∧ (putS (eP x) q).2 = eP x) := by
                show _ ∧ _
                rw [bad_put, HOWN.out]
                simp [ho2]
              go_wp2_with (refine wpList_load28 rfl _ rfl _ rfl q _ _ (by exact HBX.out) HADM.out ?_)
              refine KP.out.mono ?_
              rintro E u8 ⟨rfl, fp8, hy8, -, haw8⟩
              rw [HPW.out.1]
              rw [HPW.out.2] at hy8
              replace HL := Lib.hid (HL.out.put HGG.out hy8 haw8)
              clear hy8 haw8 KP
              have KF := Lib.hid (efirst_c HL.out.ey)
              rw [pois_first] at KF
              go_wp2_with fail
              refine KF.out.mono ?_
              rintro E z1 ⟨fo, fd, rfl, hm1, haw1⟩
              have HM1 : Hid (Mine z1 u8.heap.size zeroPk fo fd) := hm1
              replace HL := Lib.hid (HL.out.on haw1)
              have HO1 := Lib.hid hm1.o.one
              have HD1 := Lib.hid hm1.d.one
              clear hm1 haw1 KF
              go_wp2_with (refine wpList_new28 rfl rfl rfl _ _ rfl zeroPk fo fd (fun g => rfl) (fun g => rfl) ⟨rfl, rfl⟩ HO1.out HD1.out ?_; refine Hid.out ?_)
              refine Lib.hid ?_
              intro g16 z2 hg16 hb16 haw16
              have HB16 := Lib.hid hb16
              replace HL := Lib.hid (HL.out.on haw16)
              replace HM1 := Lib.hid (HM1.out.on haw16)
              clear hb16 haw16 hg16
              have KW := Lib.hid (ewhole_c HL.out.ey)
              rw [pois_whole] at KW
              go_wp2_with fail
              refine KW.out.mono ?_
              rintro E z3 ⟨wo, wd', rfl, hm2, haw2⟩
              have HM2 : Hid (Mine z3 z2.heap.size zeroPk wo wd') := hm2
              replace HL := Lib.hid (HL.out.on haw2)
              replace HM1 := Lib.hid (HM1.out.on haw2)
              replace HB16 := Lib.hid (HB16.out.on haw2)
              have HO2 := Lib.hid hm2.o.one
              have HD2 := Lib.hid hm2.d.one
              clear hm2 haw2 KW
              go_wp2_with (refine wpList_new28 rfl rfl rfl _ _ rfl zeroPk wo wd' (fun g => rfl) (fun g => rfl) ⟨rfl, rfl⟩ HO2.out HD2.out ?_; refine Hid.out ?_)
              refine Lib.hid ?_
              intro g18 z4 hg18 hb18 haw18
              have HB18 := Lib.hid hb18
              replace HL := Lib.hid (HL.out.on haw18)
              replace HM1 := Lib.hid (HM1.out.on haw18)
              replace HM2 := Lib.hid (HM2.out.on haw18)
              replace HB16 := Lib.hid (HB16.out.on haw18)
              clear hb18 haw18 hg18
              have HC : Hid (Away [] z4 z4.drew) := (Away.refl _ _).drew
              have Q11 : Hid (∀ W, Away [] z4 W → Calls Tryd.prog 11 #[.pointer (some ⟨g, 0, none⟩)] W fun E w' => E = .returned (.bool true) ∧ Away [] z4 w') := fun W hW => (isP_c (HL.out.ey.on hW).ent).mono (fun E w' h => ⟨h.1, by rw [h.2]; exact hW⟩)
              have Q12 : Hid (∀ W, Away [] z4 W → Calls Tryd.prog 12 #[.pointer (some ⟨g, 0, none⟩)] W fun E w' => E = .returned (.int .i64 0) ∧ Away [] z4 w') := fun W hW => (bytes_c (HL.out.ey.on hW).ent).mono (fun E w' h => ⟨h.1, by rw [h.2]; exact hW⟩)
              have Q13 : Hid (∀ W, Away [] z4 W → Calls Tryd.prog 13 #[.pointer (some ⟨g, 0, none⟩)] W fun E w' => E = .returned (.int .i64 0) ∧ Away [] z4 w') := fun W hW => (eholes_c (HL.out.ey.on hW).ent).mono (fun E w' h => ⟨h.1, hW.trans h.2⟩)
              have Q21a : Hid (∀ W, Away [] z4 W → Calls Tryd.prog 21 #[.agg (csP zeroPk fo fd), .agg (csP zeroPk (.slice none 0 0) (.slice none 0 0))] W fun E w' => E = .returned (.bool true) ∧ Away [] z4 w') := fun W hW => (sameP_yes zeroPk zeroPk fo fd _ _ W (mine_pkt (HM1.out.on hW)) (mine_pkt (mine_zero W 0)) rfl).mono (fun E w' h => ⟨h.1, hW.trans h.2⟩)
              have Q21b : Hid (∀ W, Away [] z4 W → Calls Tryd.prog 21 #[.agg (csP zeroPk wo wd'), .agg (csP zeroPk (.slice none 0 0) (.slice none 0 0))] W fun E w' => E = .returned (.bool true) ∧ Away [] z4 w') := fun W hW => (sameP_yes zeroPk zeroPk wo wd' _ _ W (mine_pkt (HM2.out.on hW)) (mine_pkt (mine_zero W 0)) rfl).mono (fun E w' h => ⟨h.1, hW.trans h.2⟩)
              have Q22 : Hid (∀ W, Away [] z4 W → Calls Tryd.prog 22 #[.pointer (some ⟨g, 0, none⟩)] W fun E w' => E = .returned (.agg (csK (keyP x))) ∧ Away [] z4 w') := fun W hW => (ekey_c (HL.out.ey.on hW).ent).mono (fun E w' h => ⟨h.1, hW.trans h.2⟩)
              have Q23 : Hid (∀ W, Away [] z4 W → Calls Tryd.prog 23 #[.pointer (some ⟨g, 0, none⟩)] W fun E w' => E = .returned (.int .i64 7) ∧ Away [] z4 w') := fun W hW => (born_c (HL.out.ey.on hW).ent).mono (fun E w' h => ⟨h.1, by rw [h.2]; exact hW⟩)
              have HQK : Hid (∀ w, (Op.equalIn 10000 29 (.agg (csK (keyP x))) (.agg (csK (keyP x)))).run Tryd.prog w = .ok true w) := fun w => by
                have := eq78 (keyP x) (keyP x) (key_ad x) (key_ad x) w
                rw [key_ky, show kyB (keyP x) (keyP x) = true from by simp [kyB]] at this
                exact this
              have HB36 := Lib.hid run_build36
              go_wp2_with fail
              refine wp_region_cls (C := fun w' => Away [] z4 w') (by kernel_rfl) (by kernel_rfl) HC.out ?_
              go_big_quiet_want; (refine quiet_val ?_ ?_ ?_; rotate_left; (intro w; go_simp; rfl); go_simp; go_big_quiet_on)
              go_big_quiet_want; refine quiet_call 11 #[.pointer (some ⟨g, 0, none⟩)] (.bool true) ?_ Q11.out ?_
              · intro w; go_simp; all_goals (with_reducible rfl)
              go_simp; go_big_quiet_on
              go_big_quiet_want; (refine quiet_val ?_ ?_ ?_; rotate_left; (intro w; go_simp; rfl); go_simp; go_big_quiet_on)
              go_big_quiet_want; (refine quiet_val ?_ ?_ ?_; rotate_left; (intro w; go_simp; rfl); go_simp; go_big_quiet_on)
              go_big_quiet_want; (refine quiet_val ?_ ?_ ?_; rotate_left; (intro w; go_simp; rfl); go_simp; go_big_quiet_on)
              go_big_quiet_want; refine quiet_call 12 #[.pointer (some ⟨g, 0, none⟩)] (.int .i64 0) ?_ Q12.out ?_
              · intro w; go_simp; all_goals (with_reducible rfl)
              go_simp; go_big_quiet_on
              go_big_quiet_want; (refine quiet_val ?_ ?_ ?_; rotate_left; (intro w; go_simp; rfl); go_simp; go_big_quiet_on)
              go_big_quiet_want; (refine quiet_val ?_ ?_ ?_; rotate_left; (intro w; go_simp; rfl); go_simp; go_big_quiet_on)
              go_big_quiet_want; (refine quiet_val ?_ ?_ ?_; rotate_left; (intro w; go_simp; rfl); go_simp; go_big_quiet_on)
              go_big_quiet_want; (refine quiet_val ?_ ?_ ?_; rotate_left; (intro w; go_simp; rfl); go_simp; go_big_quiet_on)
              go_big_quiet_want; refine quiet_call 13 #[.pointer (some ⟨g, 0, none⟩)] (.int .i64 0) ?_ Q13.out ?_
              · intro w; go_simp; all_goals (with_reducible rfl)
              go_simp; go_big_quiet_on
              go_big_quiet_want; (refine quiet_val ?_ ?_ ?_; rotate_left; (intro w; go_simp; rfl); go_simp; go_big_quiet_on)
              go_big_quiet_want; (refine quiet_val ?_ ?_ ?_; rotate_left; (intro w; go_simp; rfl); go_simp; go_big_quiet_on)
              go_big_quiet_want; (refine quiet_val ?_ ?_ ?_; rotate_left; (intro w; go_simp; rfl); go_simp; go_big_quiet_on)
              go_big_quiet_want; (refine quiet_val ?_ ?_ ?_; rotate_left; (intro w; go_simp; rfl); go_simp; go_big_quiet_on)
              go_big_quiet_want; (refine quiet_val ?_ ?_ ?_; rotate_left; (intro w; go_simp; rfl); go_simp; go_big_quiet_on)
              go_big_quiet_want; (refine quiet_val ?_ ?_ ?_; rotate_left; (intro w; go_simp; rfl); go_simp; go_big_quiet_on)
              go_big_quiet_want; (refine quiet_val ?_ ?_ ?_; rotate_left; (intro w; go_simp; rfl); go_simp; go_big_quiet_on)
              go_big_quiet_want; (refine quiet_val ?_ ?_ ?_; rotate_left; (intro w; go_simp; rfl); go_simp; go_big_quiet_on)
              go_big_quiet_want; (refine quiet_val ?_ ?_ ?_; rotate_left; (intro w; go_simp; rfl); go_simp; go_big_quiet_on)
              go_big_quiet_want; refine quiet_ld _ rfl (ad := ⟨g16, 0, none⟩) rfl (fun w' h => load28_run (HB16.out.on h) ⟨rfl, rfl⟩) ?_; go_simp; go_big_quiet_on
              go_big_quiet_want; refine quiet_build36 rfl ?_; go_simp; go_big_quiet_on
              go_big_quiet_want; refine quiet_call 21 #[.agg (csP zeroPk fo fd), .agg (csP zeroPk (.slice none 0 0) (.slice none 0 0))] (.bool true) ?_ Q21a.out ?_
              · intro w; go_simp; all_goals (with_reducible rfl)
              go_simp; go_big_quiet_on
              go_big_quiet_want; (refine quiet_val ?_ ?_ ?_; rotate_left; (intro w; go_simp; rfl); go_simp; go_big_quiet_on)
              go_big_quiet_want; (refine quiet_val ?_ ?_ ?_; rotate_left; (intro w; go_simp; rfl); go_simp; go_big_quiet_on)
              go_big_quiet_want; (refine quiet_val ?_ ?_ ?_; rotate_left; (intro w; go_simp; rfl); go_simp; go_big_quiet_on)
              go_big_quiet_want; refine quiet_ld _ rfl (ad := ⟨g18, 0, none⟩) rfl (fun w' h => load28_run (HB18.out.on h) ⟨rfl, rfl⟩) ?_; go_simp; go_big_quiet_on
              go_big_quiet_want; refine quiet_build36 rfl ?_; go_simp; go_big_quiet_on
              go_big_quiet_want; refine quiet_call 21 #[.agg (csP zeroPk wo wd'), .agg (csP zeroPk (.slice none 0 0) (.slice none 0 0))] (.bool true) ?_ Q21b.out ?_
              · intro w; go_simp; all_goals (with_reducible rfl)
              go_simp; go_big_quiet_on
              go_big_quiet_want; (refine quiet_val ?_ ?_ ?_; rotate_left; (intro w; go_simp; rfl); go_simp; go_big_quiet_on)
              go_big_quiet_want; (refine quiet_val ?_ ?_ ?_; rotate_left; (intro w; go_simp; rfl); go_simp; go_big_quiet_on)
              go_big_quiet_want; (refine quiet_val ?_ ?_ ?_; rotate_left; (intro w; go_simp; rfl); go_simp; go_big_quiet_on)
              go_big_quiet_want; (refine quiet_val ?_ ?_ ?_; rotate_left; (intro w; go_simp; rfl); go_simp; go_big_quiet_on)
              go_big_quiet_want; refine quiet_call 22 #[.pointer (some ⟨g, 0, none⟩)] (.agg (csK (keyP x))) ?_ Q22.out ?_
              · intro w; go_simp; all_goals (with_reducible rfl)
              go_simp; go_big_quiet_on
              go_big_quiet_want; refine quiet_ld _ rfl (ad := ⟨g9, 0, none⟩) rfl (fun w' h => load29_run (range_away h (by simp) (boxK_range HL.out.bx)) (key_ad x)) ?_; go_simp; go_big_quiet_on
              go_big_quiet_want; refine quiet_ne78 _ _ rfl (csK (keyP x)) (csK (keyP x)) rfl rfl true HQK.out ?_; go_simp; go_big_quiet_on
              go_big_quiet_want; (refine quiet_val ?_ ?_ ?_; rotate_left; (intro w; go_simp; rfl); go_simp; go_big_quiet_on)
              go_big_quiet_want; (refine quiet_val ?_ ?_ ?_; rotate_left; (intro w; go_simp; rfl); go_simp; go_big_quiet_on)
              go_big_quiet_want; (refine quiet_val ?_ ?_ ?_; rotate_left; (intro w; go_simp; rfl); go_simp; go_big_quiet_on)
              go_big_quiet_want; refine quiet_call 23 #[.pointer (some ⟨g, 0, none⟩)] (.int .i64 7) ?_ Q23.out ?_
              · intro w; go_simp; all_goals (with_reducible rfl)
              go_simp; go_big_quiet_on
              go_big_quiet_want; (refine quiet_val ?_ ?_ ?_; rotate_left; (intro w; go_simp; rfl); go_simp; go_big_quiet_on)
              go_big_quiet_want; (refine quiet_val ?_ ?_ ?_; rotate_left; (intro w; go_simp; rfl); go_simp; go_big_quiet_on)
              refine wpQuiet_nil ?_
              intro V hV
              replace HL := Lib.hid (HL.out.on hV)
              clear hV
              go_wp2_with fail
              go_roundw
              case rel => exact ⟨k + 1, by omega, by go_num, HL.out⟩
              case measure => simp [intOf]; omega
          · have ho1 : (of == 0) = false := by simpa using ho
            have ho2 : 0 < of := by have := HOB.out; omega
            have HPW : Hid ((putS (eP x) q).1 = 2 ∧ (putS (eP x) q).2 = eP x) := by
              show _ ∧ _
              rw [bad_put, HOWN.out]
              simp [ho2]
            go_wp2_with (refine wpList_load28 rfl _ rfl _ rfl q _ _ (by exact HBX.out) HADM.out ?_)
            refine KP.out.mono ?_
            rintro E u8 ⟨rfl, fp8, hy8, -, haw8⟩
            rw [HPW.out.1]
            rw [HPW.out.2] at hy8
            replace HL := Lib.hid (HL.out.put HGG.out hy8 haw8)
            clear hy8 haw8 KP
            have KF := Lib.hid (efirst_c HL.out.ey)
            rw [pois_first] at KF
            go_wp2_with fail
            refine KF.out.mono ?_
            rintro E z1 ⟨fo, fd, rfl, hm1, haw1⟩
            have HM1 : Hid (Mine z1 u8.heap.size zeroPk fo fd) := hm1
            replace HL := Lib.hid (HL.out.on haw1)
            have HO1 := Lib.hid hm1.o.one
            have HD1 := Lib.hid hm1.d.one
            clear hm1 haw1 KF
            go_wp2_with (refine wpList_new28 rfl rfl rfl _ _ rfl zeroPk fo fd (fun g => rfl) (fun g => rfl) ⟨rfl, rfl⟩ HO1.out HD1.out ?_; refine Hid.out ?_)
            refine Lib.hid ?_
            intro g16 z2 hg16 hb16 haw16
            have HB16 := Lib.hid hb16
            replace HL := Lib.hid (HL.out.on haw16)
            replace HM1 := Lib.hid (HM1.out.on haw16)
            clear hb16 haw16 hg16
            have KW := Lib.hid (ewhole_c HL.out.ey)
            rw [pois_whole] at KW
            go_wp2_with fail
            refine KW.out.mono ?_
            rintro E z3 ⟨wo, wd', rfl, hm2, haw2⟩
            have HM2 : Hid (Mine z3 z2.heap.size zeroPk wo wd') := hm2
            replace HL := Lib.hid (HL.out.on haw2)
            replace HM1 := Lib.hid (HM1.out.on haw2)
            replace HB16 := Lib.hid (HB16.out.on haw2)
            have HO2 := Lib.hid hm2.o.one
            have HD2 := Lib.hid hm2.d.one
            clear hm2 haw2 KW
            go_wp2_with (refine wpList_new28 rfl rfl rfl _ _ rfl zeroPk wo wd' (fun g => rfl) (fun g => rfl) ⟨rfl, rfl⟩ HO2.out HD2.out ?_; refine Hid.out ?_)
            refine Lib.hid ?_
            intro g18 z4 hg18 hb18 haw18
            have HB18 := Lib.hid hb18
            replace HL := Lib.hid (HL.out.on haw18)
            replace HM1 := Lib.hid (HM1.out.on haw18)
            replace HM2 := Lib.hid (HM2.out.on haw18)
            replace HB16 := Lib.hid (HB16.out.on haw18)
            clear hb18 haw18 hg18
            have HC : Hid (Away [] z4 z4.drew) := (Away.refl _ _).drew
            have Q11 : Hid (∀ W, Away [] z4 W → Calls Tryd.prog 11 #[.pointer (some ⟨g, 0, none⟩)] W fun E w' => E = .returned (.bool true) ∧ Away [] z4 w') := fun W hW => (isP_c (HL.out.ey.on hW).ent).mono (fun E w' h => ⟨h.1, by rw [h.2]; exact hW⟩)
            have Q12 : Hid (∀ W, Away [] z4 W → Calls Tryd.prog 12 #[.pointer (some ⟨g, 0, none⟩)] W fun E w' => E = .returned (.int .i64 0) ∧ Away [] z4 w') := fun W hW => (bytes_c (HL.out.ey.on hW).ent).mono (fun E w' h => ⟨h.1, by rw [h.2]; exact hW⟩)
            have Q13 : Hid (∀ W, Away [] z4 W → Calls Tryd.prog 13 #[.pointer (some ⟨g, 0, none⟩)] W fun E w' => E = .returned (.int .i64 0) ∧ Away [] z4 w') := fun W hW => (eholes_c (HL.out.ey.on hW).ent).mono (fun E w' h => ⟨h.1, hW.trans h.2⟩)
            have Q21a : Hid (∀ W, Away [] z4 W → Calls Tryd.prog 21 #[.agg (csP zeroPk fo fd), .agg (csP zeroPk (.slice none 0 0) (.slice none 0 0))] W fun E w' => E = .returned (.bool true) ∧ Away [] z4 w') := fun W hW => (sameP_yes zeroPk zeroPk fo fd _ _ W (mine_pkt (HM1.out.on hW)) (mine_pkt (mine_zero W 0)) rfl).mono (fun E w' h => ⟨h.1, hW.trans h.2⟩)
            have Q21b : Hid (∀ W, Away [] z4 W → Calls Tryd.prog 21 #[.agg (csP zeroPk wo wd'), .agg (csP zeroPk (.slice none 0 0) (.slice none 0 0))] W fun E w' => E = .returned (.bool true) ∧ Away [] z4 w') := fun W hW => (sameP_yes zeroPk zeroPk wo wd' _ _ W (mine_pkt (HM2.out.on hW)) (mine_pkt (mine_zero W 0)) rfl).mono (fun E w' h => ⟨h.1, hW.trans h.2⟩)
            have Q22 : Hid (∀ W, Away [] z4 W → Calls Tryd.prog 22 #[.pointer (some ⟨g, 0, none⟩)] W fun E w' => E = .returned (.agg (csK (keyP x))) ∧ Away [] z4 w') := fun W hW => (ekey_c (HL.out.ey.on hW).ent).mono (fun E w' h => ⟨h.1, hW.trans h.2⟩)
            have Q23 : Hid (∀ W, Away [] z4 W → Calls Tryd.prog 23 #[.pointer (some ⟨g, 0, none⟩)] W fun E w' => E = .returned (.int .i64 7) ∧ Away [] z4 w') := fun W hW => (born_c (HL.out.ey.on hW).ent).mono (fun E w' h => ⟨h.1, by rw [h.2]; exact hW⟩)
            have HQK : Hid (∀ w, (Op.equalIn 10000 29 (.agg (csK (keyP x))) (.agg (csK (keyP x)))).run Tryd.prog w = .ok true w) := fun w => by
              have := eq78 (keyP x) (keyP x) (key_ad x) (key_ad x) w
              rw [key_ky, show kyB (keyP x) (keyP x) = true from by simp [kyB]] at this
              exact this
            have HB36 := Lib.hid run_build36
            go_wp2_with fail
            refine wp_region_cls (C := fun w' => Away [] z4 w') (by kernel_rfl) (by kernel_rfl) HC.out ?_
            go_big_quiet_want; (refine quiet_val ?_ ?_ ?_; rotate_left; (intro w; go_simp; rfl); go_simp; go_big_quiet_on)
            go_big_quiet_want; refine quiet_call 11 #[.pointer (some ⟨g, 0, none⟩)] (.bool true) ?_ Q11.out ?_
            · intro w; go_simp; all_goals (with_reducible rfl)
            go_simp; go_big_quiet_on
            go_big_quiet_want; (refine quiet_val ?_ ?_ ?_; rotate_left; (intro w; go_simp; rfl); go_simp; go_big_quiet_on)
            go_big_quiet_want; (refine quiet_val ?_ ?_ ?_; rotate_left; (intro w; go_simp; rfl); go_simp; go_big_quiet_on)
            go_big_quiet_want; (refine quiet_val ?_ ?_ ?_; rotate_left; (intro w; go_simp; rfl); go_simp; go_big_quiet_on)
            go_big_quiet_want; refine quiet_call 12 #[.pointer (some ⟨g, 0, none⟩)] (.int .i64 0) ?_ Q12.out ?_
            · intro w; go_simp; all_goals (with_reducible rfl)
            go_simp; go_big_quiet_on
            go_big_quiet_want; (refine quiet_val ?_ ?_ ?_; rotate_left; (intro w; go_simp; rfl); go_simp; go_big_quiet_on)
            go_big_quiet_want; (refine quiet_val ?_ ?_ ?_; rotate_left; (intro w; go_simp; rfl); go_simp; go_big_quiet_on)
            go_big_quiet_want; (refine quiet_val ?_ ?_ ?_; rotate_left; (intro w; go_simp; rfl); go_simp; go_big_quiet_on)
            go_big_quiet_want; (refine quiet_val ?_ ?_ ?_; rotate_left; (intro w; go_simp; rfl); go_simp; go_big_quiet_on)
            go_big_quiet_want; refine quiet_call 13 #[.pointer (some ⟨g, 0, none⟩)] (.int .i64 0) ?_ Q13.out ?_
            · intro w; go_simp; all_goals (with_reducible rfl)
            go_simp; go_big_quiet_on
            go_big_quiet_want; (refine quiet_val ?_ ?_ ?_; rotate_left; (intro w; go_simp; rfl); go_simp; go_big_quiet_on)
            go_big_quiet_want; (refine quiet_val ?_ ?_ ?_; rotate_left; (intro w; go_simp; rfl); go_simp; go_big_quiet_on)
            go_big_quiet_want; (refine quiet_val ?_ ?_ ?_; rotate_left; (intro w; go_simp; rfl); go_simp; go_big_quiet_on)
            go_big_quiet_want; (refine quiet_val ?_ ?_ ?_; rotate_left; (intro w; go_simp; rfl); go_simp; go_big_quiet_on)
            go_big_quiet_want; (refine quiet_val ?_ ?_ ?_; rotate_left; (intro w; go_simp; rfl); go_simp; go_big_quiet_on)
            go_big_quiet_want; (refine quiet_val ?_ ?_ ?_; rotate_left; (intro w; go_simp; rfl); go_simp; go_big_quiet_on)
            go_big_quiet_want; (refine quiet_val ?_ ?_ ?_; rotate_left; (intro w; go_simp; rfl); go_simp; go_big_quiet_on)
            go_big_quiet_want; (refine quiet_val ?_ ?_ ?_; rotate_left; (intro w; go_simp; rfl); go_simp; go_big_quiet_on)
            go_big_quiet_want; (refine quiet_val ?_ ?_ ?_; rotate_left; (intro w; go_simp; rfl); go_simp; go_big_quiet_on)
            go_big_quiet_want; refine quiet_ld _ rfl (ad := ⟨g16, 0, none⟩) rfl (fun w' h => load28_run (HB16.out.on h) ⟨rfl, rfl⟩) ?_; go_simp; go_big_quiet_on
            go_big_quiet_want; refine quiet_build36 rfl ?_; go_simp; go_big_quiet_on
            go_big_quiet_want; refine quiet_call 21 #[.agg (csP zeroPk fo fd), .agg (csP zeroPk (.slice none 0 0) (.slice none 0 0))] (.bool true) ?_ Q21a.out ?_
            · intro w; go_simp; all_goals (with_reducible rfl)
            go_simp; go_big_quiet_on
            go_big_quiet_want; (refine quiet_val ?_ ?_ ?_; rotate_left; (intro w; go_simp; rfl); go_simp; go_big_quiet_on)
            go_big_quiet_want; (refine quiet_val ?_ ?_ ?_; rotate_left; (intro w; go_simp; rfl); go_simp; go_big_quiet_on)
            go_big_quiet_want; (refine quiet_val ?_ ?_ ?_; rotate_left; (intro w; go_simp; rfl); go_simp; go_big_quiet_on)
            go_big_quiet_want; refine quiet_ld _ rfl (ad := ⟨g18, 0, none⟩) rfl (fun w' h => load28_run (HB18.out.on h) ⟨rfl, rfl⟩) ?_; go_simp; go_big_quiet_on
            go_big_quiet_want; refine quiet_build36 rfl ?_; go_simp; go_big_quiet_on
            go_big_quiet_want; refine quiet_call 21 #[.agg (csP zeroPk wo wd'), .agg (csP zeroPk (.slice none 0 0) (.slice none 0 0))] (.bool true) ?_ Q21b.out ?_
            · intro w; go_simp; all_goals (with_reducible rfl)
            go_simp; go_big_quiet_on
            go_big_quiet_want; (refine quiet_val ?_ ?_ ?_; rotate_left; (intro w; go_simp; rfl); go_simp; go_big_quiet_on)
            go_big_quiet_want; (refine quiet_val ?_ ?_ ?_; rotate_left; (intro w; go_simp; rfl); go_simp; go_big_quiet_on)
            go_big_quiet_want; (refine quiet_val ?_ ?_ ?_; rotate_left; (intro w; go_simp; rfl); go_simp; go_big_quiet_on)
            go_big_quiet_want; (refine quiet_val ?_ ?_ ?_; rotate_left; (intro w; go_simp; rfl); go_simp; go_big_quiet_on)
            go_big_quiet_want; refine quiet_call 22 #[.pointer (some ⟨g, 0, none⟩)] (.agg (csK (keyP x))) ?_ Q22.out ?_
            · intro w; go_simp; all_goals (with_reducible rfl)
            go_simp; go_big_quiet_on
            go_big_quiet_want; refine quiet_ld _ rfl (ad := ⟨g9, 0, none⟩) rfl (fun w' h => load29_run (range_away h (by simp) (boxK_range HL.out.bx)) (key_ad x)) ?_; go_simp; go_big_quiet_on
            go_big_quiet_want; refine quiet_ne78 _ _ rfl (csK (keyP x)) (csK (keyP x)) rfl rfl true HQK.out ?_; go_simp; go_big_quiet_on
            go_big_quiet_want; (refine quiet_val ?_ ?_ ?_; rotate_left; (intro w; go_simp; rfl); go_simp; go_big_quiet_on)
            go_big_quiet_want; (refine quiet_val ?_ ?_ ?_; rotate_left; (intro w; go_simp; rfl); go_simp; go_big_quiet_on)
            go_big_quiet_want; (refine quiet_val ?_ ?_ ?_; rotate_left; (intro w; go_simp; rfl); go_simp; go_big_quiet_on)
            go_big_quiet_want; refine quiet_call 23 #[.pointer (some ⟨g, 0, none⟩)] (.int .i64 7) ?_ Q23.out ?_
            · intro w; go_simp; all_goals (with_reducible rfl)
            go_simp; go_big_quiet_on
            go_big_quiet_want; (refine quiet_val ?_ ?_ ?_; rotate_left; (intro w; go_simp; rfl); go_simp; go_big_quiet_on)
            go_big_quiet_want; (refine quiet_val ?_ ?_ ?_; rotate_left; (intro w; go_simp; rfl); go_simp; go_big_quiet_on)
            refine wpQuiet_nil ?_
            intro V hV
            replace HL := Lib.hid (HL.out.on hV)
            clear hV
            go_wp2_with fail
            go_roundw
            case rel => exact ⟨k + 1, by omega, by go_num, HL.out⟩
            case measure => simp [intOf]; omega
      · obtain ⟨j, hj⟩ : ∃ j : Nat, (k : Int) - n = j := ⟨k - n, by omega⟩
        have hjm : j < m := by omega
        obtain ⟨xx, hxx, hxm⟩ := get_of (show j < xs.length by have := HM.out; omega)
        obtain ⟨b, off, hxa, hrg⟩ : ∃ b off, xa = some ⟨b, off, none⟩ ∧ ∀ i x, xs[i]? = some x → w.rangeAt b (off + i * 46) x.cells := by
          rcases HXR.out with h | h
          · rw [h] at hxx; simp at hxx
          · exact h
        have hrx := range_away HL.out.aw (by simp) (hrg j xx hxx)
        subst hxa
        obtain ⟨q, qo, qd⟩ := xx
        have HRX : Hid (wr.rangeAt b (off + j * 46) (listP q qo qd)) := hrx
        have HPX : Hid (Pkt wr q qo qd) := (HXO.out _ hxm).1.on HL.out.aw
        have HAX := Lib.hid HPX.out.wf.ad
        have HLT : Hid (g < wr.heap.size) := HL.out.ey.ent.lt g (by simp)
        have KO := Lib.hid (ownP_c q qo qd wr HPX.out)
        have i2 : ¬ ((k : Int) < (n : Int)) := by omega
        have i3 : IntKind.i64.wrap ((k : Int) - n) = (j : Int) := by rw [IntKind.wrap_i64]; omega
        have i4 : 0 ≤ (j : Int) := by omega
        have i5 : (j : Int) < (m : Int) := by omega
        have i6 : ((j : Int)).toNat = j := by omega
        have HJ := Lib.hid hj
        clear hj hrx hrg hxx hxm
        go_wp2_with (refine wpList_load28m rfl _ rfl b (off + j * 46) rfl q qo qd (by exact HRX.out) HAX.out ?_)
        refine KO.out.mono ?_
        rintro E u1 hown
        obtain ⟨po, pd, rfl, hmine, haw1⟩ := hown
        have HMI := Lib.hid hmine
        have HO1 := Lib.hid hmine.o.one
        have HD1 := Lib.hid hmine.d.one
        have hs1 : wr.heap.size ≤ u1.heap.size := haw1.size
        replace HL := Lib.hid (HL.out.on haw1)
        have HWQ := Lib.hid HPX.out.wf
        clear hmine haw1 KO
        go_wp2_with (refine wpList_new28 rfl rfl rfl _ _ rfl q po pd (fun g => rfl) (fun g => rfl) HAX.out HO1.out HD1.out ?_; refine Hid.out ?_)
        refine Lib.hid ?_
        intro g14 u2 hg14 hb14 haw2
        have HB14 := Lib.hid hb14
        replace HL := Lib.hid (HL.out.on haw2)
        replace HMI := Lib.hid (HMI.out.on haw2)
        have HB14L := hb14.lt
        clear hb14 haw2
        have KP : Hid (Calls Tryd.prog 9 #[.pointer (some ⟨g, 0, none⟩), .agg (csP q po pd)] u2 (PutE u2 g (eP x) q [g])) :=
          eput_c HL.out.ey _ po pd (HMI.out.pkt HWQ.out) (HG.out.on HL.out.aw) ⟨fun _ z hz hm => by simp at hm; subst hm; have h1 := (HMI.out.lto z (.inl hz)).2; have h2 := HLT.out; omega, fun _ z hz hm => by simp at hm; subst hm; have h1 := (HMI.out.lto z (.inr hz)).2; have h2 := HLT.out; omega⟩ (fun hm => by simp at hm; have := HL.out.gn; omega)
        have HPW : Hid (putS (eP x) q = (if ownB (eP x) q = false then 1 else 2, eP x)) := bad_put x q
        have HKY : Hid (ownB (eP x) q = true → kyB q (keyP x) = true) := fun h => own_key h
        go_wp2_with (refine wpList_load28 rfl _ rfl _ rfl q _ _ (by exact HB14.out) HAX.out ?_)
        refine KP.out.mono ?_
        rintro E u3 ⟨rfl, fp8, hy8, -, haw8⟩
        rw [HPW.out]
        rw [HPW.out] at hy8
        replace HB14 := Lib.hid (HB14.out.away haw8 (by simp; intro e; have h1 := HLT.out; omega))
        replace HL := Lib.hid (HL.out.put HGG.out hy8 haw8)
        clear hy8 haw8 KP
        have HC : Hid (Away [] u3 u3.drew) := (Away.refl _ _).drew
        generalize ownB (eP x) q = ob at *
        cases ob with
        | false =>
          have e1 : (if (false : Bool) = false then (1 : Int) else 2) = 1 := rfl
          rw [e1]
          clear e1
          go_wp2_with fail
          refine wp_region_cls (C := fun w' => Away [] u3 w') (by kernel_rfl) (by kernel_rfl) HC.out ?_
          go_big_quiet_want; (refine quiet_val ?_ ?_ ?_; rotate_left; (intro w; go_simp; rfl); go_simp; go_big_quiet_on)
          go_big_quiet_want; (refine quiet_val ?_ ?_ ?_; rotate_left; (intro w; go_simp; rfl); go_simp; go_big_quiet_on)
          go_big_quiet_want; (refine quiet_val ?_ ?_ ?_; rotate_left; (intro w; go_simp; rfl); go_simp; go_big_quiet_on)
          go_big_quiet_skip
          go_big_quiet_skip
          go_big_quiet_skip
          go_big_quiet_skip
          go_big_quiet_skip
          go_big_quiet_skip
          go_big_quiet_skip
          go_big_quiet_skip
          go_big_quiet_want; (refine quiet_val ?_ ?_ ?_; rotate_left; (intro w; go_simp; rfl); go_simp; go_big_quiet_on)
          refine wpQuiet_nil ?_
          intro V hV
          replace HL := Lib.hid (HL.out.on hV)
          clear hV HC HB14 HMI
          have KF := Lib.hid (efirst_c HL.out.ey)
          rw [pois_first] at KF
          go_wp2_with fail
          refine KF.out.mono ?_
          rintro E z1 ⟨fo, fd, rfl, hm1, haw1⟩
          have HM1 : Hid (Mine z1 V.heap.size zeroPk fo fd) := hm1
          replace HL := Lib.hid (HL.out.on haw1)
          have HO1 := Lib.hid hm1.o.one
          have HD1 := Lib.hid hm1.d.one
          clear hm1 haw1 KF
          go_wp2_with (refine wpList_new28 rfl rfl rfl _ _ rfl zeroPk fo fd (fun g => rfl) (fun g => rfl) ⟨rfl, rfl⟩ HO1.out HD1.out ?_; refine Hid.out ?_)
          refine Lib.hid ?_
          intro g16 z2 hg16 hb16 haw16
          have HB16 := Lib.hid hb16
          replace HL := Lib.hid (HL.out.on haw16)
          replace HM1 := Lib.hid (HM1.out.on haw16)
          clear hb16 haw16 hg16
          have KW := Lib.hid (ewhole_c HL.out.ey)
          rw [pois_whole] at KW
          go_wp2_with fail
          refine KW.out.mono ?_
          rintro E z3 ⟨wo, wd', rfl, hm2, haw2⟩
          have HM2 : Hid (Mine z3 z2.heap.size zeroPk wo wd') := hm2
          replace HL := Lib.hid (HL.out.on haw2)
          replace HM1 := Lib.hid (HM1.out.on haw2)
          replace HB16 := Lib.hid (HB16.out.on haw2)
          have HO2 := Lib.hid hm2.o.one
          have HD2 := Lib.hid hm2.d.one
          clear hm2 haw2 KW
          go_wp2_with (refine wpList_new28 rfl rfl rfl _ _ rfl zeroPk wo wd' (fun g => rfl) (fun g => rfl) ⟨rfl, rfl⟩ HO2.out HD2.out ?_; refine Hid.out ?_)
          refine Lib.hid ?_
          intro g18 z4 hg18 hb18 haw18
          have HB18 := Lib.hid hb18
          replace HL := Lib.hid (HL.out.on haw18)
          replace HM1 := Lib.hid (HM1.out.on haw18)
          replace HM2 := Lib.hid (HM2.out.on haw18)
          replace HB16 := Lib.hid (HB16.out.on haw18)
          clear hb18 haw18 hg18
          have HC : Hid (Away [] z4 z4.drew) := (Away.refl _ _).drew
          have Q11 : Hid (∀ W, Away [] z4 W → Calls Tryd.prog 11 #[.pointer (some ⟨g, 0, none⟩)] W fun E w' => E = .returned (.bool true) ∧ Away [] z4 w') := fun W hW => (isP_c (HL.out.ey.on hW).ent).mono (fun E w' h => ⟨h.1, by rw [h.2]; exact hW⟩)
          have Q12 : Hid (∀ W, Away [] z4 W → Calls Tryd.prog 12 #[.pointer (some ⟨g, 0, none⟩)] W fun E w' => E = .returned (.int .i64 0) ∧ Away [] z4 w') := fun W hW => (bytes_c (HL.out.ey.on hW).ent).mono (fun E w' h => ⟨h.1, by rw [h.2]; exact hW⟩)
          have Q13 : Hid (∀ W, Away [] z4 W → Calls Tryd.prog 13 #[.pointer (some ⟨g, 0, none⟩)] W fun E w' => E = .returned (.int .i64 0) ∧ Away [] z4 w') := fun W hW => (eholes_c (HL.out.ey.on hW).ent).mono (fun E w' h => ⟨h.1, hW.trans h.2⟩)
          have Q21a : Hid (∀ W, Away [] z4 W → Calls Tryd.prog 21 #[.agg (csP zeroPk fo fd), .agg (csP zeroPk (.slice none 0 0) (.slice none 0 0))] W fun E w' => E = .returned (.bool true) ∧ Away [] z4 w') := fun W hW => (sameP_yes zeroPk zeroPk fo fd _ _ W (mine_pkt (HM1.out.on hW)) (mine_pkt (mine_zero W 0)) rfl).mono (fun E w' h => ⟨h.1, hW.trans h.2⟩)
          have Q21b : Hid (∀ W, Away [] z4 W → Calls Tryd.prog 21 #[.agg (csP zeroPk wo wd'), .agg (csP zeroPk (.slice none 0 0) (.slice none 0 0))] W fun E w' => E = .returned (.bool true) ∧ Away [] z4 w') := fun W hW => (sameP_yes zeroPk zeroPk wo wd' _ _ W (mine_pkt (HM2.out.on hW)) (mine_pkt (mine_zero W 0)) rfl).mono (fun E w' h => ⟨h.1, hW.trans h.2⟩)
          have Q22 : Hid (∀ W, Away [] z4 W → Calls Tryd.prog 22 #[.pointer (some ⟨g, 0, none⟩)] W fun E w' => E = .returned (.agg (csK (keyP x))) ∧ Away [] z4 w') := fun W hW => (ekey_c (HL.out.ey.on hW).ent).mono (fun E w' h => ⟨h.1, hW.trans h.2⟩)
          have Q23 : Hid (∀ W, Away [] z4 W → Calls Tryd.prog 23 #[.pointer (some ⟨g, 0, none⟩)] W fun E w' => E = .returned (.int .i64 7) ∧ Away [] z4 w') := fun W hW => (born_c (HL.out.ey.on hW).ent).mono (fun E w' h => ⟨h.1, by rw [h.2]; exact hW⟩)
          have HQK : Hid (∀ w, (Op.equalIn 10000 29 (.agg (csK (keyP x))) (.agg (csK (keyP x)))).run Tryd.prog w = .ok true w) := fun w => by
            have := eq78 (keyP x) (keyP x) (key_ad x) (key_ad x) w
            rw [key_ky, show kyB (keyP x) (keyP x) = true from by simp [kyB]] at this
            exact this
          have HB36 := Lib.hid run_build36
          go_wp2_with fail
          refine wp_region_cls (C := fun w' => Away [] z4 w') (by kernel_rfl) (by kernel_rfl) HC.out ?_
          go_big_quiet_want; (refine quiet_val ?_ ?_ ?_; rotate_left; (intro w; go_simp; rfl); go_simp; go_big_quiet_on)
          go_big_quiet_want; refine quiet_call 11 #[.pointer (some ⟨g, 0, none⟩)] (.bool true) ?_ Q11.out ?_
          · intro w; go_simp; all_goals (with_reducible rfl)
          go_simp; go_big_quiet_on
          go_big_quiet_want; (refine quiet_val ?_ ?_ ?_; rotate_left; (intro w; go_simp; rfl); go_simp; go_big_quiet_on)
          go_big_quiet_want; (refine quiet_val ?_ ?_ ?_; rotate_left; (intro w; go_simp; rfl); go_simp; go_big_quiet_on)
          go_big_quiet_want; (refine quiet_val ?_ ?_ ?_; rotate_left; (intro w; go_simp; rfl); go_simp; go_big_quiet_on)
          go_big_quiet_want; refine quiet_call 12 #[.pointer (some ⟨g, 0, none⟩)] (.int .i64 0) ?_ Q12.out ?_
          · intro w; go_simp; all_goals (with_reducible rfl)
          go_simp; go_big_quiet_on
          go_big_quiet_want; (refine quiet_val ?_ ?_ ?_; rotate_left; (intro w; go_simp; rfl); go_simp; go_big_quiet_on)
          go_big_quiet_want; (refine quiet_val ?_ ?_ ?_; rotate_left; (intro w; go_simp; rfl); go_simp; go_big_quiet_on)
          go_big_quiet_want; (refine quiet_val ?_ ?_ ?_; rotate_left; (intro w; go_simp; rfl); go_simp; go_big_quiet_on)
          go_big_quiet_want; (refine quiet_val ?_ ?_ ?_; rotate_left; (intro w; go_simp; rfl); go_simp; go_big_quiet_on)
          go_big_quiet_want; refine quiet_call 13 #[.pointer (some ⟨g, 0, none⟩)] (.int .i64 0) ?_ Q13.out ?_
          · intro w; go_simp; all_goals (with_reducible rfl)
          go_simp; go_big_quiet_on
          go_big_quiet_want; (refine quiet_val ?_ ?_ ?_; rotate_left; (intro w; go_simp; rfl); go_simp; go_big_quiet_on)
          go_big_quiet_want; (refine quiet_val ?_ ?_ ?_; rotate_left; (intro w; go_simp; rfl); go_simp; go_big_quiet_on)
          go_big_quiet_want; (refine quiet_val ?_ ?_ ?_; rotate_left; (intro w; go_simp; rfl); go_simp; go_big_quiet_on)
          go_big_quiet_want; (refine quiet_val ?_ ?_ ?_; rotate_left; (intro w; go_simp; rfl); go_simp; go_big_quiet_on)
          go_big_quiet_want; (refine quiet_val ?_ ?_ ?_; rotate_left; (intro w; go_simp; rfl); go_simp; go_big_quiet_on)
          go_big_quiet_want; (refine quiet_val ?_ ?_ ?_; rotate_left; (intro w; go_simp; rfl); go_simp; go_big_quiet_on)
          go_big_quiet_want; (refine quiet_val ?_ ?_ ?_; rotate_left; (intro w; go_simp; rfl); go_simp; go_big_quiet_on)
          go_big_quiet_want; (refine quiet_val ?_ ?_ ?_; rotate_left; (intro w; go_simp; rfl); go_simp; go_big_quiet_on)
          go_big_quiet_want; (refine quiet_val ?_ ?_ ?_; rotate_left; (intro w; go_simp; rfl); go_simp; go_big_quiet_on)
          go_big_quiet_want; refine quiet_ld _ rfl (ad := ⟨g16, 0, none⟩) rfl (fun w' h => load28_run (HB16.out.on h) ⟨rfl, rfl⟩) ?_; go_simp; go_big_quiet_on
          go_big_quiet_want; refine quiet_build36 rfl ?_; go_simp; go_big_quiet_on
          go_big_quiet_want; refine quiet_call 21 #[.agg (csP zeroPk fo fd), .agg (csP zeroPk (.slice none 0 0) (.slice none 0 0))] (.bool true) ?_ Q21a.out ?_
          · intro w; go_simp; all_goals (with_reducible rfl)
          go_simp; go_big_quiet_on
          go_big_quiet_want; (refine quiet_val ?_ ?_ ?_; rotate_left; (intro w; go_simp; rfl); go_simp; go_big_quiet_on)
          go_big_quiet_want; (refine quiet_val ?_ ?_ ?_; rotate_left; (intro w; go_simp; rfl); go_simp; go_big_quiet_on)
          go_big_quiet_want; (refine quiet_val ?_ ?_ ?_; rotate_left; (intro w; go_simp; rfl); go_simp; go_big_quiet_on)
          go_big_quiet_want; refine quiet_ld _ rfl (ad := ⟨g18, 0, none⟩) rfl (fun w' h => load28_run (HB18.out.on h) ⟨rfl, rfl⟩) ?_; go_simp; go_big_quiet_on
          go_big_quiet_want; refine quiet_build36 rfl ?_; go_simp; go_big_quiet_on
          go_big_quiet_want; refine quiet_call 21 #[.agg (csP zeroPk wo wd'), .agg (csP zeroPk (.slice none 0 0) (.slice none 0 0))] (.bool true) ?_ Q21b.out ?_
          · intro w; go_simp; all_goals (with_reducible rfl)
          go_simp; go_big_quiet_on
          go_big_quiet_want; (refine quiet_val ?_ ?_ ?_; rotate_left; (intro w; go_simp; rfl); go_simp; go_big_quiet_on)
          go_big_quiet_want; (refine quiet_val ?_ ?_ ?_; rotate_left; (intro w; go_simp; rfl); go_simp; go_big_quiet_on)
          go_big_quiet_want; (refine quiet_val ?_ ?_ ?_; rotate_left; (intro w; go_simp; rfl); go_simp; go_big_quiet_on)
          go_big_quiet_want; (refine quiet_val ?_ ?_ ?_; rotate_left; (intro w; go_simp; rfl); go_simp; go_big_quiet_on)
          go_big_quiet_want; refine quiet_call 22 #[.pointer (some ⟨g, 0, none⟩)] (.agg (csK (keyP x))) ?_ Q22.out ?_
          · intro w; go_simp; all_goals (with_reducible rfl)
          go_simp; go_big_quiet_on
          go_big_quiet_want; refine quiet_ld _ rfl (ad := ⟨g9, 0, none⟩) rfl (fun w' h => load29_run (range_away h (by simp) (boxK_range HL.out.bx)) (key_ad x)) ?_; go_simp; go_big_quiet_on
          go_big_quiet_want; refine quiet_ne78 _ _ rfl (csK (keyP x)) (csK (keyP x)) rfl rfl true HQK.out ?_; go_simp; go_big_quiet_on
          go_big_quiet_want; (refine quiet_val ?_ ?_ ?_; rotate_left; (intro w; go_simp; rfl); go_simp; go_big_quiet_on)
          go_big_quiet_want; (refine quiet_val ?_ ?_ ?_; rotate_left; (intro w; go_simp; rfl); go_simp; go_big_quiet_on)
          go_big_quiet_want; (refine quiet_val ?_ ?_ ?_; rotate_left; (intro w; go_simp; rfl); go_simp; go_big_quiet_on)
          go_big_quiet_want; refine quiet_call 23 #[.pointer (some ⟨g, 0, none⟩)] (.int .i64 7) ?_ Q23.out ?_
          · intro w; go_simp; all_goals (with_reducible rfl)
          go_simp; go_big_quiet_on
          go_big_quiet_want; (refine quiet_val ?_ ?_ ?_; rotate_left; (intro w; go_simp; rfl); go_simp; go_big_quiet_on)
          go_big_quiet_want; (refine quiet_val ?_ ?_ ?_; rotate_left; (intro w; go_simp; rfl); go_simp; go_big_quiet_on)
          refine wpQuiet_nil ?_
          intro V hV
          replace HL := Lib.hid (HL.out.on hV)
          clear hV
          go_wp2_with fail
          go_roundw
          case rel => exact ⟨k + 1, by omega, by go_num, HL.out⟩
          case measure => simp [intOf]; omega
        | true =>
          have e1 : (if (true : Bool) = false then (1 : Int) else 2) = 2 := rfl
          rw [e1]
          clear e1
          have Q19 : Hid (∀ W, Away [] u3 W → Calls Tryd.prog 19 #[.agg (csP q po pd)] W fun E w' => E = .returned (.agg (csK q)) ∧ Away [] u3 w') := fun W hW => (lkeyOf_c q po pd W HAX.out).mono (fun E w' h => ⟨h.1, hW.trans h.2⟩)
          have HQK : Hid (∀ w, (Op.equalIn 10000 29 (.agg (csK q)) (.agg (csK (keyP x)))).run Tryd.prog w = .ok true w) := fun w => by
            have := eq78 q (keyP x) HAX.out (key_ad x) w
            rw [key_ky, HKY.out rfl] at this
            exact this
          go_wp2_with fail
          refine wp_region_cls (C := fun w' => Away [] u3 w') (by kernel_rfl) (by kernel_rfl) HC.out ?_
          go_big_quiet_want; (refine quiet_val ?_ ?_ ?_; rotate_left; (intro w; go_simp; rfl); go_simp; go_big_quiet_on)
          go_big_quiet_want; (refine quiet_val ?_ ?_ ?_; rotate_left; (intro w; go_simp; rfl); go_simp; go_big_quiet_on)
          go_big_quiet_want; (refine quiet_val ?_ ?_ ?_; rotate_left; (intro w; go_simp; rfl); go_simp; go_big_quiet_on)
          go_big_quiet_want; (refine quiet_val ?_ ?_ ?_; rotate_left; (intro w; go_simp; rfl); go_simp; go_big_quiet_on)
          go_big_quiet_want; (refine quiet_val ?_ ?_ ?_; rotate_left; (intro w; go_simp; rfl); go_simp; go_big_quiet_on)
          go_big_quiet_want; (refine quiet_val ?_ ?_ ?_; rotate_left; (intro w; go_simp; rfl); go_simp; go_big_quiet_on)
          go_big_quiet_want; refine quiet_ld _ rfl (ad := ⟨g14, 0, none⟩) rfl (fun w' h => load28_run (HB14.out.on h) HAX.out) ?_; go_simp; go_big_quiet_on
          go_big_quiet_want; refine quiet_call 19 #[.agg (csP q po pd)] (.agg (csK q)) ?_ Q19.out ?_
          · intro w; go_simp; all_goals (with_reducible rfl)
          go_simp; go_big_quiet_on
          go_big_quiet_want; refine quiet_ld _ rfl (ad := ⟨g9, 0, none⟩) rfl (fun w' h => load29_run (range_away h (by simp) (boxK_range HL.out.bx)) (key_ad x)) ?_; go_simp; go_big_quiet_on
          go_big_quiet_want; refine quiet_ne78 _ _ rfl (csK q) (csK (keyP x)) rfl rfl true HQK.out ?_; go_simp; go_big_quiet_on
          go_big_quiet_want; (refine quiet_val ?_ ?_ ?_; rotate_left; (intro w; go_simp; rfl); go_simp; go_big_quiet_on)
          go_big_quiet_want; (refine quiet_val ?_ ?_ ?_; rotate_left; (intro w; go_simp; rfl); go_simp; go_big_quiet_on)
          refine wpQuiet_nil ?_
          intro V hV
          replace HL := Lib.hid (HL.out.on hV)
          clear hV HC HB14 HMI
          clear HQK
          have KF := Lib.hid (efirst_c HL.out.ey)
          rw [pois_first] at KF
          go_wp2_with fail
          refine KF.out.mono ?_
          rintro E z1 ⟨fo, fd, rfl, hm1, haw1⟩
          have HM1 : Hid (Mine z1 V.heap.size zeroPk fo fd) := hm1
          replace HL := Lib.hid (HL.out.on haw1)
          have HO1 := Lib.hid hm1.o.one
          have HD1 := Lib.hid hm1.d.one
          clear hm1 haw1 KF
          go_wp2_with (refine wpList_new28 rfl rfl rfl _ _ rfl zeroPk fo fd (fun g => rfl) (fun g => rfl) ⟨rfl, rfl⟩ HO1.out HD1.out ?_; refine Hid.out ?_)
          refine Lib.hid ?_
          intro g16 z2 hg16 hb16 haw16
          have HB16 := Lib.hid hb16
          replace HL := Lib.hid (HL.out.on haw16)
          replace HM1 := Lib.hid (HM1.out.on haw16)
          clear hb16 haw16 hg16
          have KW := Lib.hid (ewhole_c HL.out.ey)
          rw [pois_whole] at KW
          go_wp2_with fail
          refine KW.out.mono ?_
          rintro E z3 ⟨wo, wd', rfl, hm2, haw2⟩
          have HM2 : Hid (Mine z3 z2.heap.size zeroPk wo wd') := hm2
          replace HL := Lib.hid (HL.out.on haw2)
          replace HM1 := Lib.hid (HM1.out.on haw2)
          replace HB16 := Lib.hid (HB16.out.on haw2)
          have HO2 := Lib.hid hm2.o.one
          have HD2 := Lib.hid hm2.d.one
          clear hm2 haw2 KW
          go_wp2_with (refine wpList_new28 rfl rfl rfl _ _ rfl zeroPk wo wd' (fun g => rfl) (fun g => rfl) ⟨rfl, rfl⟩ HO2.out HD2.out ?_; refine Hid.out ?_)
          refine Lib.hid ?_
          intro g18 z4 hg18 hb18 haw18
          have HB18 := Lib.hid hb18
          replace HL := Lib.hid (HL.out.on haw18)
          replace HM1 := Lib.hid (HM1.out.on haw18)
          replace HM2 := Lib.hid (HM2.out.on haw18)
          replace HB16 := Lib.hid (HB16.out.on haw18)
          clear hb18 haw18 hg18
          have HC : Hid (Away [] z4 z4.drew) := (Away.refl _ _).drew
          have Q11 : Hid (∀ W, Away [] z4 W → Calls Tryd.prog 11 #[.pointer (some ⟨g, 0, none⟩)] W fun E w' => E = .returned (.bool true) ∧ Away [] z4 w') := fun W hW => (isP_c (HL.out.ey.on hW).ent).mono (fun E w' h => ⟨h.1, by rw [h.2]; exact hW⟩)
          have Q12 : Hid (∀ W, Away [] z4 W → Calls Tryd.prog 12 #[.pointer (some ⟨g, 0, none⟩)] W fun E w' => E = .returned (.int .i64 0) ∧ Away [] z4 w') := fun W hW => (bytes_c (HL.out.ey.on hW).ent).mono (fun E w' h => ⟨h.1, by rw [h.2]; exact hW⟩)
          have Q13 : Hid (∀ W, Away [] z4 W → Calls Tryd.prog 13 #[.pointer (some ⟨g, 0, none⟩)] W fun E w' => E = .returned (.int .i64 0) ∧ Away [] z4 w') := fun W hW => (eholes_c (HL.out.ey.on hW).ent).mono (fun E w' h => ⟨h.1, hW.trans h.2⟩)
          have Q21a : Hid (∀ W, Away [] z4 W → Calls Tryd.prog 21 #[.agg (csP zeroPk fo fd), .agg (csP zeroPk (.slice none 0 0) (.slice none 0 0))] W fun E w' => E = .returned (.bool true) ∧ Away [] z4 w') := fun W hW => (sameP_yes zeroPk zeroPk fo fd _ _ W (mine_pkt (HM1.out.on hW)) (mine_pkt (mine_zero W 0)) rfl).mono (fun E w' h => ⟨h.1, hW.trans h.2⟩)
          have Q21b : Hid (∀ W, Away [] z4 W → Calls Tryd.prog 21 #[.agg (csP zeroPk wo wd'), .agg (csP zeroPk (.slice none 0 0) (.slice none 0 0))] W fun E w' => E = .returned (.bool true) ∧ Away [] z4 w') := fun W hW => (sameP_yes zeroPk zeroPk wo wd' _ _ W (mine_pkt (HM2.out.on hW)) (mine_pkt (mine_zero W 0)) rfl).mono (fun E w' h => ⟨h.1, hW.trans h.2⟩)
          have Q22 : Hid (∀ W, Away [] z4 W → Calls Tryd.prog 22 #[.pointer (some ⟨g, 0, none⟩)] W fun E w' => E = .returned (.agg (csK (keyP x))) ∧ Away [] z4 w') := fun W hW => (ekey_c (HL.out.ey.on hW).ent).mono (fun E w' h => ⟨h.1, hW.trans h.2⟩)
          have Q23 : Hid (∀ W, Away [] z4 W → Calls Tryd.prog 23 #[.pointer (some ⟨g, 0, none⟩)] W fun E w' => E = .returned (.int .i64 7) ∧ Away [] z4 w') := fun W hW => (born_c (HL.out.ey.on hW).ent).mono (fun E w' h => ⟨h.1, by rw [h.2]; exact hW⟩)
          have HQK : Hid (∀ w, (Op.equalIn 10000 29 (.agg (csK (keyP x))) (.agg (csK (keyP x)))).run Tryd.prog w = .ok true w) := fun w => by
            have := eq78 (keyP x) (keyP x) (key_ad x) (key_ad x) w
            rw [key_ky, show kyB (keyP x) (keyP x) = true from by simp [kyB]] at this
            exact this
          have HB36 := Lib.hid run_build36
          go_wp2_with fail
          refine wp_region_cls (C := fun w' => Away [] z4 w') (by kernel_rfl) (by kernel_rfl) HC.out ?_
          go_big_quiet_want; (refine quiet_val ?_ ?_ ?_; rotate_left; (intro w; go_simp; rfl); go_simp; go_big_quiet_on)
          go_big_quiet_want; refine quiet_call 11 #[.pointer (some ⟨g, 0, none⟩)] (.bool true) ?_ Q11.out ?_
          · intro w; go_simp; all_goals (with_reducible rfl)
          go_simp; go_big_quiet_on
          go_big_quiet_want; (refine quiet_val ?_ ?_ ?_; rotate_left; (intro w; go_simp; rfl); go_simp; go_big_quiet_on)
          go_big_quiet_want; (refine quiet_val ?_ ?_ ?_; rotate_left; (intro w; go_simp; rfl); go_simp; go_big_quiet_on)
          go_big_quiet_want; (refine quiet_val ?_ ?_ ?_; rotate_left; (intro w; go_simp; rfl); go_simp; go_big_quiet_on)
          go_big_quiet_want; refine quiet_call 12 #[.pointer (some ⟨g, 0, none⟩)] (.int .i64 0) ?_ Q12.out ?_
          · intro w; go_simp; all_goals (with_reducible rfl)
          go_simp; go_big_quiet_on
          go_big_quiet_want; (refine quiet_val ?_ ?_ ?_; rotate_left; (intro w; go_simp; rfl); go_simp; go_big_quiet_on)
          go_big_quiet_want; (refine quiet_val ?_ ?_ ?_; rotate_left; (intro w; go_simp; rfl); go_simp; go_big_quiet_on)
          go_big_quiet_want; (refine quiet_val ?_ ?_ ?_; rotate_left; (intro w; go_simp; rfl); go_simp; go_big_quiet_on)
          go_big_quiet_want; (refine quiet_val ?_ ?_ ?_; rotate_left; (intro w; go_simp; rfl); go_simp; go_big_quiet_on)
          go_big_quiet_want; refine quiet_call 13 #[.pointer (some ⟨g, 0, none⟩)] (.int .i64 0) ?_ Q13.out ?_
          · intro w; go_simp; all_goals (with_reducible rfl)
          go_simp; go_big_quiet_on
          go_big_quiet_want; (refine quiet_val ?_ ?_ ?_; rotate_left; (intro w; go_simp; rfl); go_simp; go_big_quiet_on)
          go_big_quiet_want; (refine quiet_val ?_ ?_ ?_; rotate_left; (intro w; go_simp; rfl); go_simp; go_big_quiet_on)
          go_big_quiet_want; (refine quiet_val ?_ ?_ ?_; rotate_left; (intro w; go_simp; rfl); go_simp; go_big_quiet_on)
          go_big_quiet_want; (refine quiet_val ?_ ?_ ?_; rotate_left; (intro w; go_simp; rfl); go_simp; go_big_quiet_on)
          go_big_quiet_want; (refine quiet_val ?_ ?_ ?_; rotate_left; (intro w; go_simp; rfl); go_simp; go_big_quiet_on)
          go_big_quiet_want; (refine quiet_val ?_ ?_ ?_; rotate_left; (intro w; go_simp; rfl); go_simp; go_big_quiet_on)
          go_big_quiet_want; (refine quiet_val ?_ ?_ ?_; rotate_left; (intro w; go_simp; rfl); go_simp; go_big_quiet_on)
          go_big_quiet_want; (refine quiet_val ?_ ?_ ?_; rotate_left; (intro w; go_simp; rfl); go_simp; go_big_quiet_on)
          go_big_quiet_want; (refine quiet_val ?_ ?_ ?_; rotate_left; (intro w; go_simp; rfl); go_simp; go_big_quiet_on)
          go_big_quiet_want; refine quiet_ld _ rfl (ad := ⟨g16, 0, none⟩) rfl (fun w' h => load28_run (HB16.out.on h) ⟨rfl, rfl⟩) ?_; go_simp; go_big_quiet_on
          go_big_quiet_want; refine quiet_build36 rfl ?_; go_simp; go_big_quiet_on
          go_big_quiet_want; refine quiet_call 21 #[.agg (csP zeroPk fo fd), .agg (csP zeroPk (.slice none 0 0) (.slice none 0 0))] (.bool true) ?_ Q21a.out ?_
          · intro w; go_simp; all_goals (with_reducible rfl)
          go_simp; go_big_quiet_on
          go_big_quiet_want; (refine quiet_val ?_ ?_ ?_; rotate_left; (intro w; go_simp; rfl); go_simp; go_big_quiet_on)
          go_big_quiet_want; (refine quiet_val ?_ ?_ ?_; rotate_left; (intro w; go_simp; rfl); go_simp; go_big_quiet_on)
          go_big_quiet_want; (refine quiet_val ?_ ?_ ?_; rotate_left; (intro w; go_simp; rfl); go_simp; go_big_quiet_on)
          go_big_quiet_want; refine quiet_ld _ rfl (ad := ⟨g18, 0, none⟩) rfl (fun w' h => load28_run (HB18.out.on h) ⟨rfl, rfl⟩) ?_; go_simp; go_big_quiet_on
          go_big_quiet_want; refine quiet_build36 rfl ?_; go_simp; go_big_quiet_on
          go_big_quiet_want; refine quiet_call 21 #[.agg (csP zeroPk wo wd'), .agg (csP zeroPk (.slice none 0 0) (.slice none 0 0))] (.bool true) ?_ Q21b.out ?_
          · intro w; go_simp; all_goals (with_reducible rfl)
          go_simp; go_big_quiet_on
          go_big_quiet_want; (refine quiet_val ?_ ?_ ?_; rotate_left; (intro w; go_simp; rfl); go_simp; go_big_quiet_on)
          go_big_quiet_want; (refine quiet_val ?_ ?_ ?_; rotate_left; (intro w; go_simp; rfl); go_simp; go_big_quiet_on)
          go_big_quiet_want; (refine quiet_val ?_ ?_ ?_; rotate_left; (intro w; go_simp; rfl); go_simp; go_big_quiet_on)
          go_big_quiet_want; (refine quiet_val ?_ ?_ ?_; rotate_left; (intro w; go_simp; rfl); go_simp; go_big_quiet_on)
          go_big_quiet_want; refine quiet_call 22 #[.pointer (some ⟨g, 0, none⟩)] (.agg (csK (keyP x))) ?_ Q22.out ?_
          · intro w; go_simp; all_goals (with_reducible rfl)
          go_simp; go_big_quiet_on
          go_big_quiet_want; refine quiet_ld _ rfl (ad := ⟨g9, 0, none⟩) rfl (fun w' h => load29_run (range_away h (by simp) (boxK_range HL.out.bx)) (key_ad x)) ?_; go_simp; go_big_quiet_on
          go_big_quiet_want; refine quiet_ne78 _ _ rfl (csK (keyP x)) (csK (keyP x)) rfl rfl true HQK.out ?_; go_simp; go_big_quiet_on
          go_big_quiet_want; (refine quiet_val ?_ ?_ ?_; rotate_left; (intro w; go_simp; rfl); go_simp; go_big_quiet_on)
          go_big_quiet_want; (refine quiet_val ?_ ?_ ?_; rotate_left; (intro w; go_simp; rfl); go_simp; go_big_quiet_on)
          go_big_quiet_want; (refine quiet_val ?_ ?_ ?_; rotate_left; (intro w; go_simp; rfl); go_simp; go_big_quiet_on)
          go_big_quiet_want; refine quiet_call 23 #[.pointer (some ⟨g, 0, none⟩)] (.int .i64 7) ?_ Q23.out ?_
          · intro w; go_simp; all_goals (with_reducible rfl)
          go_simp; go_big_quiet_on
          go_big_quiet_want; (refine quiet_val ?_ ?_ ?_; rotate_left; (intro w; go_simp; rfl); go_simp; go_big_quiet_on)
          go_big_quiet_want; (refine quiet_val ?_ ?_ ?_; rotate_left; (intro w; go_simp; rfl); go_simp; go_big_quiet_on)
          refine wpQuiet_nil ?_
          intro V hV
          replace HL := Lib.hid (HL.out.on hV)
          clear hV
          go_wp2_with fail
          go_roundw
          case rel => exact ⟨k + 1, by omega, by go_num, HL.out⟩
          case measure => simp [intOf]; omega
    · have i1 : ¬ ((k : Int) < (n : Int) + (m : Int)) := by omega
      go_wp2_with fail
      go_ret
      exact ⟨rfl, HL.out.aw.to_below⟩
theorem walk (v : Int) (by_ : Bool) (sa : Option Addr) (rs : List Rw) (scap : Nat) (xa : Option Addr) (xs : List X) (xcap : Nat) (w : World) (hg : Glob w) (hv0 : (Lit.int .i64 v).wf = true) (hr : RowR w sa rs) (hrl : rs.length ≤ 4398046510976) (hxl : xs.length ≤ 925904528626)
    (hxo : ∀ x ∈ xs, x.ok w ∧ x.p.o.length ≤ 140737488351232 ∧ x.p.d.length ≤ 140737488351232) (hxr : xs = [] ∨ ∃ b off, xa = some ⟨b, off, none⟩ ∧ ∀ i x, xs[i]? = some x → w.rangeAt b (off + i * 46) x.cells) :
    Calls Tryd.prog 4 #[.int .i64 v, .bool by_, .slice sa rs.length scap, .slice xa xs.length xcap] w fun E w' => E = .returned (.bool true) ∧ Below w.heap.size w w' := by
  cases by_ with
  | true => exact walkT v sa rs scap xa xs xcap w hg hv0 hr hrl hxl hxo hxr
  | false => exact walkF v sa rs scap xa xs xcap w hg hv0 hr hrl hxl hxo hxr
end entryPoisons
namespace entryPoisons
theorem contract (H : Type) (enc : TypeId × Value → H) (W : World) (base : Nat) (args : Array Value) (ds gs : List (DataW H)) (before : List MemPlace)
    (hval0 : ∀ (j : Nat) t v, Tryd.f4.params[j]? = some t → args[j]? = some v → Value.okWide Tryd.prog W .any base t v)
    (hW : DataW.Whole enc Tryd.prog Tryd.f4.params.toList Rows.entryPoisonsSpec.vars false W args.toList ds gs before)
    (hsz0 : (DataW.weightsEach Tryd.prog (Tryd.f4.params.toList ++ Rows.entryPoisonsSpec.plain.varTypes Tryd.prog) (ds ++ gs)).all (· ≤ reachBytes) = true)
    (hL : laidMetH Tryd.prog Rows.entryPoisonsRow.laid W) :
    Calls Tryd.prog 4 args W fun e W' => ∃ v, e = .returned v ∧ Rows.entryPoisonsSpec.post enc Tryd.prog Tryd.f4 false true false false W args v W' := by
  have hval := hval0
  have hsz := hsz0
  have hW' := hW
  obtain ⟨p, q, hA0, hV, rfl, hfz, hnd⟩ := hW
  have hA : DataW.TrodAll enc Tryd.prog W 0 (fun _ => true) true Tryd.f4.params.toList args.toList ds p := hA0
  rw [Tryd.params4] at hA hval hsz
  obtain ⟨v0, vs0, d0, ds0, p0, q0, hargs, rfl, rfl, h0, r0⟩ := trodAll_cons hA
  obtain ⟨v1, vs1, d1, ds1, p1, q1, rfl, rfl, rfl, h1, r1⟩ := trodAll_cons r0
  obtain ⟨v2, vs2, d2, ds2, p2, q2, rfl, rfl, rfl, h2, r2⟩ := trodAll_cons r1
  obtain ⟨v3, vs3, d3, ds3, p3, q3, rfl, rfl, rfl, h3, r3⟩ := trodAll_cons r2
  obtain ⟨rfl, rfl, rfl⟩ := trodAll_nil r3
  obtain rfl : args = #[v0, v1, v2, v3] := by cases args; simp_all
  obtain ⟨rfl, rfl⟩ := trodVars_none hV
  obtain ⟨a0, rfl, rfl, rfl, w0⟩ := open_int Tryd.underlying3 (hval 0 3 v0 rfl rfl) h0
  obtain ⟨a1, rfl, rfl, rfl⟩ := open_bool Tryd.underlying4 (hval 1 4 v1 rfl rfl) h1
  have k2 := h2
  have lt2 : ∀ x ∈ p2, x.block < W.heap.size := by obtain ⟨m, hm⟩ := k2; exact DataW.trod_lt m _ _ _ hm
  have z2 : ∀ m ∈ d2.weights Tryd.prog 22, m ≤ reachBytes := fun m hm => by
    have := List.all_eq_true.1 hsz m (DataW.weights_mem_each (j := 2) (t := 22) rfl rfl m hm)
    simpa using this
  obtain ⟨a2, len2, cap2, rfl⟩ := okWide_slice Tryd.underlying22 (hval 2 22 v2 rfl rfl)
  obtain ⟨l2, rfl, w2, n2⟩ := open_raws h2 z2
  have k3 := h3
  have lt3 : ∀ x ∈ p3, x.block < W.heap.size := by obtain ⟨m, hm⟩ := k3; exact DataW.trod_lt m _ _ _ hm
  have z3 : ∀ m ∈ d3.weights Tryd.prog 49, m ≤ reachBytes := fun m hm => by
    have := List.all_eq_true.1 hsz m (DataW.weights_mem_each (j := 3) (t := 49) rfl rfl m hm)
    simpa using this
  obtain ⟨a3, len3, cap3, rfl⟩ := okWide_slice Tryd.underlying49 (hval 3 49 v3 rfl rfl)
  obtain ⟨l3, rfl, n3, w3, qq3⟩ := open_pkts h3 z3
  clear hA0 hval0
  refine (walk a0 a1 a2 l2 cap2 a3 l3 cap3 W (glob_of hL) w0 w2 n2 n3 w3 qq3).mono fun e W' ⟨he, bel⟩ => ?_
  subst he
  exact ⟨_, rfl, _, _, _, [], _, [], hW', trodAll_mk1 (shut_bool Tryd.underlying4 _), (trodAll_cons_mk (shut_int Tryd.underlying3 w0) (trodAll_cons_mk (shut_bool Tryd.underlying4 _) (trodAll_cons_mk (Below.trod laidOut (by kernel_rfl) (of_decide_eq_true (by kernel_rfl)) k2 bel lt2) (trodAll_cons_mk (Below.trod laidOut (by kernel_rfl) (of_decide_eq_true (by kernel_rfl)) k3 bel lt3) trodAll_mk0)))), rfl, bel.frame _, fun h => by cases h⟩
theorem laid_met (os : Os) : laidMet Tryd.prog Rows.entryPoisonsRow.laid ((laidWorld Tryd.prog os).forCall (fun _ _ => 0) ⟨#[], #[.int .i64 0, .bool false, .slice none 0 0, .slice none 0 0], []⟩).memory :=
  laidMet_of_run' 8 (by kernel_rfl) (by kernel_rfl)
theorem reads (os : Os) {H : Type} (enc : TypeId × Value → H) : ∃ places, DataW.whole enc Tryd.prog ((laidWorld Tryd.prog os).forCall (fun _ _ => 0) ⟨#[], #[.int .i64 0, .bool false, .slice none 0 0, .slice none 0 0], []⟩).memory Tryd.f4.params.toList Rows.entryPoisonsSpec.vars false #[.int .i64 0, .bool false, .slice none 0 0, .slice none 0 0].toList 8 = some ([.lit (.int .i64 0), .lit (.bool false), .nil, .nil], [], places) :=
  ⟨[], by kernel_rfl⟩
theorem lifted (os : Os) (started : os.Started) (H : Type) (enc : TypeId × Value → H) (F : Stop.Interp) :
    ReturnsInHanded {} Tryd.checked os 4 .any ((OpenSpec.ofChange Rows.entryPoisonsSpec).preRow enc Tryd.prog Tryd.f4 Rows.entryPoisonsRow.domain false Rows.entryPoisonsRow.laid) (((OpenSpec.ofChange Rows.entryPoisonsSpec).at F).post enc Tryd.prog Tryd.f4 false true false false) := by
  obtain ⟨places, hx⟩ := reads os enc
  refine returnsInHanded_of_row (C := Tryd.checked) (s := OpenSpec.ofChange Rows.entryPoisonsSpec) ownKn started (by kernel_rfl) Tryd.func4
    (witness_row_at (enc := enc) (C := Tryd.checked) false (laidWorld Tryd.prog os) #[.int .i64 0, .bool false, .slice none 0 0, .slice none 0 0] rfl (by kernel_rfl) (by kernel_rfl) (by kernel_rfl)
      (OpenSpec.preRow_of_cond 8 hx (by kernel_rfl) (fun k hk => by cases hk) (by kernel_rfl) (laid_met os))) ?_
  intro W base args ds gs before hval hW _ hcond hsz hL hS _
  exact contract H enc W base args ds gs before hval hW hsz hL
theorem said : Rows.EntryPoisonsSaid :=
  OpenClaim.holds_of_cond 4 Tryd.f4 rfl rfl rfl rfl rfl rfl rfl ⟨rfl, rfl, rfl, rfl, rfl⟩ rfl rfl rfl rfl rfl (by kernel_rfl) Tryd.func4 (by kernel_rfl)
    (of_decide_eq_true (by kernel_rfl)) (by unfold Func.isWrapper; first | (rw [if_pos (by decide +kernel)]; kernel_rfl) | (rw [if_neg (by decide +kernel)]; exact ⟨rfl, rfl⟩))
    (fun os started H enc _ F => by rw [OpenClaim.pre_eq_preRow]; exact lifted os started H enc F)
theorem plain (f : FuncId) (fn : Func) (hf : Tryd.pinned.checked.prog.funcNamed "mosaic/mosaiclaw14.EntryPoisons" = some f) (hfn : Tryd.pinned.checked.prog.funcs[f]? = some fn) :
    false = Tryd.pinned.checked.prog.looks [] ∧ ∀ (j : Nat) t, fn.params[j]? = some t → Tryd.pinned.checked.prog.wantsStandIn t = false := by
  obtain rfl : f = 4 := Option.some.inj ((show Tryd.prog.funcNamed "mosaic/mosaiclaw14.EntryPoisons" = some 4 by kernel_rfl).symm.trans hf) |>.symm
  obtain rfl : fn = Tryd.f4 := (Option.some.inj (Tryd.func4.symm.trans hfn)).symm
  refine ⟨by kernel_rfl, fun j t ht => ?_⟩
  rw [Tryd.params4] at ht
  have hm := Array.mem_of_getElem? ht
  simp only [List.mem_toArray, List.mem_cons, List.not_mem_nil, or_false] at hm
  have h36 : Tryd.prog.wantsStandIn 36 = false := by kernel_rfl
  have h34 : Tryd.prog.wantsStandIn 34 = false := by kernel_rfl
  have h3 : Tryd.prog.wantsStandIn 3 = false := by kernel_rfl
  have h4 : Tryd.prog.wantsStandIn 4 = false := by kernel_rfl
  have h22 : Tryd.prog.wantsStandIn 22 = false := by kernel_rfl
  have h49 : Tryd.prog.wantsStandIn 49 = false := by kernel_rfl
  rcases hm with rfl | rfl | rfl | rfl
  all_goals first | exact h36 | exact h34 | exact h3 | exact h4 | exact h22 | exact h49
theorem card : Rows.EntryPoisonsCardSaid :=
  Claim7.holds_tied_plain_at .later [] _ _ _ _ said (fun _ h => by cases h) (by kernel_rfl) (fun _ h => by cases h) entryPoisons_row_tie rfl ⟨rfl, rfl⟩ (by kernel_rfl) rfl plain (by kernel_rfl)
end entryPoisons
theorem entryPoisons_holds : Rows.EntryPoisonsCardSaid := entryPoisons.card
#print axioms entryPoisons_holds
end Go.Proofs.YtbkeilboneaejaaDoor

