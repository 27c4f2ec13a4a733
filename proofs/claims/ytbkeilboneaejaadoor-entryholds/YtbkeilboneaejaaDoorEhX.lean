/-
  EntryHolds: the walk.
-/
import Derived.Test.YtbkeilboneaejaaDoorHdB
import Derived.Deep.CutBlock
import Derived.Deep.DeepCutAuto
import Derived.BigQuiet
import Derived.BigRegion
namespace Go.Proofs.YtbkeilboneaejaaDoor
open Go.ChangeShapes Go.WideShapes Go.ChangeAt Go.RowKit Go.Deep
open S6 (wp_region_cls quiet_val quiet_call quiet_ld ld3 ld4 ld5 ld25 ld26 load28_run load24m_run)
set_option linter.unusedVariables false
set_option linter.unusedSimpArgs false
set_option maxRecDepth 100000

theorem ld39 {w : World} {b o : Nat} {x y z : Int} {m : Bool} (h0 : w.cell? ⟨b, o, none⟩ = some (.int .i64 x)) (h1 : w.cell? ⟨b, o + 1, none⟩ = some (.int .i64 y)) (h2 : w.cell? ⟨b, o + 2, none⟩ = some (.int .i64 z)) (h3 : w.cell? ⟨b, o + 3, none⟩ = some (.bool m)) :
    (Instr.loadAt 39 (.pointer (some ⟨b, o, none⟩))).run Tryd.prog w = .ok (.agg #[.int .i64 x, .int .i64 y, .int .i64 z, .bool m]) w :=
  run_loadAt_mid (P := Tryd.prog) w b o 39 [.int .i64 x, .int .i64 y, .int .i64 z, .bool m] _ (fun j v hj => by
    match j, hj with
    | 0, hj => simp at hj; subst hj; exact h0
    | 1, hj => simp at hj; subst hj; exact h1
    | 2, hj => simp at hj; subst hj; exact h2
    | 3, hj => simp at hj; subst hj; exact h3
    | j + 4, hj => simp at hj) Tryd.underlying39 rfl (by kernel_rfl)
theorem made_ne (x : Bool) (r : Rw) : (madeP (keyP x) r).d ≠ [] := fun e => by
  have h1 : (madeP (keyP x) r).d.length = lenR r := dat_len r _
  have h2 := (len_bd r).1
  rw [e] at h1
  simp at h1
  omega
theorem quiet_build36 {o : Oper} {a : Act} {C : World → Prop} {K : Act → Prop} (ho : o.op = .build 36 #[]) (hk : K (a.put o.dst (.agg (csP zeroPk (.slice none 0 0) (.slice none 0 0))))) : o.quiet Tryd.prog a C K :=
  quiet_val _ (fun w => by
    unfold execOp
    simp only [ho, List.map_toArray, List.map_nil, run_build36, Sem.run_bind, Result.andThen_ok, Sem.run_pure]) hk
namespace entryHolds
theorem away_drewN (w : World) (n : Nat) : Away [] w (w.drewN n) := ⟨rfl, rfl, rfl, Nat.le_refl _, fun _ _ _ => rfl⟩
set_option maxHeartbeats 16000000 in
theorem walk (v : Int) (sa : Option Addr) (rs : List Rw) (scap : Nat) (w : World) (hg : Glob w) (hv0 : (Lit.int .i64 v).wf = true) (hr : RowR w sa rs) (hrl : rs.length ≤ 4398046510976) :
    Calls Tryd.prog 3 #[.int .i64 v, .slice sa rs.length scap] w fun E w' => E = .returned (.bool true) ∧ Below w.heap.size w w' := by
  have HG := Lib.hid hg
  have HR := Lib.hid hr
  obtain ⟨n, hn⟩ : ∃ n, n = rs.length := ⟨_, rfl⟩
  rw [← hn] at hrl ⊢
  have HN := Lib.hid hn
  have hpos := hg.pos
  clear hg hr hn hv0
  have K := Lib.hid (alive_c w HG.out)
  go_enter Tryd.func3, Tryd.ntmps3
  go_wp2_with fail
  refine K.out.mono ?_
  rintro E wa ⟨rfl, hawa⟩
  have HA := Lib.hid hawa
  clear hawa K
  have K := Lib.hid (lkey_c wa v)
  go_wp2_with fail
  refine K.out.mono ?_
  rintro E wb ⟨x, rfl, hawb⟩
  replace HA := Lib.hid (HA.out.trans hawb)
  clear hawb K
  go_wp2_with (refine wpList_alloc78 rfl rfl ?_; refine Hid.out ?_)
  refine Lib.hid ?_
  intro g5 wc hg5 hb5 haw5
  have HB5 := Lib.hid hb5
  have hl5 := lt_of_block hb5
  have HS5 : Hid (w.heap.size ≤ g5) := Nat.le_trans HA.out.size hg5
  replace HA := Lib.hid (HA.out.trans haw5)
  clear hb5 haw5 hg5
  go_wp2_with (refine wpList_store78 rfl _ _ rfl _ rfl (keyP x) (key_ad x) rfl (by exact HB5.out) ?_; refine Hid.out ?_)
  refine Lib.hid ?_
  intro wd hb5 haw5
  replace HB5 := Lib.hid hb5
  replace HA : Hid (Away [] w wd) := HA.out.next haw5 (fun z hz => .inr (by simp at hz; rw [hz]; exact HS5.out))
  have hl5 := lt_of_block hb5
  clear hb5 haw5
  have HR5 := Lib.hid (boxK_range HB5.out)
  have K := Lib.hid (new_c wd (keyP x) 0 (key_ad x))
  go_wp2_with (refine wpList_load29m rfl _ rfl g5 0 rfl (keyP x) (by exact HR5.out) (key_ad x) ?_)
  refine K.out.mono ?_
  rintro E we ⟨g, fp, rfl, hent, hfp, hawe⟩
  have HY : Hid (Ey we g (newS (keyP x) 0) fp) := ey_new hent
  have HF : Hid (∀ z ∈ fp, wd.heap.size ≤ z) := hfp
  replace HB5 : Hid (BoxK we g5 (csK (keyP x))) := hawe.keep (by simp) HB5.out
  have HZD : Hid (w.heap.size ≤ wd.heap.size) := HA.out.size
  have HZE : Hid (wd.heap.size ≤ we.heap.size) := hawe.size
  replace HA := Lib.hid (HA.out.trans hawe)
  clear hent hfp hawe K HR5
  obtain ⟨O1, hO1⟩ : ∃ O, O = bookO := ⟨_, rfl⟩
  obtain ⟨O2, hO2⟩ : ∃ O, O = byteO := ⟨_, rfl⟩
  have mk1 := make_book
  have mk2 := make_byte
  rw [← hO1] at mk1
  rw [← hO2] at mk2
  have HL : Hid (Lh w ((we.alloc O1).alloc O2) x g g5 we.heap.size (newS (keyP x) 0) fp (fun _ => false) (fun _ => 0)) := by
    have h1 : Away [] we (we.alloc O1) := (Away.refl _ _).alloc _
    have h2 : Away [] (we.alloc O1) ((we.alloc O1).alloc O2) := (Away.refl _ _).alloc _
    have hz : (we.alloc O1).heap.size = we.heap.size + 1 := by simp
    have e1 := HY.out.ent.lt
    have e2 := HZD.out
    have e3 := HZE.out
    have b1 : Bk (we.alloc O1) we.heap.size (fun _ => false) := by rw [hO1]; exact book_new we
    have b2 : By ((we.alloc O1).alloc O2) (we.heap.size + 1) (fun _ => 0) := by rw [← hz, hO2]; exact byte_new _
    refine ⟨⟨(HY.out.on h1).on h2, rfl, b1.on h2, b2, fun i => by omega, h2.keep (by simp) (h1.keep (by simp) HB5.out), fun hc => ?_, fun hc => ?_, fun hc => ?_, by omega, by omega, fun z hz => ?_, by omega, (HA.out.trans h1).trans h2⟩, hd_new _ _ _⟩
    · have := e1 _ hc; omega
    · have := e1 _ hc; omega
    · have := HF.out _ hc; omega
    · exact Nat.le_trans HZD.out (HF.out z hz)
  have HGW : Hid (w.heap.size ≤ g) := HL.out.lm.lo g HL.out.lm.ey.ent.mem
  clear HY HF HB5 HA HS5 HZD
  clear hO1 hO2
  go_wp2_with fail
  obtain ⟨g7, hg7⟩ : ∃ q, we.heap.size = q := ⟨_, rfl⟩
  rw [hg7]
  rw [hg7] at HL
  obtain ⟨W0, hW0⟩ : ∃ W, (we.alloc O1).alloc O2 = W := ⟨_, rfl⟩
  rw [hW0]
  rw [hW0] at HL
  clear hg7 hW0 mk1 mk2 HZE hl5
  go_loopw [9, 10, 11] (fun e c i wr => ∃ (k : Nat) (s : Es) (fp : List Nat) (T : Int → Bool) (Y : Nat → Int), k ≤ n ∧ i = .int .i64 (k : Int) ∧ e = .int .i64 s.e ∧ c = .int .i64 s.h ∧ Lh w wr x g g5 g7 s fp T Y) (fun _ _ i _ => n - (intOf i).toNat)
  case atStart => exact ⟨0, newS (keyP x) 0, fp, _, _, by omega, rfl, rfl, rfl, HL.out⟩
  case round =>
    clear HL
    obtain ⟨k, s, fp, T, Y, hk, rfl, rfl, rfl, hl⟩ := hrel
    have HL := Lib.hid hl.lm
    have HH := Lib.hid hl.hd
    clear hl
    by_cases hlt : k < n
    · have i1 : (k : Int) < (n : Int) := by omega
      obtain ⟨rr, hrr⟩ : ∃ rr, rs[k]? = some rr := ⟨rs[k]'(by have := HN.out; omega), by simp⟩
      obtain ⟨b, off, rfl, hcells, hok⟩ := (HR.out.on HL.out.aw).at hrr
      obtain ⟨ro, rn, rq, rm⟩ := rr
      simp only at hcells
      have HCE := Lib.hid hcells
      have HOK := Lib.hid hok
      clear hcells hok hrr
      have i2 : (k : Int) < (n : Int) := by omega
      have i3 : 0 ≤ (k : Int) := by omega
      have i4 : ((k : Int)).toNat = k := by omega
      have HAX : Hid (Away [] wr wr.drew) := (Away.refl _ _).drew
      have HS15 : Hid (∀ W, Away [] wr W → BoxK W g5 (csK (keyP x)) ∧ (W.cell? ⟨b, off + k * 4, none⟩ = some (.int .i64 ro) ∧ W.cell? ⟨b, off + k * 4 + 1, none⟩ = some (.int .i64 rn) ∧ W.cell? ⟨b, off + k * 4 + 2, none⟩ = some (.int .i64 rq) ∧ W.cell? ⟨b, off + k * 4 + 3, none⟩ = some (.bool rm))) := fun W hW => ⟨hW.keep (by simp) HL.out.bx, hW.cell (by simp) HCE.out.1, hW.cell (by simp) HCE.out.2.1, hW.cell (by simp) HCE.out.2.2.1, hW.cell (by simp) HCE.out.2.2.2⟩
      have KM : Hid (∀ W, Away [] wr W → Calls Tryd.prog 8 #[.agg (csK (keyP x)), .agg #[.int .i64 ro, .int .i64 rn, .int .i64 rq, .bool rm]] W (MadeOut W (madeP (keyP x) ⟨ro, rn, rq, rm⟩))) := fun W hW => made_c W (keyP x) (key_wf x) ⟨ro, rn, rq, rm⟩ HOK.out
      go_upto_region 14 with fail
      go_cut [12] (fun v wc => ∃ g12 dv, v = .pointer (some ⟨g12, 0, none⟩) ∧ Pc w wc x g g5 g7 s fp T Y (madeP (keyP x) ⟨ro, rn, rq, rm⟩) g12 dv)
      case first =>
        as_aux_lemma =>
        refine wp_region_held_drew (S := fun w' => BoxK w' g5 (csK (keyP x)) ∧ (w'.cell? ⟨b, off + k * 4, none⟩ = some (.int .i64 ro) ∧ w'.cell? ⟨b, off + k * 4 + 1, none⟩ = some (.int .i64 rn) ∧ w'.cell? ⟨b, off + k * 4 + 2, none⟩ = some (.int .i64 rq) ∧ w'.cell? ⟨b, off + k * 4 + 3, none⟩ = some (.bool rm))) (by kernel_rfl) (by exact HS15.out _ HAX.out) (fun hHeld => ?_)
        refine wpAnyH_take (i := 0) (by simp only [List.getElem?_toArray, List.getElem?_cons_zero]; rfl) (by kernel_rfl) (by kernel_rfl) (by kernel_rfl) (by exact fun _ _ _ h => h) (yields_ld (ad := ⟨g5, 0, none⟩) (by rfl) _ rfl rfl (fun w' h => load29_run (boxK_range h.1) (key_ad x))) (by assumption) ?_
        try simp only [Act.put, List.setIfInBounds_toArray, List.set_cons_zero, List.set_cons_succ]
        refine wpAnyH_take (i := 1) (v := ?_) (by simp only [List.getElem?_toArray, List.getElem?_cons_succ, List.getElem?_cons_zero]; rfl) (by kernel_rfl) (by kernel_rfl) (by kernel_rfl) (by exact fun _ _ _ h => h) (Or.inl ⟨by rfl, ?_⟩) (by assumption) ?_
        rotate_left
        · intro wq hSw
          (try dsimp only at hSw)
          go_simp
          all_goals (with_reducible rfl)
        try simp only [Act.put, List.setIfInBounds_toArray, List.set_cons_zero, List.set_cons_succ]
        refine wpAnyH_take (i := 2) (v := ?_) (by simp only [List.getElem?_toArray, List.getElem?_cons_succ, List.getElem?_cons_zero]; rfl) (by kernel_rfl) (by kernel_rfl) (by kernel_rfl) (by exact fun _ _ _ h => h) (Or.inl ⟨by rfl, ?_⟩) (by assumption) ?_
        rotate_left
        · intro wq hSw
          (try dsimp only at hSw)
          go_simp
          all_goals (with_reducible rfl)
        try simp only [Act.put, List.setIfInBounds_toArray, List.set_cons_zero, List.set_cons_succ]
        refine wpAnyH_take (i := 3) (v := ?_) (by simp only [List.getElem?_toArray, List.getElem?_cons_succ, List.getElem?_cons_zero]; rfl) (by kernel_rfl) (by kernel_rfl) (by kernel_rfl) (by exact fun _ _ _ h => h) (Or.inl ⟨by rfl, ?_⟩) (by assumption) ?_
        rotate_left
        · intro wq hSw
          (try dsimp only at hSw)
          go_simp
          all_goals (with_reducible rfl)
        try simp only [Act.put, List.setIfInBounds_toArray, List.set_cons_zero, List.set_cons_succ]
        refine wpAnyH_take (i := 4) (by simp only [List.getElem?_toArray, List.getElem?_cons_succ, List.getElem?_cons_zero]; rfl) (by kernel_rfl) (by kernel_rfl) (by kernel_rfl) (by exact fun _ _ _ h => h) (yields_ld (ad := ⟨b, off + k * 4, none⟩) (by rfl) _ rfl rfl (fun w' h => ld39 h.2.1 h.2.2.1 h.2.2.2.1 h.2.2.2.2)) (by assumption) ?_
        try simp only [Act.put, List.setIfInBounds_toArray, List.set_cons_zero, List.set_cons_succ]
        refine wpAnyH_ready (rs := [5, 6]) (by kernel_rfl) (by simp) ?_
        refine AllReadyH.cons (by simp only [List.getElem?_toArray, List.getElem?_cons_succ, List.getElem?_cons_zero]; rfl) (fun K hK => ?_) (AllReadyH.cons (by simp only [List.getElem?_toArray, List.getElem?_cons_succ, List.getElem?_cons_zero]; rfl) (fun K hK => ?_) AllReadyH.nil)
        · go_simp
          refine (KM.out wr.drew HAX.out).mono ?_
          rintro E wu5 ⟨dv, rfl, hpk, hnw, haw5⟩
          have HZC : Hid (wr.heap.size ≤ wr.drew.heap.size) := HAX.out.size
          have HPK := Lib.hid hpk
          have HNW := Lib.hid hnw
          replace HAX := Lib.hid (HAX.out.trans haw5)
          have HD5 := Lib.hid hpk.d.one
          clear hpk hnw haw5
          go_wp2_with fail
          refine hK.out _ _ (by exact HS15.out _ HAX.out) (fun hHeld => ?_)
          clear hK K
          try simp only [Act.put, List.setIfInBounds_toArray, List.set_cons_zero, List.set_cons_succ]
          refine wpAnyH_ready (rs := [6]) (by kernel_rfl) (by simp) ?_
          refine AllReadyH.cons (by simp only [List.getElem?_toArray, List.getElem?_cons_succ, List.getElem?_cons_zero]; rfl) (fun K hK => ?_) AllReadyH.nil
          refine step_alloc28 rfl rfl ?_
          intro g12 wu6 hg12 hb12 haw6
          have HB12 := Lib.hid hb12
          have HG12 : Hid (wr.heap.size ≤ g12) := Nat.le_trans HAX.out.size hg12
          replace HAX := Lib.hid (HAX.out.trans haw6)
          have HN12 : Hid (∀ z, dv.ownBlock = some z → z ≠ g12) := fun z hz e => by have h1 := HPK.out.d.old (by rw [show (madeP (keyP x) ⟨ro, rn, rq, rm⟩).d ≠ [] ↔ True from ⟨fun _ => trivial, fun _ => made_ne x ⟨ro, rn, rq, rm⟩⟩]; trivial) z hz; omega
          replace HPK := Lib.hid (HPK.out.on haw6)
          clear hb12 haw6 hg12
          refine hK.out _ _ (by exact HS15.out _ HAX.out) (fun hHeld => ?_)
          clear hK K
          try simp only [Act.put, List.setIfInBounds_toArray, List.set_cons_zero, List.set_cons_succ]
          refine wpAnyH_ready (rs := [7]) (by kernel_rfl) (by simp) ?_
          refine AllReadyH.cons (by simp only [List.getElem?_toArray, List.getElem?_cons_succ, List.getElem?_cons_zero]; rfl) (fun K hK => ?_) AllReadyH.nil
          refine step_store28 rfl _ _ rfl g12 rfl (madeP (keyP x) ⟨ro, rn, rq, rm⟩) (.slice none 0 0) dv rfl zeroPk (.slice none 0 0) (.slice none 0 0) (by exact HB12.out) (made_ad (key_ad x) _ _) ⟨rfl, rfl⟩ rfl HD5.out ?_
          intro wu7 hb12 haw7
          have HBX := Lib.hid hb12
          have HAXF : Hid (Away [] wr wu7) := HAX.out.next haw7 (fun z hz => .inr (by simp at hz; rw [hz]; exact HG12.out))
          have HPKF : Hid (Pkt wu7 (madeP (keyP x) ⟨ro, rn, rq, rm⟩) (.slice none 0 0) dv) := HPK.out.away haw7 ⟨fun e => absurd rfl e, fun _ z hz => by simpa using HN12.out z hz⟩
          have HDVN : Hid (∀ z, dv.ownBlock = some z → wr.heap.size ≤ z) := fun z hz => Nat.le_trans HZC.out (HNW.out z hz)
          clear hb12 haw7
          refine hK.out _ _ (by exact HS15.out _ HAXF.out) (fun hHeld => ?_)
          clear hK K
          try simp only [Act.put]
          refine wpAnyH_done (by kernel_rfl) ?_ _
          have HPC : Hid (Pc w wu7 x g g5 g7 s fp T Y (madeP (keyP x) ⟨ro, rn, rq, rm⟩) g12 dv) := by
            have h0 := HG12.out
            have h1 := HL.out.bk.lt
            have h2 := HL.out.yy.lt
            refine ⟨HL.out.on HAXF.out, HBX.out, HPKF.out, fun hc => ?_, by omega, by omega, fun z hz => ?_⟩
            · have := HL.out.ey.ent.lt _ hc; omega
            · have h3 := HDVN.out z hz
              exact ⟨fun hc => by have := HL.out.ey.ent.lt _ hc; omega, by omega, by omega⟩
          clear hHeld HAXF HS15 KM HAX HPK HNW HCE HBX HPKF HDVN HL HH
          go_wp2_with fail
          go_meet
          exact ⟨g12, dv, rfl, HPC.out⟩
        · refine step_alloc28 rfl rfl ?_
          intro g12 wu6 hg12 hb12 haw6
          have HB12 := Lib.hid hb12
          have HG12 : Hid (wr.heap.size ≤ g12) := Nat.le_trans HAX.out.size hg12
          replace HAX := Lib.hid (HAX.out.trans haw6)
          have HL12 : Hid (g12 < wu6.heap.size) := hb12.lt
          clear hb12 haw6 hg12
          refine hK.out _ _ (by exact HS15.out _ HAX.out) (fun hHeld => ?_)
          clear hK K
          try simp only [Act.put, List.setIfInBounds_toArray, List.set_cons_zero, List.set_cons_succ]
          refine wpAnyH_ready (rs := [5]) (by kernel_rfl) (by simp) ?_
          refine AllReadyH.cons (by simp only [List.getElem?_toArray, List.getElem?_cons_succ, List.getElem?_cons_zero]; rfl) (fun K hK => ?_) AllReadyH.nil
          go_simp
          refine (KM.out wu6 HAX.out).mono ?_
          rintro E wu5 ⟨dv, rfl, hpk, hnw, haw5⟩
          have HZC : Hid (wr.heap.size ≤ wu6.heap.size) := HAX.out.size
          have HPK := Lib.hid hpk
          have HNW := Lib.hid hnw
          replace HAX := Lib.hid (HAX.out.trans haw5)
          have HD5 := Lib.hid hpk.d.one
          replace HB12 := Lib.hid (HB12.out.on haw5)
          clear hpk hnw haw5
          go_wp2_with fail
          refine hK.out _ _ (by exact HS15.out _ HAX.out) (fun hHeld => ?_)
          clear hK K
          try simp only [Act.put, List.setIfInBounds_toArray, List.set_cons_zero, List.set_cons_succ]
          refine wpAnyH_ready (rs := [7]) (by kernel_rfl) (by simp) ?_
          refine AllReadyH.cons (by simp only [List.getElem?_toArray, List.getElem?_cons_succ, List.getElem?_cons_zero]; rfl) (fun K hK => ?_) AllReadyH.nil
          have HN12 : Hid (∀ z, dv.ownBlock = some z → z ≠ g12) := fun z hz e => by have h1 := HNW.out z hz; have h2 := HL12.out; omega
          refine step_store28 rfl _ _ rfl g12 rfl (madeP (keyP x) ⟨ro, rn, rq, rm⟩) (.slice none 0 0) dv rfl zeroPk (.slice none 0 0) (.slice none 0 0) (by exact HB12.out) (made_ad (key_ad x) _ _) ⟨rfl, rfl⟩ rfl HD5.out ?_
          intro wu7 hb12 haw7
          have HBX := Lib.hid hb12
          have HAXF : Hid (Away [] wr wu7) := HAX.out.next haw7 (fun z hz => .inr (by simp at hz; rw [hz]; exact HG12.out))
          have HPKF : Hid (Pkt wu7 (madeP (keyP x) ⟨ro, rn, rq, rm⟩) (.slice none 0 0) dv) := HPK.out.away haw7 ⟨fun e => absurd rfl e, fun _ z hz => by simpa using HN12.out z hz⟩
          have HDVN : Hid (∀ z, dv.ownBlock = some z → wr.heap.size ≤ z) := fun z hz => Nat.le_trans HZC.out (HNW.out z hz)
          clear hb12 haw7
          refine hK.out _ _ (by exact HS15.out _ HAXF.out) (fun hHeld => ?_)
          clear hK K
          try simp only [Act.put]
          refine wpAnyH_done (by kernel_rfl) ?_ _
          have HPC : Hid (Pc w wu7 x g g5 g7 s fp T Y (madeP (keyP x) ⟨ro, rn, rq, rm⟩) g12 dv) := by
            have h0 := HG12.out
            have h1 := HL.out.bk.lt
            have h2 := HL.out.yy.lt
            refine ⟨HL.out.on HAXF.out, HBX.out, HPKF.out, fun hc => ?_, by omega, by omega, fun z hz => ?_⟩
            · have := HL.out.ey.ent.lt _ hc; omega
            · have h3 := HDVN.out z hz
              exact ⟨fun hc => by have := HL.out.ey.ent.lt _ hc; omega, by omega, by omega⟩
          clear hHeld HAXF HS15 KM HAX HPK HNW HCE HBX HPKF HDVN HL HH
          go_wp2_with fail
          go_meet
          exact ⟨g12, dv, rfl, HPC.out⟩
      case rest =>
        obtain ⟨g12, dv, rfl, hpc⟩ := hcut
        have HP := Lib.hid hpc
        obtain ⟨o, len, hof, hqs⟩ := made_qs x ⟨ro, rn, rq, rm⟩
        have HQ : Hid (Qs x (madeP (keyP x) ⟨ro, rn, rq, rm⟩) o len rm) := hqs
        clear hpc hqs hof HL HCE HOK HAX HS15 KM i2 i3 i4
        generalize madeP (keyP x) ⟨ro, rn, rq, rm⟩ = q at *
        have HADM : Hid (Ad q) := HQ.out.wf.ad
        have HQD : Hid (q.d ≠ []) := fun e => by have h1 := HQ.out.len; have h2 := HQ.out.l1; rw [e] at h1; simp at h1; omega
        have hb1 := HQ.out.b
        have hl1 := HQ.out.l1
        have C43 : Hid (wc.cell? ⟨g12, 43, none⟩ = some (.int .i64 (o : Int))) := by have := (HP.out.bx.cells HADM.out).off; rw [HQ.out.off] at this; exact this
        have C41 : Hid (wc.cell? ⟨g12, 41, none⟩ = some (.bool rm)) := by have := (HP.out.bx.cells HADM.out).more; rw [HQ.out.more] at this; exact this
        obtain ⟨da, dcap, hdv, hdc, hdn, hdr⟩ := HP.out.pk.d
        rw [HQ.out.len] at hdv
        subst hdv
        obtain ⟨bd, od, hda, HDR⟩ : ∃ bd od, da = some ⟨bd, od, none⟩ ∧ Hid (∀ W, Away [] wc W → ∀ i : Nat, i < len → W.cell? ⟨bd, od + i, none⟩ = some (.int .u8 (q.d[i]?.getD 0))) := by
          rcases hdr.2.2 with h | ⟨bd, od, h1, h2⟩
          · exact absurd h HQD.out
          · exact ⟨bd, od, h1, fun W hW i hi => hW.cell (by simp) (h2 i (by rw [HQ.out.len]; exact hi))⟩
        subst hda
        have HDB : Hid (Bytes q.d) := hdr.2.1
        clear hdr hdn hdc
        have C45 : Hid (wc.cell? ⟨g12, 45, none⟩ = some (.slice (some ⟨bd, od, none⟩) len dcap)) := (HP.out.bx.cells HADM.out).d
        have c43 := C43.out
        have c41 := C41.out
        have c45 := C45.out
        by_cases hnot : rm = false ∧ o = 0
        · as_aux_lemma =>
          obtain ⟨rfl, rfl⟩ := hnot
          have HPW : Hid (putS s q = (1, s)) := by
            show _ = _
            unfold putS
            rw [if_pos (by rw [HQ.out.own s HP.out.lm.kk]; simp)]
          have KO := Lib.hid (ownP_c q (.slice none 0 0) (.slice (some ⟨bd, od, none⟩) len dcap) wc HP.out.pk)
          go_wp2_with (refine wpList_load28 rfl _ rfl _ rfl q _ _ (by exact HP.out.bx) HADM.out ?_)
          refine KO.out.mono ?_
          rintro E w8 hown
          obtain ⟨po, pd, rfl, hmine, haw1⟩ := hown
          have HMI := Lib.hid hmine
          have HFL : Hid (∀ z ∈ fp, z < wc.heap.size) := HP.out.lm.ey.ent.lt
          have HPN := Lib.hid (HP.out.on haw1)
          clear hmine haw1 KO
          have KP := Lib.hid (eput_c HPN.out.lm.ey q po pd (HMI.out.pkt HQ.out.wf) (HG.out.on HPN.out.lm.aw) ⟨fun _ z hz hm => by have h1 := (HMI.out.lto z (.inl hz)).2; have h2 := HFL.out z hm; omega, fun _ z hz hm => by have h1 := (HMI.out.lto z (.inr hz)).2; have h2 := HFL.out z hm; omega⟩ (fun hm => by have := HPN.out.lm.lo 0 hm; omega))
          go_wp2_with fail
          refine KP.out.mono ?_
          rintro E w9 ⟨rfl, fp8, hy8, hf8, haw8⟩
          rw [HPW.out]
          rw [HPW.out] at hy8
          have HLN : Hid (Lh w w9 x g g5 g7 s fp8 T Y) := ⟨HPN.out.lm.put hy8 HPN.out.lm.kk haw8 hf8, HH.out⟩
          clear hy8 haw8 hf8 KP
          go_wp2_with fail
          go_roundw
          case rel => exact ⟨k + 1, s, fp8, T, Y, by omega, by go_num, rfl, rfl, HLN.out⟩
          case measure => simp [intOf]; omega
        · obtain ⟨t0, ht0⟩ : ∃ t0 : Nat, t0 = o + len := ⟨_, rfl⟩
          have ht1 : t0 ≤ 1024 := by omega
          have HT0 := Lib.hid ht0
          clear ht0
          have HRM : Hid (rm = false → ¬ ((o : Int) = 0)) := fun e h => hnot ⟨e, by omega⟩
          clear hnot
          as_aux_lemma =>
          go_upto_region 15 with fail
          go_cut [55] (fun v wx => v = .bool false ∧ wx = wc)
          case first =>
            as_aux_lemma =>
            cases rm with
            | true =>
              go_wp2_with fail
              go_meet
              exact ⟨rfl, rfl⟩
            | false =>
              have ho0 := HRM.out rfl
              have ho1 : ((o : Int) == 0) = false := by simpa using ho0
              go_wp2_with fail
              go_meet
              exact ⟨rfl, rfl⟩
          case rest =>
            as_aux_lemma =>
            obtain ⟨rfl, hw'⟩ := hcut
            obtain rfl := hw'.symm
            clear hw'
            go_wp2_with fail
            rw [show (o : Int) + (len : Int) = (t0 : Int) from by have := HT0.out; omega]
            go_loopw [14, 15, 17] (fun ov ot i wr2 => ∃ k2 : Nat, k2 ≤ len ∧ ov = .int .i64 (ovN T (o : Int) k2) ∧ ot = .bool (otB T Y q k2) ∧ i = .int .i64 (k2 : Int) ∧ Away [] wc wr2) (fun _ _ i _ => len - (intOf i).toNat)
            case atStart => exact ⟨0, by omega, rfl, rfl, rfl, Away.refl _ _⟩
            case round =>
              obtain ⟨k2, hk2, rfl, rfl, rfl, haw2⟩ := hrel
              have HA2 := Lib.hid haw2
              replace c43 := haw2.cell (by simp) C43.out
              replace c41 := haw2.cell (by simp) C41.out
              replace c45 := haw2.cell (by simp) C45.out
              clear haw2
              by_cases hl2 : k2 < len
              · as_aux_lemma =>
                have j1 : (k2 : Int) < (len : Int) := by omega
                have j2 : IntKind.i64.wrap ((o : Int) + (k2 : Int)) = ((o + k2 : Nat) : Int) := by rw [IntKind.wrap_i64]; omega
                have j3 : 0 ≤ ((o + k2 : Nat) : Int) := by omega
                have j4 : ((o + k2 : Nat) : Int) < 1024 := by omega
                have j5 : ((o + k2 : Nat) : Int).toNat = o + k2 := by omega
                have j6 : 0 ≤ (k2 : Int) := by omega
                have j7 : ((k2 : Nat) : Int).toNat = k2 := by omega
                have cb := HA2.out.cell (by simp) (HP.out.lm.bk.row (o + k2) (by omega))
                have cy := HA2.out.cell (by simp) (HP.out.lm.yy.cell (i := o + k2) (by omega))
                have cd := HDR.out _ HA2.out k2 hl2
                have HOV : Hid (ovN T (o : Int) (k2 + 1) = ovN T (o : Int) k2 + if T ((o + k2 : Nat) : Int) = true then 1 else 0) := by
                  show _ = _
                  rw [ovN, show (o : Int) + (k2 : Int) = ((o + k2 : Nat) : Int) from by omega]
                have HOT : Hid (otB T Y q (k2 + 1) = (otB T Y q k2 || (T ((o + k2 : Nat) : Int) && decide (q.d[k2]? ≠ some (Y (o + k2)))))) := by
                  show _ = _
                  rw [otB, HQ.out.off, show (o : Int) + (k2 : Int) = ((o + k2 : Nat) : Int) from by omega, show ((o : Int)).toNat = o from by omega]
                have hob := ov_bd T (o : Int) k2
                have HDK : Hid (q.d[k2]? = some (q.d[k2]?.getD 0)) := by
                  show _ = _
                  rw [List.getElem?_eq_getElem (by rw [HQ.out.len]; exact hl2)]; rfl
                generalize hvov : ovN T (o : Int) k2 = vov at *
                generalize hvot : otB T Y q k2 = vot at *
                generalize hvd : q.d[k2]?.getD 0 = vd at *
                generalize hvy : Y (o + k2) = vy at *
                clear hvov hvot hvd hvy
                have jw : IntKind.i64.wrap (vov + 1) = vov + 1 := by rw [IntKind.wrap_i64]; omega
                cases hT : T ((o + k2 : Nat) : Int) with
                | false =>
                  rw [hT] at cb HOV HOT
                  clear hT
                  go_wp2_with fail
                  go_roundw
                  case rel => exact ⟨k2 + 1, by omega, by rw [HOV.out]; simp, by rw [HOT.out]; simp, by go_num, HA2.out⟩
                  case measure => simp [intOf]; omega
                | true =>
                  rw [hT] at cb HOV HOT
                  clear hT
                  cases vot with
                  | true =>
                    go_wp2_with fail
                    go_quiet (fail)
                    go_wp2_with fail
                    go_roundw
                    case rel => exact ⟨k2 + 1, by omega, by rw [HOV.out]; simp, by rw [HOT.out]; simp, by go_num, HA2.out.trans (away_drewN _ _)⟩
                    case measure => simp [intOf]; omega
                  | false =>
                    go_wp2_with fail
                    go_quiet (fail)
                    go_wp2_with fail
                    go_roundw
                    case rel =>
                      refine ⟨k2 + 1, by omega, by rw [HOV.out]; simp, ?_, by go_num, HA2.out.trans (away_drewN _ _)⟩
                      rw [HOT.out, HDK.out]
                      by_cases he : vd = vy
                      · subst he; simp
                      · simp [he, Ne.symm he, bne]; try exact fun e => he e.symm
                    case measure => simp [intOf]; omega
              · as_aux_lemma =>
                obtain rfl : len = k2 := by omega
                have j1 : ¬ ((len : Int) < (len : Int)) := by omega
                go_wp2_with fail
                go_loopw [16, 18] (fun bv i wr3 => ∃ k3 : Nat, t0 + k3 ≤ 1024 ∧ bv = .bool (byd T (t0 : Int) k3) ∧ i = .int .i64 ((t0 + k3 : Nat) : Int) ∧ Away [] wc wr3) (fun _ i _ => 1024 - (intOf i).toNat)
                case atStart => exact ⟨0, by omega, rfl, rfl, HA2.out⟩
                case round =>
                  obtain ⟨k3, hk3, rfl, rfl, haw3⟩ := hrel
                  have HA3 := Lib.hid haw3
                  replace c43 := haw3.cell (by simp) C43.out
                  replace c41 := haw3.cell (by simp) C41.out
                  replace c45 := haw3.cell (by simp) C45.out
                  clear haw3
                  by_cases hl3 : t0 + k3 < 1024
                  · as_aux_lemma =>
                    have m1 : ((t0 + k3 : Nat) : Int) < 1024 := by omega
                    have m2 : 0 ≤ ((t0 + k3 : Nat) : Int) := by omega
                    have m3 : ((t0 + k3 : Nat) : Int).toNat = t0 + k3 := by omega
                    have cb := HA3.out.cell (by simp) (HP.out.lm.bk.row (t0 + k3) hl3)
                    have HBY : Hid (byd T (t0 : Int) (k3 + 1) = (byd T (t0 : Int) k3 || T ((t0 + k3 : Nat) : Int))) := by
                      show _ = _
                      rw [byd, show (t0 : Int) + (k3 : Int) = ((t0 + k3 : Nat) : Int) from by omega]
                    generalize hvb : byd T (t0 : Int) k3 = vb at *
                    clear hvb
                    cases vb with
                    | true =>
                      go_wp2_with fail
                      go_roundw
                      case rel => exact ⟨k3 + 1, by omega, by rw [HBY.out]; simp, by go_num, HA3.out⟩
                      case measure => simp [intOf]; omega
                    | false =>
                      go_wp2_with fail
                      go_roundw
                      case rel => exact ⟨k3 + 1, by omega, by rw [HBY.out]; simp, by go_num, HA3.out⟩
                      case measure => simp [intOf]; omega
                  · as_aux_lemma =>
                    have hk3e : k3 = 1024 - t0 := by omega
                    subst hk3e
                    rw [show ((t0 + (1024 - t0) : Nat) : Int) = 1024 from by omega]
                    clear hk3 hl3
                    have HPR := Lib.hid (HP.out.on HA3.out)
                    have HOVB := Lib.hid (ov_bd T (o : Int) len)
                    have HTO : Hid (q.off + q.d.length = (t0 : Int)) := by show _ = _; rw [HQ.out.off, HQ.out.len]; have := HT0.out; omega
                    have HT1 : Hid (t0 ≤ 1024) := by show _ ≤ _; omega
                    obtain ⟨vov, hvov⟩ : ∃ z, z = ovN T (o : Int) len := ⟨_, rfl⟩
                    obtain ⟨vot, hvot⟩ : ∃ z, z = otB T Y q len := ⟨_, rfl⟩
                    obtain ⟨vb, hvb⟩ : ∃ z, z = byd T (t0 : Int) (1024 - t0) := ⟨_, rfl⟩
                    rw [← hvov, ← hvot, ← hvb]
                    rw [← hvov] at HOVB
                    have HVO := Lib.hid hvov
                    have HVT := Lib.hid hvot
                    have HVB := Lib.hid hvb
                    clear hvov hvot hvb HA2 HA3 HP
                    obtain ⟨ee, hee⟩ : ∃ z, z = s.e := ⟨_, rfl⟩
                    rw [← hee]
                    have HQE := Lib.hid hee
                    clear hee
                    go_upto_region 32 with fail
                    go_cut [19] (fun v wx => v = .bool (agB vov len rm ee) ∧ wx = wr)
                    case first =>
                      as_aux_lemma =>
                      by_cases h1 : vov = (len : Int)
                      · subst h1
                        cases rm with
                        | true =>
                          go_wp2_with fail
                          go_meet
                          exact ⟨by simp [agB], rfl⟩
                        | false =>
                          by_cases h2 : 0 ≤ ee
                          · have h2b : decide (0 ≤ ee) = true := by simpa using h2
                            go_wp2_with fail
                            go_meet
                            exact ⟨by simp [agB, h2], rfl⟩
                          · have h2b : decide (0 ≤ ee) = false := by simpa using h2
                            go_wp2_with fail
                            go_meet
                            exact ⟨congrArg Value.bool (by unfold agB; cases hd : decide (0 ≤ ee) with | false => simp | true => exfalso; simp at hd; omega), rfl⟩
                      · have h1b : (vov == (len : Int)) = false := by simpa using h1
                        go_wp2_with fail
                        go_meet
                        exact ⟨by simp [agB, h1], rfl⟩
                    case rest =>
                      as_aux_lemma =>
                      obtain ⟨rfl, hw'⟩ := hcut
                      obtain rfl := hw'.symm
                      clear hw'
                      go_upto_region 33 with fail
                      go_cut [20] (fun v wx => v = .bool (badB vot rm ee t0 vb) ∧ wx = wr)
                      case first =>
                        as_aux_lemma =>
                        cases vot with
                        | true =>
                          go_wp2_with fail
                          go_meet
                          exact ⟨by simp [badB], rfl⟩
                        | false =>
                          cases rm with
                          | true =>
                            by_cases h2 : 0 ≤ ee
                            · have h2b : decide (0 ≤ ee) = true := by simpa using h2
                              by_cases h3 : ee < (t0 : Int)
                              · have h3b : decide (ee < (t0 : Int)) = true := by simpa using h3
                                go_wp2_with fail
                                go_meet
                                exact ⟨by simp [badB, h2, h3], rfl⟩
                              · have h3b : decide (ee < (t0 : Int)) = false := by simpa using h3
                                go_wp2_with fail
                                go_meet
                                exact ⟨by simp [badB, h2, h3], rfl⟩
                            · have h2b : decide (0 ≤ ee) = false := by simpa using h2
                              go_wp2_with fail
                              go_meet
                              exact ⟨congrArg Value.bool (by unfold badB; cases hd : decide (0 ≤ ee) with | false => simp | true => exfalso; simp at hd; omega), rfl⟩
                          | false =>
                            cases vb with
                            | true =>
                              go_wp2_with fail
                              go_meet
                              exact ⟨by simp [badB], rfl⟩
                            | false =>
                              by_cases h2 : 0 ≤ ee
                              · have h2b : decide (0 ≤ ee) = true := by simpa using h2
                                by_cases h3 : ee = (t0 : Int)
                                · subst h3
                                  go_wp2_with fail
                                  go_meet
                                  exact ⟨by simp [badB], rfl⟩
                                · have h3b : (ee != (t0 : Int)) = true := by simpa using h3
                                  go_wp2_with fail
                                  go_meet
                                  exact ⟨by simp [badB, h2, h3], rfl⟩
                              · have h2b : decide (0 ≤ ee) = false := by simpa using h2
                                go_wp2_with fail
                                go_meet
                                exact ⟨congrArg Value.bool (by unfold badB; cases hd : decide (0 ≤ ee) with | false => simp | true => exfalso; simp at hd; omega), rfl⟩
                      case rest =>
                        as_aux_lemma =>
                        obtain ⟨rfl, hw'⟩ := hcut
                        obtain rfl := hw'.symm
                        clear hw'
                        obtain ⟨vag, hvag⟩ : ∃ z, z = agB vov len rm ee := ⟨_, rfl⟩
                        obtain ⟨vbad, hvbad⟩ : ∃ z, z = badB vot rm ee t0 vb := ⟨_, rfl⟩
                        rw [← hvag, ← hvbad]
                        have HVAG := Lib.hid hvag
                        have HVBAD := Lib.hid hvbad
                        clear hvag hvbad
                        have HOWN : Hid (ownB s q = true) := by
                          show _ = _
                          rw [HQ.out.own s HPR.out.lm.kk]
                          cases rm with
                          | true => simp
                          | false => have h := HRM.out rfl; simp; omega
                        have KO := Lib.hid (ownP_c q (.slice none 0 0) (.slice (some ⟨bd, od, none⟩) len dcap) wr HPR.out.pk)
                        go_wp2_with (refine wpList_load28 rfl _ rfl _ rfl q _ _ (by exact HPR.out.bx) HADM.out ?_)
                        refine KO.out.mono ?_
                        rintro E w8 hown
                        obtain ⟨po, pd, rfl, hmine, haw1⟩ := hown
                        have HMI := Lib.hid hmine
                        have HFL : Hid (∀ z ∈ fp, z < wr.heap.size) := HPR.out.lm.ey.ent.lt
                        have HPN := Lib.hid (HPR.out.on haw1)
                        clear hmine haw1 KO
                        have KP := Lib.hid (eput_c HPN.out.lm.ey q po pd (HMI.out.pkt HQ.out.wf) (HG.out.on HPN.out.lm.aw) ⟨fun _ z hz hm => by have h1 := (HMI.out.lto z (.inl hz)).2; have h2 := HFL.out z hm; omega, fun _ z hz hm => by have h1 := (HMI.out.lto z (.inr hz)).2; have h2 := HFL.out z hm; omega⟩ (fun hm => by have := HPN.out.lm.lo 0 hm; omega))
                        go_wp2_with fail
                        refine KP.out.mono ?_
                        rintro E w9 ⟨rfl, fp8, hy8, hf8, haw8⟩
                        have HP9 := Lib.hid (HPN.out.put HQD.out hy8 (by rw [(put_kt s q).1]; exact HPN.out.lm.kk) haw8 hf8)
                        obtain ⟨p1, p2, p3⟩ := put_two HH.out.ok HOWN.out
                        rw [p1]
                        have HP2 := Lib.hid p2
                        have HP3 := Lib.hid p3
                        obtain ⟨nn, hnn⟩ : ∃ z, z = (takeS s q).1 := ⟨_, rfl⟩
                        rw [← hnn]
                        have HNN := Lib.hid hnn
                        clear hy8 hf8 haw8 p1 p2 p3 hnn KP HMI HPN HPR HFL
                        have c50 : w9.cell? ⟨g5, 0, none⟩ = some (.int .i64 (if x = true then 6 else 4)) := by
                          have h1 := boxK_range HP9.out.lm.bx 0 (.int .i64 (keyP x).v) rfl
                          exact h1
                        go_upto_region 35 with fail
                        go_cut [175] (fun v wx => v = .bool (x && decide (0 < vov) && !vbad && decide (nn ≠ 3)) ∧ wx = w9)
                        case first =>
                          as_aux_lemma =>
                          cases x with
                          | false =>
                            replace c50 : w9.cell? ⟨g5, 0, none⟩ = some (.int .i64 4) := c50
                            go_wp2_with fail
                            go_meet
                            exact ⟨by simp, rfl⟩
                          | true =>
                            replace c50 : w9.cell? ⟨g5, 0, none⟩ = some (.int .i64 6) := c50
                            by_cases h1 : 0 < vov
                            · have h1b : decide (0 < vov) = true := by simpa using h1
                              cases vbad with
                              | true =>
                                go_wp2_with fail
                                go_meet
                                exact ⟨by simp, rfl⟩
                              | false =>
                                go_wp2_with fail
                                go_meet
                                exact ⟨by simp [h1, bne]; try rfl, rfl⟩
                            · have h1b : decide (0 < vov) = false := by simpa using h1
                              go_wp2_with fail
                              go_meet
                              exact ⟨congrArg Value.bool (by cases hd : decide (0 < vov) with | false => simp | true => exfalso; simp at hd; omega), rfl⟩
                        case rest =>
                          as_aux_lemma =>
                          obtain ⟨rfl, hw'⟩ := hcut
                          obtain rfl := hw'.symm
                          clear hw'
                          have HBD : Hid (bdB vbad x vov nn = (vbad || (x && decide (0 < vov) && !vbad && decide (nn ≠ 3)))) := by
                            show _ = _
                            unfold bdB
                            cases vbad <;> simp
                          obtain ⟨vc, hvc⟩ : ∃ z, z = (x && decide (0 < vov) && !vbad && decide (nn ≠ 3)) := ⟨_, rfl⟩
                          rw [← hvc] at HBD ⊢
                          clear hvc
                          cases vc with
                          | true =>
                            have HN4 : Hid (nn = 4) := by
                              show _ = _
                              rw [HNN.out]
                              refine bd_yes HH.out HQ.out.pl HQ.out.wf (by rw [HQ.out.oo]; simp) HT1.out HTO.out (six := x) (fun h => by rw [HQ.out.v, if_pos h]) ?_
                              rw [HQ.out.off, HQ.out.more, HQ.out.len, ← HVT.out, ← HVB.out, ← HVO.out, ← HQE.out, ← HVBAD.out, ← HNN.out, HBD.out]
                              simp
                            have HPX : Hid (Pc w w9 x g g5 g7 (poisS s) fp8 T Y q g12 (.slice (some ⟨bd, od, none⟩) len dcap)) := by have h := HP9.out; rw [HP2.out (by rw [← HNN.out]; exact HN4.out)] at h; exact h
                            have hn4 := HN4.out
                            subst hn4
                            have K11 : Hid (Calls Tryd.prog 11 #[.pointer (some ⟨g, 0, none⟩)] w9 fun E w' => E = .returned (.bool true) ∧ w' = w9) := isP_c HPX.out.lm.ey.ent
                            have K12 : Hid (Calls Tryd.prog 12 #[.pointer (some ⟨g, 0, none⟩)] w9 fun E w' => E = .returned (.int .i64 0) ∧ w' = w9) := bytes_c HPX.out.lm.ey.ent
                            have K13 : Hid (Calls Tryd.prog 13 #[.pointer (some ⟨g, 0, none⟩)] w9 fun E w' => E = .returned (.int .i64 0) ∧ Away [] w9 w') := eholes_c HPX.out.lm.ey.ent
                            go_wp2_with fail
                            refine K11.out.mono ?_
                            rintro E wz ⟨rfl, hwz⟩
                            obtain rfl := hwz.symm
                            clear hwz
                            go_wp2_with fail
                            refine K12.out.mono ?_
                            rintro E wz ⟨rfl, hwz⟩
                            obtain rfl := hwz.symm
                            clear hwz
                            go_wp2_with fail
                            refine K13.out.mono ?_
                            rintro E wz ⟨rfl, hwz⟩
                            have HZ := Lib.hid (HPX.out.lm.aw.trans hwz)
                            clear hwz
                            go_wp2_with fail
                            go_ret
                            exact ⟨rfl, HZ.out.to_below⟩
                          | false =>
                            cases vbad with
                            | true =>
                              have HN4 : Hid (nn = 4) := by
                                show _ = _
                                rw [HNN.out]
                                refine bd_yes HH.out HQ.out.pl HQ.out.wf (by rw [HQ.out.oo]; simp) HT1.out HTO.out (six := x) (fun h => by rw [HQ.out.v, if_pos h]) ?_
                                rw [HQ.out.off, HQ.out.more, HQ.out.len, ← HVT.out, ← HVB.out, ← HVO.out, ← HQE.out, ← HVBAD.out, ← HNN.out, HBD.out]
                                simp
                              have HPX : Hid (Pc w w9 x g g5 g7 (poisS s) fp8 T Y q g12 (.slice (some ⟨bd, od, none⟩) len dcap)) := by have h := HP9.out; rw [HP2.out (by rw [← HNN.out]; exact HN4.out)] at h; exact h
                              have hn4 := HN4.out
                              subst hn4
                              have K11 : Hid (Calls Tryd.prog 11 #[.pointer (some ⟨g, 0, none⟩)] w9 fun E w' => E = .returned (.bool true) ∧ w' = w9) := isP_c HPX.out.lm.ey.ent
                              have K12 : Hid (Calls Tryd.prog 12 #[.pointer (some ⟨g, 0, none⟩)] w9 fun E w' => E = .returned (.int .i64 0) ∧ w' = w9) := bytes_c HPX.out.lm.ey.ent
                              have K13 : Hid (Calls Tryd.prog 13 #[.pointer (some ⟨g, 0, none⟩)] w9 fun E w' => E = .returned (.int .i64 0) ∧ Away [] w9 w') := eholes_c HPX.out.lm.ey.ent
                              go_wp2_with fail
                              refine K11.out.mono ?_
                              rintro E wz ⟨rfl, hwz⟩
                              obtain rfl := hwz.symm
                              clear hwz
                              go_wp2_with fail
                              refine K12.out.mono ?_
                              rintro E wz ⟨rfl, hwz⟩
                              obtain rfl := hwz.symm
                              clear hwz
                              go_wp2_with fail
                              refine K13.out.mono ?_
                              rintro E wz ⟨rfl, hwz⟩
                              have HZ := Lib.hid (HPX.out.lm.aw.trans hwz)
                              clear hwz
                              go_wp2_with fail
                              go_ret
                              exact ⟨rfl, HZ.out.to_below⟩
                            | false =>
                              have HAF : Hid (After s T Y q x vag) := by
                                have := bd_no (six := x) HH.out HQ.out.pl HQ.out.wf (by rw [HQ.out.oo]; simp) HT1.out HTO.out (by rw [HQ.out.v]; cases x <;> simp) (by
                                  rw [HQ.out.off, HQ.out.more, HQ.out.len, ← HVT.out, ← HVB.out, ← HVO.out, ← HQE.out, ← HVBAD.out, ← HNN.out, HBD.out]
                                  simp)
                                rw [HQ.out.off, HQ.out.more, HQ.out.len, ← HVO.out, ← HQE.out, ← HVAG.out] at this
                                exact this
                              have HP : Hid (Pc w w9 x g g5 g7 (takeS s q).2 fp8 T Y q g12 (.slice (some ⟨bd, od, none⟩) len dcap)) := by
                                have h := HP9.out
                                rw [HP3.out HAF.out.n4] at h
                                exact h
                              have HD2 := Lib.hid HAF.out.hd
                              have HPRG : Hid (nn = 3 ∨ nn = progN (takeS s q).2) := by have h := HAF.out.pr; rw [← HNN.out] at h; exact h
                              have HG3 : Hid (nn = 3 → vag = true) := by have h := HAF.out.a3; rw [← HNN.out] at h; exact h
                              have HG4 : Hid (x = false → nn ≠ 3 → vag = false) := by have h := HAF.out.a4; rw [← HNN.out] at h; exact h
                              have HS2E : Hid ((takeS s q).2.e = if rm = true then ee else (t0 : Int)) := by
                                have h := HAF.out.ee
                                rw [HQ.out.more, HTO.out, ← HQE.out] at h
                                exact h
                              have HS2H : Hid ((takeS s q).2.h = s.h + ((len : Int) - vov)) := by have h := HAF.out.hh; rw [HQ.out.off, HQ.out.len, ← HVO.out] at h; exact h
                              have HSHB := Lib.hid (h_bd HH.out.iv)
                              obtain ⟨s2, hs2⟩ : ∃ z, z = (takeS s q).2 := ⟨_, rfl⟩
                              rw [← hs2] at HP HD2 HPRG HS2E HS2H
                              clear hs2 HP9 HP2 HP3 HAF HNN HVBAD HBD HVAG HVT HVB c43 c41 c45
                              go_upto_region 39 with fail
                              go_cut [210] (fun v wx => v = .bool false ∧ wx = w9)
                              case first =>
                                as_aux_lemma =>
                                cases x with
                                | false =>
                                  replace c50 : w9.cell? ⟨g5, 0, none⟩ = some (.int .i64 4) := c50
                                  by_cases h3 : nn = 3
                                  · subst h3
                                    obtain rfl : vag = true := HG3.out rfl
                                    go_wp2_with fail
                                    go_meet
                                    exact ⟨rfl, rfl⟩
                                  · obtain rfl : vag = false := HG4.out rfl h3
                                    have h3b : (nn == 3) = false := by simpa using h3
                                    have h3c : (nn != 3) = true := by simpa using h3
                                    go_wp2_with fail
                                    go_meet
                                    exact ⟨rfl, rfl⟩
                                | true =>
                                  replace c50 : w9.cell? ⟨g5, 0, none⟩ = some (.int .i64 6) := c50
                                  by_cases h3 : nn = 3
                                  · subst h3
                                    obtain rfl : vag = true := HG3.out rfl
                                    go_wp2_with fail
                                    go_meet
                                    exact ⟨rfl, rfl⟩
                                  · have h3b : (nn == 3) = false := by simpa using h3
                                    go_wp2_with fail
                                    go_meet
                                    exact ⟨rfl, rfl⟩
                              case rest =>
                                as_aux_lemma =>
                                obtain ⟨rfl, hw'⟩ := hcut
                                obtain rfl := hw'.symm
                                clear hw' c50 HG3 HG4
                                go_wp2_with fail
                                go_loopw [10, 22] (fun cv i wr4 => ∃ k4 : Nat, k4 ≤ len ∧ cv = .int .i64 (s.h + ((k4 : Int) - ovN T (o : Int) k4)) ∧ i = .int .i64 (k4 : Int) ∧ Pc w wr4 x g g5 g7 s2 fp8 (TK T (o : Int) k4) (YK Y q k4) q g12 (.slice (some ⟨bd, od, none⟩) len dcap)) (fun _ i _ => len - (intOf i).toNat)
                                case atStart => exact ⟨0, by omega, by simp [ovN], rfl, HP.out.congr (tk_zero _ _).symm (yk_zero _ _).symm⟩
                                case round =>
                                  obtain ⟨k4, hk4, rfl, rfl, hp4⟩ := hrel
                                  have HP4 := Lib.hid hp4
                                  clear hp4
                                  have c43 : wr.cell? ⟨g12, 43, none⟩ = some (.int .i64 (o : Int)) := by have h := (HP4.out.bx.cells HADM.out).off; rw [HQ.out.off] at h; exact h
                                  have c41 : wr.cell? ⟨g12, 41, none⟩ = some (.bool rm) := by have h := (HP4.out.bx.cells HADM.out).more; rw [HQ.out.more] at h; exact h
                                  have c45 : wr.cell? ⟨g12, 45, none⟩ = some (.slice (some ⟨bd, od, none⟩) len dcap) := (HP4.out.bx.cells HADM.out).d
                                  by_cases hl4 : k4 < len
                                  · as_aux_lemma =>
                                    have j1 : (k4 : Int) < (len : Int) := by omega
                                    have j2 : IntKind.i64.wrap ((o : Int) + (k4 : Int)) = ((o + k4 : Nat) : Int) := by rw [IntKind.wrap_i64]; omega
                                    have j3 : 0 ≤ ((o + k4 : Nat) : Int) := by omega
                                    have j4 : ((o + k4 : Nat) : Int) < 1024 := by omega
                                    have j5 : ((o + k4 : Nat) : Int).toNat = o + k4 := by omega
                                    have j6 : 0 ≤ (k4 : Int) := by omega
                                    have j7 : ((k4 : Nat) : Int).toNat = k4 := by omega
                                    have cb : wr.cell? ⟨g7, o + k4, none⟩ = some (.bool (T ((o + k4 : Nat) : Int))) := by
                                      have h := HP4.out.lm.bk.row (o + k4) (by omega)
                                      have h2 := tk_at T (o : Int) k4
                                      rw [show (o : Int) + (k4 : Int) = ((o + k4 : Nat) : Int) from by omega] at h2
                                      rw [h2] at h
                                      exact h
                                    have fb := HP4.out.lm.bk.free (o + k4)
                                    have hob := ov_bd T (o : Int) k4
                                    have HOV : Hid (ovN T (o : Int) (k4 + 1) = ovN T (o : Int) k4 + if T ((o + k4 : Nat) : Int) = true then 1 else 0) := by
                                      show _ = _
                                      rw [ovN, show (o : Int) + (k4 : Int) = ((o + k4 : Nat) : Int) from by omega]
                                    have hsb := HSHB.out
                                    have hvd : 0 ≤ q.d[k4]?.getD 0 ∧ q.d[k4]?.getD 0 ≤ 255 := by
                                      rw [List.getElem?_eq_getElem (by rw [HQ.out.len]; exact hl4)]
                                      have h := HDB.out (q.d[k4]'(by rw [HQ.out.len]; exact hl4)) (List.getElem_mem _)
                                      simp only [Option.getD_some]
                                      omega
                                    have HTS : Hid (TK T (o : Int) (k4 + 1) = fun n => if n = ((o + k4 : Nat) : Int) then true else TK T (o : Int) k4 n) := funext fun n => by
                                      rw [tk_succ, show (o : Int) + (k4 : Int) = ((o + k4 : Nat) : Int) from by omega]
                                    have HYS : Hid (YK Y q (k4 + 1) = fun n => if n = o + k4 then q.d[k4]?.getD 0 else YK Y q k4 n) := funext fun n => by
                                      rw [yk_succ HQ.out.pl, HQ.out.off, show ((o : Int)).toNat = o from by omega]
                                    have HDK : Hid (∀ wz, Pc w wz x g g5 g7 s2 fp8 (fun n => if n = ((o + k4 : Nat) : Int) then true else TK T (o : Int) k4 n) (YK Y q k4) q g12 (.slice (some ⟨bd, od, none⟩) len dcap) → wz.cell? ⟨bd, od + k4, none⟩ = some (.int .u8 (q.d[k4]?.getD 0))) := fun wz h => h.dat HQD.out (by rw [HQ.out.len]; exact hl4)
                                    obtain ⟨vd, hvd'⟩ : ∃ z, z = q.d[k4]?.getD 0 := ⟨_, rfl⟩
                                    rw [← hvd'] at hvd HYS HDK
                                    obtain ⟨vo, hvo⟩ : ∃ z, z = ovN T (o : Int) k4 := ⟨_, rfl⟩
                                    rw [← hvo] at hob HOV ⊢
                                    obtain ⟨cv, hcv⟩ : ∃ z, z = s.h + ((k4 : Int) - vo) := ⟨_, rfl⟩
                                    rw [← hcv]
                                    have jc : IntKind.i64.wrap (cv + 1) = cv + 1 := by rw [IntKind.wrap_i64]; omega
                                    cases hT : T ((o + k4 : Nat) : Int) with
                                    | true =>
                                      rw [hT] at cb HOV
                                      have HCV : Hid (s.h + (((k4 + 1 : Nat) : Int) - ovN T (o : Int) (k4 + 1)) = cv) := by show _ = _; rw [HOV.out, hcv]; simp; omega
                                      clear hT hvd' hvo hcv HOV
                                      go_upto_region 47 with fail
                                      have hp5 := HP4.out.book (i := o + k4) (by omega)
                                      obtain ⟨wx, hwx⟩ : ∃ W, W = wr.setCell ⟨g7, o + k4, none⟩ (.bool true) := ⟨_, rfl⟩
                                      rw [← hwx] at hp5 ⊢
                                      have HP5 := Lib.hid hp5
                                      clear hp5 hwx cb fb c43 c41 c45 HP4
                                      have d43 : wx.cell? ⟨g12, 43, none⟩ = some (.int .i64 (o : Int)) := by have h := (HP5.out.bx.cells HADM.out).off; rw [HQ.out.off] at h; exact h
                                      have d45 : wx.cell? ⟨g12, 45, none⟩ = some (.slice (some ⟨bd, od, none⟩) len dcap) := (HP5.out.bx.cells HADM.out).d
                                      have dd := HDK.out wx HP5.out
                                      have dy := HP5.out.lm.yy.cell (i := o + k4) (by omega)
                                      have fy := HP5.out.lm.yy.free (o + k4)
                                      go_region
                                      all_goals (
                                        go_wp2_with fail
                                        go_roundw
                                        case rel =>
                                          refine ⟨k4 + 1, by omega, by rw [HCV.out], by go_num, Pc.congr ?_ HTS.out.symm HYS.out.symm⟩
                                          first | exact (HP5.out.byte (i := o + k4) (by omega) hvd).on (Away.refl _ _).drew | exact (HP5.out.byte (i := o + k4) (by omega) hvd).on ((Away.refl _ _).drewN _) | exact (HP5.out.byte (i := o + k4) (by omega) hvd)
                                        case measure => simp [intOf]; omega)
                                    | false =>
                                      rw [hT] at cb HOV
                                      have HCV : Hid (s.h + (((k4 + 1 : Nat) : Int) - ovN T (o : Int) (k4 + 1)) = cv + 1) := by show _ = _; rw [HOV.out, hcv]; simp; omega
                                      clear hT hvd' hvo hcv HOV
                                      go_upto_region 47 with fail
                                      have hp5 := HP4.out.book (i := o + k4) (by omega)
                                      obtain ⟨wx, hwx⟩ : ∃ W, W = wr.setCell ⟨g7, o + k4, none⟩ (.bool true) := ⟨_, rfl⟩
                                      rw [← hwx] at hp5 ⊢
                                      have HP5 := Lib.hid hp5
                                      clear hp5 hwx cb fb c43 c41 c45 HP4
                                      have d43 : wx.cell? ⟨g12, 43, none⟩ = some (.int .i64 (o : Int)) := by have h := (HP5.out.bx.cells HADM.out).off; rw [HQ.out.off] at h; exact h
                                      have d45 : wx.cell? ⟨g12, 45, none⟩ = some (.slice (some ⟨bd, od, none⟩) len dcap) := (HP5.out.bx.cells HADM.out).d
                                      have dd := HDK.out wx HP5.out
                                      have dy := HP5.out.lm.yy.cell (i := o + k4) (by omega)
                                      have fy := HP5.out.lm.yy.free (o + k4)
                                      go_region
                                      all_goals (
                                        go_wp2_with fail
                                        go_roundw
                                        case rel =>
                                          refine ⟨k4 + 1, by omega, by rw [HCV.out], by go_num, Pc.congr ?_ HTS.out.symm HYS.out.symm⟩
                                          first | exact (HP5.out.byte (i := o + k4) (by omega) hvd).on (Away.refl _ _).drew | exact (HP5.out.byte (i := o + k4) (by omega) hvd).on ((Away.refl _ _).drewN _) | exact (HP5.out.byte (i := o + k4) (by omega) hvd)
                                        case measure => simp [intOf]; omega)
                                  · as_aux_lemma =>
                                    obtain rfl : len = k4 := by omega
                                    have j1 : ¬ ((len : Int) < (len : Int)) := by omega
                                    have HPT : Hid (Pc w wr x g g5 g7 s2 fp8 (TT T q) (YY Y q) q g12 (.slice (some ⟨bd, od, none⟩) len dcap)) := by
                                      refine HP4.out.congr ?_ ?_
                                      · rw [← tk_all, HQ.out.off, HQ.out.len]
                                      · rw [← yk_all, HQ.out.len]
                                    have HCN : Hid (s.h + ((len : Int) - ovN T (o : Int) len) = s2.h) := by show _ = _; rw [HS2H.out, HVO.out]
                                    obtain ⟨cn, hcn⟩ : ∃ z, z = s.h + ((len : Int) - ovN T (o : Int) len) := ⟨_, rfl⟩
                                    rw [← hcn] at HCN ⊢
                                    clear hcn HP4 HP hk4 hl4
                                    obtain ⟨T2, hT2⟩ : ∃ z, z = TT T q := ⟨_, rfl⟩
                                    obtain ⟨Y2, hY2⟩ : ∃ z, z = YY Y q := ⟨_, rfl⟩
                                    rw [← hT2, ← hY2] at HPT HD2
                                    clear hT2 hY2
                                    obtain ⟨e2, he2⟩ : ∃ z, z = (if rm = true then ee else (t0 : Int)) := ⟨_, rfl⟩
                                    rw [← he2] at HS2E
                                    have HE2 := Lib.hid he2
                                    clear he2
                                    go_upto_if 247 with fail
                                    go_cut [9] (fun v wx => v = .int .i64 e2 ∧ wx = wr)
                                    case first =>
                                      as_aux_lemma =>
                                      cases rm with
                                      | true =>
                                        obtain rfl : e2 = ee := HE2.out
                                        go_wp2_with fail
                                        go_meet
                                        exact ⟨rfl, rfl⟩
                                      | false =>
                                        obtain rfl : e2 = (t0 : Int) := HE2.out
                                        go_wp2_with fail
                                        go_meet
                                        exact ⟨rfl, rfl⟩
                                    case rest =>
                                      as_aux_lemma =>
                                      obtain ⟨rfl, hw'⟩ := hcut
                                      obtain rfl := hw'.symm
                                      clear hw' HE2
                                      have HFIN : Hid (doneB s2 = (decide (0 ≤ e2) && allB T2 e2.toNat)) := by have h := After.fin HD2.out; rw [HS2E.out] at h; exact h
                                      have HEL : Hid (e2 ≤ 1024) := by have h := HD2.out.el; rw [HS2E.out] at h; exact h
                                      have HEM : Hid (-1 ≤ e2) := by have h := e_bd HD2.out; rw [HS2E.out] at h; exact h
                                      obtain ⟨vdn, hvdn⟩ : ∃ z, z = doneB s2 := ⟨_, rfl⟩
                                      have HVDN := Lib.hid hvdn
                                      rw [← hvdn] at HFIN
                                      clear hvdn
                                      go_upto_region 50 with fail
                                      go_cut [23] (fun v wx => v = .bool vdn ∧ wx = wr)
                                      case first =>
                                        as_aux_lemma =>
                                        by_cases h2 : 0 ≤ e2
                                        · obtain ⟨en, hen⟩ : ∃ en : Nat, e2 = (en : Int) := ⟨e2.toNat, by omega⟩
                                          subst hen
                                          clear h2
                                          have K14 := Lib.hid (covered_c wr g7 T2 en (by have h := HEL.out; omega) HPT.out.lm.bk.row)
                                          have h2b : decide (0 ≤ (en : Int)) = true := by simp
                                          go_wp2_with fail
                                          refine K14.out.mono ?_
                                          rintro E' wz ⟨rfl, hwz⟩
                                          obtain rfl := hwz.symm
                                          clear hwz
                                          go_wp2_with fail
                                          go_meet
                                          exact ⟨by rw [HFIN.out]; simp, rfl⟩
                                        · have h2b : decide (0 ≤ e2) = false := by simpa using h2
                                          have HV0 : Hid (vdn = false) := by show _ = _; rw [HFIN.out, h2b]; rfl
                                          go_wp2_with fail
                                          go_meet
                                          exact ⟨by rw [HV0.out], rfl⟩
                                      case rest =>
                                        as_aux_lemma =>
                                        obtain ⟨rfl, hw'⟩ := hcut
                                        obtain rfl := hw'.symm
                                        clear hw'
                                        go_upto_region 51 with fail
                                        go_cut [275] (fun v wx => v = .bool false ∧ wx = wr)
                                        case first =>
                                          as_aux_lemma =>
                                          have hcase := prog_cases HPRG.out
                                          rw [← HVDN.out] at hcase
                                          rcases hcase with rfl | ⟨rfl, rfl⟩ | ⟨rfl, rfl⟩
                                          · cases vdn with
                                            | true =>
                                              go_wp2_with fail
                                              go_meet
                                              exact ⟨rfl, rfl⟩
                                            | false =>
                                              go_wp2_with fail
                                              go_meet
                                              exact ⟨rfl, rfl⟩
                                          · go_wp2_with fail
                                            go_meet
                                            exact ⟨rfl, rfl⟩
                                          · go_wp2_with fail
                                            go_meet
                                            exact ⟨rfl, rfl⟩
                                        case rest =>
                                          as_aux_lemma =>
                                          obtain ⟨rfl, hw'⟩ := hcut
                                          obtain rfl := hw'.symm
                                          clear hw'
                                          have HWH := Lib.hid (hd_whole HD2.out)
                                          obtain ⟨hn, hhn⟩ : ∃ z, z = holesN s2 := ⟨_, rfl⟩
                                          have K12 : Hid (Calls Tryd.prog 12 #[.pointer (some ⟨g, 0, none⟩)] wr fun E w' => E = .returned (.int .i64 cn) ∧ w' = wr) := by
                                            show Calls _ _ _ _ _
                                            rw [HCN.out]
                                            exact bytes_c HPT.out.lm.ey.ent
                                          have K13 : Hid (Calls Tryd.prog 13 #[.pointer (some ⟨g, 0, none⟩)] wr fun E w' => E = .returned (.int .i64 hn) ∧ Away [] wr w') := by
                                            show Calls _ _ _ _ _
                                            rw [hhn]
                                            exact eholes_c HPT.out.lm.ey.ent
                                          have K15 : Hid (∀ W, Away [] wr W → Calls Tryd.prog 15 #[.slice (some ⟨g7, 0, none⟩) 1024 1024, .int .i64 e2] W fun E w' => E = .returned (.int .i64 hn) ∧ w' = W) := fun W hW => by
                                            have h := gaps_c W g7 T2 e2 HEL.out HEM.out (HPT.out.lm.bk.on hW).row
                                            rw [hhn, hd_holes HD2.out, HS2E.out]
                                            exact h
                                          have K11 : Hid (∀ W, Away [] wr W → Calls Tryd.prog 11 #[.pointer (some ⟨g, 0, none⟩)] W fun E w' => E = .returned (.bool false) ∧ w' = W) := fun W hW => by
                                            have h := isP_c (HPT.out.lm.ey.on hW).ent
                                            rw [HD2.out.ok] at h
                                            exact h
                                          clear hhn
                                          go_wp2_with fail
                                          refine K12.out.mono ?_
                                          rintro E' wz ⟨rfl, hwz⟩
                                          obtain rfl := hwz.symm
                                          clear hwz
                                          go_wp2_with fail
                                          refine K13.out.mono ?_
                                          rintro E' wy ⟨rfl, hay⟩
                                          have HAY := Lib.hid hay
                                          clear hay
                                          go_wp2_with fail
                                          refine (K15.out wy HAY.out).mono ?_
                                          rintro E' wz ⟨rfl, hwz⟩
                                          obtain rfl := hwz.symm
                                          clear hwz
                                          go_wp2_with fail
                                          refine (K11.out wy HAY.out).mono ?_
                                          rintro E' wz ⟨rfl, hwz⟩
                                          obtain rfl := hwz.symm
                                          clear hwz K11 K12 K13 K15
                                          replace HPT := Lib.hid (HPT.out.on HAY.out)
                                          clear HAY c43 c41 c45
                                          obtain ⟨pw, hpw⟩ : ∃ z, z = (wholeP s2).1 := ⟨_, rfl⟩
                                          have HADW : Hid (Ad pw) := by show Ad _; rw [hpw]; exact whole_ad HD2.out.iv
                                          have HWD : Hid (Bytes pw.d ∧ pw.d.length ≤ 140737488355328) := by have h := whole_len HD2.out; rw [← hpw] at h; exact h
                                          have HPD : Hid (vdn = true → pw.d = (List.range e2.toNat).map Y2) := fun hv => by
                                            have h := HWH.out.2 (by rw [← HVDN.out]; exact hv)
                                            rw [← hpw, HS2E.out] at h
                                            exact h
                                          have K16 : Hid (Calls Tryd.prog 16 #[.pointer (some ⟨g, 0, none⟩)] wy fun E w' => ∃ o d, E = .returned (.tuple #[.agg (csP pw o d), .bool vdn]) ∧ Mine w' wy.heap.size pw o d ∧ Away [] wy w') := by
                                            have h := ewhole_c HPT.out.lm.ey
                                            unfold TellOut at h
                                            rw [← hpw, HWH.out.1, ← HVDN.out] at h
                                            exact h
                                          clear hpw HWH
                                          go_wp2_with fail
                                          refine K16.out.mono ?_
                                          rintro E' v1 ⟨wo, wd', rfl, hm2, haw2⟩
                                          obtain ⟨wda, wdn, wdc, hshape⟩ := hm2.d.shp
                                          subst hshape
                                          have HM2 := Lib.hid hm2
                                          have HO2 := Lib.hid hm2.o.one
                                          have HDD2 := Lib.hid hm2.d.one
                                          replace HPT := Lib.hid (HPT.out.on haw2)
                                          clear hm2 haw2 K16
                                          go_wp2_with (refine wpList_new28 rfl rfl rfl _ _ rfl pw wo (.slice wda wdn wdc) (fun g => rfl) (fun g => rfl) HADW.out HO2.out HDD2.out ?_; refine Hid.out ?_)
                                          refine Lib.hid ?_
                                          intro g24 v2 hg24 hb24 haw24
                                          have HB24 := Lib.hid hb24
                                          replace HM2 := Lib.hid (HM2.out.on haw24)
                                          replace HPT := Lib.hid (HPT.out.on haw24)
                                          clear hb24 haw24 hg24 HO2 HDD2
                                          have HC : Hid (Away [] v2 v2.drew) := (Away.refl _ _).drew
                                          cases vdn with
                                          | false =>
                                            go_wp2_with fail
                                            refine wp_region_cls (C := fun w' => Away [] v2 w') (by kernel_rfl) (by kernel_rfl) HC.out ?_
                                            go_big_quiet_want; (refine quiet_val ?_ ?_ ?_; rotate_left; (intro w; go_simp; rfl); go_simp; go_big_quiet_on)
                                            go_big_quiet_want; (refine quiet_val ?_ ?_ ?_; rotate_left; (intro w; go_simp; rfl); go_simp; go_big_quiet_on)
                                            go_big_quiet_want; (refine quiet_val ?_ ?_ ?_; rotate_left; (intro w; go_simp; rfl); go_simp; go_big_quiet_on)
                                            go_big_quiet_want; (refine quiet_val ?_ ?_ ?_; rotate_left; (intro w; go_simp; rfl); go_simp; go_big_quiet_on)
                                            go_big_quiet_want; (refine quiet_val ?_ ?_ ?_; rotate_left; (intro w; go_simp; rfl); go_simp; go_big_quiet_on)
                                            go_big_quiet_want; (refine quiet_val ?_ ?_ ?_; rotate_left; (intro w; go_simp; rfl); go_simp; go_big_quiet_on)
                                            go_big_quiet_skip
                                            go_big_quiet_skip
                                            go_big_quiet_skip
                                            go_big_quiet_skip
                                            go_big_quiet_skip
                                            go_big_quiet_skip
                                            go_big_quiet_skip
                                            go_big_quiet_want; (refine quiet_val ?_ ?_ ?_; rotate_left; (intro w; go_simp; rfl); go_simp; go_big_quiet_on)
                                            go_big_quiet_want; (refine quiet_val ?_ ?_ ?_; rotate_left; (intro w; go_simp; rfl); go_simp; go_big_quiet_on)
                                            refine wpQuiet_nil ?_
                                            intro V hV
                                            replace HPT := Lib.hid (HPT.out.on hV)
                                            clear hV
                                            go_wp2_with fail
                                            go_roundw
                                            case rel => exact ⟨k + 1, s2, fp8, T2, Y2, by omega, by go_num, by rw [HS2E.out], by rw [HCN.out], ⟨HPT.out.lm, HD2.out⟩⟩
                                            case measure => simp [intOf]; omega
                                          | true =>
                                            obtain ⟨en, hen⟩ : ∃ en : Nat, e2 = (en : Int) := by
                                              have h := HFIN.out
                                              by_cases h2 : 0 ≤ e2
                                              · exact ⟨e2.toNat, by omega⟩
                                              · rw [show decide (0 ≤ e2) = false from by simpa using h2] at h; simp at h
                                            subst hen
                                            have HSL := Lib.hid (HM2.out.d.sl HWD.out.1 HWD.out.2)
                                            have Q17 : Hid (∀ W, Away [] v2 W → Calls Tryd.prog 17 #[.slice wda wdn wdc, .slice (some ⟨g7 + 1, 0, none⟩) en 1024] W fun E w' => E = .returned (.bool true) ∧ Away [] v2 w') := fun W hW => by
                                              obtain ⟨q1, q2, q3, q4⟩ := (HSL.out.on hW).of
                                              have h := same_any wda (some ⟨g7 + 1, 0, none⟩) pw.d ((List.range en).map Y2) wdn en wdc 1024 W q1 (by simp) q3 (by simp) q4 ((HPT.out.lm.yy.on hW).rw HPT.out.lm.yb (by have h := HEL.out; omega))
                                              have he : pw.d = (List.range en).map Y2 := by have h := HPD.out rfl; rw [show ((en : Int)).toNat = en from by omega] at h; exact h
                                              refine h.mono fun E w' h => ⟨by rw [h.1, decide_eq_true he], by rw [h.2]; exact hW⟩
                                            have j1' : 0 ≤ (en : Int) := by omega
                                            have j2' : (en : Int) ≤ 1024 := HEL.out
                                            have j3' : ((en : Nat) : Int).toNat = en := by omega
                                            go_wp2_with fail
                                            refine wp_region_cls (C := fun w' => Away [] v2 w') (by kernel_rfl) (by kernel_rfl) HC.out ?_
                                            go_big_quiet_want; (refine quiet_val ?_ ?_ ?_; rotate_left; (intro w; go_simp; rfl); go_simp; go_big_quiet_on)
                                            go_big_quiet_want; (refine quiet_val ?_ ?_ ?_; rotate_left; (intro w; go_simp; rfl); go_simp; go_big_quiet_on)
                                            go_big_quiet_want; (refine quiet_val ?_ ?_ ?_; rotate_left; (intro w; go_simp; rfl); go_simp; go_big_quiet_on)
                                            go_big_quiet_want; (refine quiet_val ?_ ?_ ?_; rotate_left; (intro w; go_simp; rfl); go_simp; go_big_quiet_on)
                                            go_big_quiet_want; (refine quiet_val ?_ ?_ ?_; rotate_left; (intro w; go_simp; rfl); go_simp; go_big_quiet_on)
                                            go_big_quiet_want; (refine quiet_val ?_ ?_ ?_; rotate_left; (intro w; go_simp; rfl); go_simp; go_big_quiet_on)
                                            go_big_quiet_want; (refine quiet_val ?_ ?_ ?_; rotate_left; (intro w; go_simp; rfl); go_simp; go_big_quiet_on)
                                            go_big_quiet_want; refine quiet_ld _ rfl (ad := ⟨g24, 45, none⟩) rfl (fun w' h => ld26 ((HB24.out.on h).cells HADW.out).d) ?_; go_simp; go_big_quiet_on
                                            go_big_quiet_want; (refine quiet_val ?_ ?_ ?_; rotate_left; (intro w; go_simp; rfl); go_simp; go_big_quiet_on)
                                            go_big_quiet_want; (refine quiet_val ?_ ?_ ?_; rotate_left; (intro w; go_simp; rfl); go_simp; go_big_quiet_on)
                                            go_big_quiet_want; (refine quiet_val ?_ ?_ ?_; rotate_left; (intro w; go_simp; rfl); go_simp; go_big_quiet_on)
                                            go_big_quiet_want; refine quiet_call 17 #[.slice wda wdn wdc, .slice (some ⟨g7 + 1, 0, none⟩) en 1024] (.bool true) ?_ Q17.out ?_
                                            · intro w; go_simp; all_goals (with_reducible rfl)
                                            go_simp; go_big_quiet_on
                                            go_big_quiet_want; (refine quiet_val ?_ ?_ ?_; rotate_left; (intro w; go_simp; rfl); go_simp; go_big_quiet_on)
                                            go_big_quiet_want; (refine quiet_val ?_ ?_ ?_; rotate_left; (intro w; go_simp; rfl); go_simp; go_big_quiet_on)
                                            go_big_quiet_want; (refine quiet_val ?_ ?_ ?_; rotate_left; (intro w; go_simp; rfl); go_simp; go_big_quiet_on)
                                            refine wpQuiet_nil ?_
                                            intro V hV
                                            replace HPT := Lib.hid (HPT.out.on hV)
                                            clear hV
                                            go_wp2_with fail
                                            go_roundw
                                            case rel => exact ⟨k + 1, s2, fp8, T2, Y2, by omega, by go_num, by rw [HS2E.out], by rw [HCN.out], ⟨HPT.out.lm, HD2.out⟩⟩
                                            case measure => simp [intOf]; omega
    · have i1 : ¬ ((k : Int) < (n : Int)) := by omega
      go_wp2_with fail
      go_ret
      exact ⟨rfl, HL.out.aw.to_below⟩
end entryHolds
end Go.Proofs.YtbkeilboneaejaaDoor
