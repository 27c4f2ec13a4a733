/-
  TableWithin.
-/
import Derived.Test.YtkccpidgeecemaaGreatDoorTwA
import Derived.Test.YtkccpidgeecemaaGreatDoorTbD
import Derived.Deep.CutBlock
import Derived.Deep.DeepCutAuto
namespace Go.Proofs.YtkccpidgeecemaaGreatDoor
open Go.ChangeShapes Go.WideShapes Go.ChangeAt Go.RowKit Go.Deep Num
open S6 (wp_region_cls quiet_val quiet_call quiet_ld ld3 ld4 ld5 ld25 ld26 load28_run load24m_run)
set_option linter.unusedVariables false
set_option linter.unusedSimpArgs false
set_option maxHeartbeats 16000000
set_option maxRecDepth 100000

namespace tableWithin
theorem ld2 {w : World} {ad : Addr} {z : Int} (h : w.cell? ad = some (.int .i64 z)) : (Instr.loadAt 2 (.pointer (some ad))).run Tryz.prog w = .ok (.int .i64 z) w := by
  simp [go_sem, Instr.loadAt, Instr.sureAddr, h]
theorem rowK_of {w : World} {a : Option Addr} {n c : Nat} {ks : List Pk} (h : K.LstK w (.slice a n c) ks) (hA : ∀ x ∈ ks, Ad x) : RowK w a ks := fun i x hx => by
  obtain ⟨oa, cap, e, hat⟩ := shapeK h hA
  injection e with e1 e2 e3
  obtain ⟨ob, h1, h2⟩ := hat i x hx
  exact ⟨ob, 0, by rw [e1]; exact h1, by rw [Nat.zero_add]; exact h2⟩
theorem quiet_slK {o : Oper} {a : Act} {C : World → Prop} {KK : Act → Prop} (x y : Operand) (ho : o.op = .slice 31 x (some y) none none) (v1 v2 : Value) {v : Value} (hx : a.eval x = v1) (hy : a.eval y = v2) (hq : ∀ w, (Instr.sliceAt 31 v1 (some v2) none none).run Tryz.prog w = .ok v w) (hk : KK (a.put o.dst v)) : o.quiet Tryz.prog a C KK :=
  quiet_val v (fun w => by
    unfold execOp
    simp only [ho, Option.map_some, Option.map_none, hx, hy, Sem.run_bind, hq w, Result.andThen_ok, Sem.run_pure]) hk
theorem lst_cap {w : World} {a : Option Addr} {n c : Nat} {ks : List Pk} (h : K.LstK w (.slice a n c) ks) : n ≤ c := by
  rcases h.2 with ⟨e, -⟩ | ⟨g, cap, cur, e, hg, hh, hn, -⟩
  · injection e with e1 e2 e3
    omega
  · injection e with e1 e2 e3
    omega
theorem rowK_drop {w w' : World} {gl lkc m nl : Nat} {ks : List Pk} (hr : ∀ (i : Nat) (x : Pk), ks[i]? = some x → ∃ ob, (some (⟨gl, 0, none⟩ : Addr)) = some ⟨ob, 0, none⟩ ∧ w.rangeAt ob (i * 37) (listK x)) (hw : Away [] w w') (hn : ks.length = nl) (hc : nl ≤ lkc) : RowK w' (K.fromA gl lkc m) (ks.drop m) := by
  intro i x hx
  rw [List.getElem?_drop] at hx
  have hlen : m + i < ks.length := (List.getElem?_eq_some_iff.1 hx).1
  obtain ⟨ob2, h1, h2⟩ := hr (m + i) x hx
  have h3 : ob2 = gl := by
    simp only [Option.some.injEq, Addr.mk.injEq, and_true] at h1
    exact h1.symm
  rw [h3] at h2
  refine ⟨gl, m * 37, ?_, ?_⟩
  · unfold K.fromA
    rw [if_neg (by omega)]
  · have h4 := range_away hw (by simp) h2
    rw [show m * 37 + i * 37 = (m + i) * 37 from by omega]
    exact h4
theorem walk (q0 : Qo) (a1 : Option Addr) (os : List Oq) (n1 c1 : Nat) (w : World) (hg : Glob w) (hq : i64ok q0.e ∧ i64ok q0.b ∧ i64ok q0.h ∧ i64ok q0.t) (hn : os.length = n1) (hl : n1 ≤ 703687441756) (hok : ∀ x ∈ os, x.ok w ∧ x.x.p.o.length ≤ 140737488351232 ∧ x.x.p.d.length ≤ 140737488351232)
    (hat : os = [] ∨ ∃ b off, a1 = some ⟨b, off, none⟩ ∧ ∀ i x, os[i]? = some x → w.rangeAt b (off + i * 52) x.cells) :
    Calls Tryz.prog 3 #[valQ q0, .slice a1 n1 c1] w fun E w' => E = .returned (.bool true) ∧ Below w.heap.size w w' := by
  have HG := Lib.hid hg; have HQ0 := Lib.hid hq; have HN := Lib.hid hn; have HOK := Lib.hid hok; have HAT := Lib.hid hat
  clear hg hq hn hok hat
  unfold valQ
  go_enter Tryz.func3, Tryz.ntmps3
  go_upto_region 1 with fail
  have HBQ0 : Hid (BoxQ (w.alloc (.cells #[.int .i64 q0.e, .int .i64 q0.b, .int .i64 q0.h, .int .i64 q0.t] 23)) w.heap.size q0) := block_new _ _
  have haw : Away [] w (w.alloc (.cells #[.int .i64 q0.e, .int .i64 q0.b, .int .i64 q0.h, .int .i64 q0.t] 23)) := (Away.refl _ _).alloc _
  obtain ⟨g2, hg2⟩ : ∃ z, z = w.heap.size := ⟨_, rfl⟩
  obtain ⟨w1, hw1⟩ : ∃ z, z = w.alloc (.cells #[.int .i64 q0.e, .int .i64 q0.b, .int .i64 q0.h, .int .i64 q0.t] 23) := ⟨_, rfl⟩
  rw [← hg2, ← hw1] at HBQ0 ⊢
  rw [← hw1] at haw
  have HG2 : Hid (w.heap.size ≤ g2) := Nat.le_of_eq hg2.symm
  have HA := Lib.hid haw
  clear haw hg2 hw1
  go_wp2_with fail
  refine (alive_c _ (HG.out.on HA.out)).mono ?_
  rintro E w2 ⟨rfl, haw⟩
  replace HBQ0 : Hid (BoxQ w2 g2 q0) := haw.keep (by simp) HBQ0.out
  replace HA := Lib.hid (HA.out.trans haw)
  clear haw
  go_wp2_with (refine wpList_load23 rfl _ rfl g2 rfl q0 (by exact HBQ0.out) ?_)
  refine (quota_e _ q0 HQ0.out.2.2.2).mono ?_
  rintro E w3 ⟨q, rfl, hrq, haw⟩
  have HRQ := Lib.hid hrq
  replace HBQ0 : Hid (BoxQ w3 g2 q0) := haw.keep (by simp) HBQ0.out
  replace HA := Lib.hid (HA.out.trans haw)
  clear haw hrq
  go_wp2_with (refine wpList_store23 rfl _ _ rfl g2 rfl q rfl q0 (by exact HBQ0.out) ?_; refine Hid.out ?_)
  refine Lib.hid ?_
  intro w4 hb haw
  have HBQ := Lib.hid hb
  replace HA := Lib.hid (HA.out.next haw (fun z hz => .inr (by simp at hz; rw [hz]; exact HG2.out)))
  clear hb haw HBQ0 HQ0
  have HP0 : Hid (0 < w4.heap.size) := by have h1 : g2 < w4.heap.size := lt_of_block HBQ.out; show 0 < _; omega
  have KN := Lib.hid (tnew_c w4 q)
  unfold valQ at KN
  go_wp2_with (refine wpList_load23 rfl _ rfl g2 rfl q (by exact HBQ.out) ?_)
  refine KN.out.mono ?_
  rintro E w5 (⟨h1, -⟩ | ⟨-, gt, mb, rfl, htab, hgt, hmb, haw⟩)
  · exact absurd h1 (by rw [HRQ.out]; simp)
  have HWI : Hid (Wi w4 w5 gt mb (.slice none 0 0) q 0 [] (.slice none 0 0) (.slice none 0 0) [] []) := ⟨htab, keep_new ⟨(rq_of2 HRQ.out).1, (rq_of2 HRQ.out).2.1⟩ 0, by omega, fun z hz => by
    rcases mem_fpT.1 hz with rfl | rfl | h1 | ⟨c, hc, -⟩
    · exact hgt
    · exact hmb
    · simp [Value.ownBlock] at h1
    · simp at hc, haw, K.LstK.nil _, LJ.nil _, by simp, by simp [Value.ownBlock], by simp [Value.ownBlock], .nil, by simp, by simp⟩
  clear htab hgt hmb haw KN
  go_wp2_with fail
  go_loopw [8, 9, 10, 11] (fun la ku bu i wr => ∃ (k : Nat) (t : Int) (cs : List Cel) (ov : Value) (ka : Option Addr) (kc : Nat) (ba : Option Addr) (bc nb : Nat), la = .int .i64 t ∧ ku = .slice ka nb kc ∧ bu = .slice ba nb bc ∧ i = .int .i64 (k : Int) ∧ nb = cs.length ∧ k ≤ n1 ∧ Wi w4 wr gt mb ov q t cs (.slice ka nb kc) (.slice ba nb bc) cs []) (fun _ _ _ i _ => n1 - (intOf i).toNat)
  case atStart => exact ⟨0, 0, [], _, none, 0, none, 0, 0, rfl, rfl, rfl, rfl, rfl, by omega, HWI.out⟩
  case round =>
    as_aux_lemma =>
    clear HWI
    obtain ⟨k, t, cs, ov, ka, kc, ba, bc, nb, rfl, rfl, rfl, rfl, hnb, hk, hwi⟩ := hrel
    have HNB := Lib.hid hnb
    have hnb64 : nb ≤ 64 := by rw [hnb]; exact hwi.bk'
    clear hnb
    have HW := Lib.hid hwi
    clear hwi
    have HAD : Hid (∀ x ∈ cs.map (·.s.k), Ad x) := fun x hx => (HW.out.ka x hx).ad
    have HB0T : Hid (∀ b ∈ cs.map (·.s.tb), 0 ≤ b ∧ b ≤ 1099511627776) := fun b hb => by
      obtain ⟨c, hc, rfl⟩ := List.mem_map.1 hb
      have h1 := HW.out.born c hc
      have h2 := HW.out.time
      omega
    by_cases hlt : k < n1
    · have j1 : (k : Int) < (n1 : Int) := by omega
      have j2 : 0 ≤ (k : Int) := by omega
      have j3 : ((k : Int)).toNat = k := by omega
      obtain ⟨op, hop, hopm⟩ := get_of (xs := os) (k := k) (by rw [HN.out]; exact hlt)
      obtain ⟨ob, oo, hoa, hcell⟩ : ∃ b off, a1 = some ⟨b, off, none⟩ ∧ w.rangeAt b (off + k * 52) op.cells := by
        rcases HAT.out with h | ⟨b, off, h1, h2⟩
        · rw [h] at hop; simp at hop
        · exact ⟨b, off, h1, h2 k op hop⟩
      subst hoa
      obtain ⟨hopok, -, -⟩ := HOK.out op hopm
      have HOP : Hid (Pkt w op.x.p op.x.o op.x.d) := hopok.2.2.1
      have HOT : Hid (i64ok op.t) := hopok.2.2.2
      have HOW : Hid (Wf op.x.p) := hopok.2.2.1.wf
      have HAP : Hid (Ad op.x.p) := hopok.2.2.1.wf.ad
      have HO1 : Hid (op.x.o.oneCell' = true ∧ op.x.d.oneCell' = true) := ⟨hopok.2.2.1.o.one, hopok.2.2.1.d.one⟩
      have HRC : Hid (wr.rangeAt ob (oo + k * 52) op.cells) := range_away (HA.out.trans HW.out.aw) (by simp) hcell
      clear hop hopm hcell hopok
      go_wp2_with (first | (refine wpList_load41m rfl _ rfl ob (oo + k * 52) rfl op (by exact HRC.out) HAP.out ?_) | (refine wpList_alloc41 rfl rfl ?_; refine Hid.out ?_))
      refine Lib.hid ?_
      intro g12 y1 hg hb haw
      have HB0 := Lib.hid hb
      have HW1 := Lib.hid (HW.out.add haw hg hb.lt)
      clear hb haw hg
      go_wp2_with (refine wpList_store41 rfl _ _ rfl g12 rfl op rfl (by exact HB0.out) HAP.out HO1.out.1 HO1.out.2 ?_; refine Hid.out ?_)
      refine Lib.hid ?_
      intro y2 hb haw
      have HB := Lib.hid hb
      replace HW1 := Lib.hid (HW1.out.store (by simp) haw)
      clear hb haw HB0 HRC HO1
      have c51 := HB.out.t HAP.out
      have c0 := HB.out.k
      go_upto_region 15 with fail
      go_cut [13] (fun v wc => ∃ ck, v = .bool ck ∧ (ck = true ↔ (t ≤ op.t ∧ op.t ≤ 1099511627776)) ∧ wc = y2)
      case first =>
        as_aux_lemma =>
        obtain ⟨ot, hot⟩ : ∃ ot, ot = op.t := ⟨_, rfl⟩
        rw [← hot] at c51
        have HOTE := Lib.hid hot
        clear hot
        by_cases h1 : t ≤ ot
        · by_cases h2 : ot ≤ 1099511627776
          · have HX : Hid (t ≤ op.t ∧ op.t ≤ 1099511627776) := by rw [← HOTE.out]; exact ⟨h1, h2⟩
            go_wp2_with fail
            go_meet
            exact ⟨true, rfl, ⟨fun _ => HX.out, fun _ => rfl⟩, rfl⟩
          · have HX : Hid (¬ (t ≤ op.t ∧ op.t ≤ 1099511627776)) := by rw [← HOTE.out]; exact fun h => h2 h.2
            go_wp2_with fail
            go_meet
            exact ⟨false, rfl, ⟨fun h => Bool.noConfusion h, fun h => (HX.out h).elim⟩, rfl⟩
        · have HX : Hid (¬ (t ≤ op.t ∧ op.t ≤ 1099511627776)) := by rw [← HOTE.out]; exact fun h => h1 h.1
          go_wp2_with fail
          go_meet
          exact ⟨false, rfl, ⟨fun h => Bool.noConfusion h, fun h => (HX.out h).elim⟩, rfl⟩
      case rest =>
      as_aux_lemma =>
      obtain ⟨ck, rfl, hck, hwc⟩ := hcut
      replace hwc := hwc.symm
      subst hwc
      have HCK := Lib.hid hck
      clear hck
      go_upto_if 61 with fail
      go_cut [12] (fun v wc => v = .pointer (some ⟨g12, 0, none⟩) ∧ ∃ (ov2 : Value) (cs2 : List Cel), BoxO wc g12 op ∧ Wi w4 wc gt mb ov2 q op.t cs2 (.slice ka nb kc) (.slice ba nb bc) cs [g12] ∧ Leav q op.t cs op.x.p (decide (op.k = 2)) cs2)
      case first =>
        as_aux_lemma =>
        by_cases hkd : op.k = 2
        · have hb2 : (op.k == 2) = true := by simp [hkd]
          have HKD := Lib.hid hkd
          clear hkd c51
          go_upto_region 17 with fail
          go_cut [14, 15] (fun vt ve wc => ∃ (g14 : Nat) (n : Int) (wa : Option Addr) (wn wc1 : Nat) (la : Option Addr) (ln lc : Nat) (ga : Option Addr) (gn gc : Nat) (er : Int), vt = .pointer (some ⟨g14, 0, none⟩) ∧ ve = .int .i64 er ∧ BoxT wc g14 n (.slice wa wn wc1) (.slice la ln lc) (.slice ga gn gc) ∧ BoxO wc g12 op ∧ WpR w4 wc gt mb q t op.t (.slice ka nb kc) (.slice ba nb bc) cs [g14, g12] op.x.p n wn ln gn er)
          case first =>
            as_aux_lemma =>
            have HWc := Lib.hid (HW1.out.on ((Away.refl [] y2).drew))
            have HBc : Hid (BoxO y2.drew g12 op) := HB.out
            refine wp_region_held_drew (S := (fun w' => BoxO w' g12 op)) (by kernel_rfl) (by exact HBc.out) (fun hHeld => ?_)
            refine wpAnyH_take (i := 0) (v := ?_) (by simp only [List.getElem?_toArray, List.getElem?_cons_zero]; rfl) (by kernel_rfl) (by kernel_rfl) (by kernel_rfl) (by exact fun _ _ _ h => h) (Or.inl ⟨by rfl, ?_⟩) (by assumption) ?_
            rotate_left
            · intro wq hSw
              (try dsimp only at hSw)
              go_simp
              all_goals (with_reducible rfl)
            try simp only [Act.put, List.setIfInBounds_toArray, List.set_cons_zero, List.set_cons_succ]
            refine wpAnyH_take (i := 1) (v := ?_) (by simp only [List.getElem?_toArray, List.getElem?_cons_succ, List.getElem?_cons_zero]; rfl) (by kernel_rfl) (by kernel_rfl) (by kernel_rfl) (by exact fun _ _ _ h => h) (Or.inl ⟨by rfl, ?_⟩) (by assumption) ?_
            rotate_left
            · intro wq hSw
              (try dsimp only at hSw)
              go_simp
              all_goals (with_reducible rfl)
            try simp only [Act.put, List.setIfInBounds_toArray, List.set_cons_zero, List.set_cons_succ]
            refine wpAnyH_take (i := 2) (by simp only [List.getElem?_toArray, List.getElem?_cons_succ, List.getElem?_cons_zero]; rfl) (by kernel_rfl) (by kernel_rfl) (by kernel_rfl) (by exact fun _ _ _ h => h) (yields_ld (ad := ⟨g12, 5, none⟩) (by rfl) _ rfl rfl (fun w' h => load28m_run (BoxO.row h) HAP.out)) (by assumption) ?_
            try simp only [Act.put, List.setIfInBounds_toArray, List.set_cons_zero, List.set_cons_succ]
            refine wpAnyH_take (i := 4) (v := ?_) (by simp only [List.getElem?_toArray, List.getElem?_cons_succ, List.getElem?_cons_zero]; rfl) (by kernel_rfl) (by kernel_rfl) (by kernel_rfl) (by exact fun _ _ _ h => h) (Or.inl ⟨by rfl, ?_⟩) (by assumption) ?_
            rotate_left
            · intro wq hSw
              (try dsimp only at hSw)
              go_simp
              all_goals (with_reducible rfl)
            try simp only [Act.put, List.setIfInBounds_toArray, List.set_cons_zero, List.set_cons_succ]
            refine wpAnyH_take (i := 5) (by simp only [List.getElem?_toArray, List.getElem?_cons_succ, List.getElem?_cons_zero]; rfl) (by kernel_rfl) (by kernel_rfl) (by kernel_rfl) (by exact fun _ _ _ h => h) (yields_ld (ad := ⟨g12, 51, none⟩) (by rfl) _ rfl rfl (fun w' h => ld2 (BoxO.t h HAP.out))) (by assumption) ?_
            try simp only [Act.put, List.setIfInBounds_toArray, List.set_cons_zero, List.set_cons_succ]
            refine wpAnyH_ready (rs := [3, 10]) (by kernel_rfl) (by simp) ?_
            refine AllReadyH.cons (by simp only [List.getElem?_toArray, List.getElem?_cons_succ, List.getElem?_cons_zero]; rfl) (fun K hK => ?_) (AllReadyH.cons (by simp only [List.getElem?_toArray, List.getElem?_cons_succ, List.getElem?_cons_zero]; rfl) (fun K hK => ?_) AllReadyH.nil)
            · go_simp
              refine (own_e _ op.x.p op.x.o op.x.d (HOP.out.on (HA.out.trans HWc.out.aw))).mono ?_
              rintro E v3 ⟨jo, jd, rfl, hmi, haw⟩
              have HM := Lib.hid hmi
              have HFB := Lib.hid HWc.out.tab.lt
              replace HWc := Lib.hid (HWc.out.on haw)
              replace HBc := Lib.hid (HBc.out.on haw)
              clear hmi haw
              refine hK.out _ _ (by exact HBc.out) (fun hHeld => ?_)
              clear hK K
              try simp only [Act.put, List.setIfInBounds_toArray, List.set_cons_zero, List.set_cons_succ]
              refine wpAnyH_ready (rs := [6, 10]) (by kernel_rfl) (by simp) ?_
              refine AllReadyH.cons (by simp only [List.getElem?_toArray, List.getElem?_cons_succ, List.getElem?_cons_zero]; rfl) (fun K hK => ?_) (AllReadyH.cons (by simp only [List.getElem?_toArray, List.getElem?_cons_succ, List.getElem?_cons_zero]; rfl) (fun K hK => ?_) AllReadyH.nil)
              · go_simp
                refine (HWc.out.put HRQ.out (HG.out.on (HA.out.trans HWc.out.aw)) HP0.out ⟨_, HM.out, HFB.out⟩ HOW.out op.t).mono ?_
                rintro E v6 ⟨n, wa, wn, wc1, la, ln, lc, ga, gn, gc, er, rfl, hor, haw⟩
                have HOR := Lib.hid hor
                replace HBc : Hid (BoxO v6 g12 op) := haw.keep (HWc.out.out g12 (by simp)).2.2.1 HBc.out
                clear hor haw HM HFB HWc
                refine hK.out _ _ (by exact HBc.out) (fun hHeld => ?_)
                clear hK K
                try simp only [Act.put, List.setIfInBounds_toArray, List.set_cons_zero, List.set_cons_succ]
                refine wpAnyH_take (i := 7) (v := ?_) (by simp only [List.getElem?_toArray, List.getElem?_cons_succ, List.getElem?_cons_zero]; rfl) (by kernel_rfl) (by kernel_rfl) (by kernel_rfl) (by exact fun _ _ _ h => h) (Or.inl ⟨by rfl, ?_⟩) (by assumption) ?_
                rotate_left
                · intro wq hSw
                  (try dsimp only at hSw)
                  go_simp
                  all_goals (with_reducible rfl)
                try simp only [Act.put, List.setIfInBounds_toArray, List.set_cons_zero, List.set_cons_succ]
                refine wpAnyH_take (i := 8) (v := ?_) (by simp only [List.getElem?_toArray, List.getElem?_cons_succ, List.getElem?_cons_zero]; rfl) (by kernel_rfl) (by kernel_rfl) (by kernel_rfl) (by exact fun _ _ _ h => h) (Or.inl ⟨by rfl, ?_⟩) (by assumption) ?_
                rotate_left
                · intro wq hSw
                  (try dsimp only at hSw)
                  go_simp
                  all_goals (with_reducible rfl)
                try simp only [Act.put, List.setIfInBounds_toArray, List.set_cons_zero, List.set_cons_succ]
                refine wpAnyH_take (i := 9) (v := ?_) (by simp only [List.getElem?_toArray, List.getElem?_cons_succ, List.getElem?_cons_zero]; rfl) (by kernel_rfl) (by kernel_rfl) (by kernel_rfl) (by exact fun _ _ _ h => h) (Or.inl ⟨by rfl, ?_⟩) (by assumption) ?_
                rotate_left
                · intro wq hSw
                  (try dsimp only at hSw)
                  go_simp
                  all_goals (with_reducible rfl)
                try simp only [Act.put, List.setIfInBounds_toArray, List.set_cons_zero, List.set_cons_succ]
                refine wpAnyH_ready (rs := [10]) (by kernel_rfl) (by simp) ?_
                refine AllReadyH.cons (by simp only [List.getElem?_toArray, List.getElem?_cons_succ, List.getElem?_cons_zero]; rfl) (fun K hK => ?_) AllReadyH.nil
                refine step_alloc44 rfl rfl ?_
                intro g14 v10 hg14 hb haw
                have HB14 := Lib.hid hb
                have HNE : Hid (g12 ≠ g14) := by have h1 := HBc.out.lt; show _ ≠ _; omega
                replace HOR := Lib.hid (HOR.out.add haw hg14 hb.lt)
                replace HBc := Lib.hid (HBc.out.on haw)
                clear hb haw hg14
                refine hK.out _ _ (by exact HBc.out) (fun hHeld => ?_)
                clear hK K
                try simp only [Act.put, List.setIfInBounds_toArray, List.set_cons_zero, List.set_cons_succ]
                refine wpAnyH_ready (rs := [11]) (by kernel_rfl) (by simp) ?_
                refine AllReadyH.cons (by simp only [List.getElem?_toArray, List.getElem?_cons_succ, List.getElem?_cons_zero]; rfl) (fun K hK => ?_) AllReadyH.nil
                refine step_store44 rfl _ _ rfl g14 rfl n (.slice wa wn wc1) (.slice la ln lc) (.slice ga gn gc) rfl 0 nilV nilV nilV (by exact HB14.out) rfl rfl rfl ?_
                intro v11 hb haw
                replace HB14 := Lib.hid hb
                replace HOR := Lib.hid (HOR.out.store (by simp) haw)
                replace HBc : Hid (BoxO v11 g12 op) := haw.keep (by simpa using HNE.out) HBc.out
                clear hb haw
                refine hK.out _ _ (by exact HBc.out) (fun hHeld => ?_)
                clear hK K
                try simp only [Act.put]
                refine wpAnyH_take (i := 12) (v := ?_) (by simp only [List.getElem?_toArray, List.getElem?_cons_succ, List.getElem?_cons_zero]; rfl) (by kernel_rfl) (by kernel_rfl) (by kernel_rfl) (by exact fun _ _ _ h => h) (Or.inl ⟨by rfl, ?_⟩) (by assumption) ?_
                rotate_left
                · intro wq hSw
                  (try dsimp only at hSw)
                  go_simp
                  all_goals (with_reducible rfl)
                try simp only [Act.put, List.setIfInBounds_toArray, List.set_cons_zero, List.set_cons_succ]
                clear hHeld
                refine wpAnyH_done (by kernel_rfl) ?_ _
                go_wp2_with fail
                go_meet
                exact ⟨g14, n, wa, wn, wc1, la, ln, lc, ga, gn, gc, er, rfl, rfl, HB14.out, HBc.out, HOR.out⟩
              · refine step_alloc44 rfl rfl ?_
                intro g14 v10 hg14 hb haw
                have HB14 := Lib.hid hb
                have HNE : Hid (g12 ≠ g14) := by have h1 := HBc.out.lt; show _ ≠ _; omega
                replace HWc := Lib.hid (HWc.out.add haw hg14 hb.lt)
                replace HM := Lib.hid (HM.out.on haw)
                replace HBc := Lib.hid (HBc.out.on haw)
                clear hb haw hg14
                refine hK.out _ _ (by exact HBc.out) (fun hHeld => ?_)
                clear hK K
                try simp only [Act.put, List.setIfInBounds_toArray, List.set_cons_zero, List.set_cons_succ]
                refine wpAnyH_ready (rs := [6]) (by kernel_rfl) (by simp) ?_
                refine AllReadyH.cons (by simp only [List.getElem?_toArray, List.getElem?_cons_succ, List.getElem?_cons_zero]; rfl) (fun K hK => ?_) AllReadyH.nil
                go_simp
                refine (HWc.out.put HRQ.out (HG.out.on (HA.out.trans HWc.out.aw)) HP0.out ⟨_, HM.out, HFB.out⟩ HOW.out op.t).mono ?_
                rintro E v6 ⟨n, wa, wn, wc1, la, ln, lc, ga, gn, gc, er, rfl, hor, haw⟩
                have HOR := Lib.hid hor
                replace HBc : Hid (BoxO v6 g12 op) := haw.keep (HWc.out.out g12 (by simp)).2.2.1 HBc.out
                replace HB14 := Lib.hid (HB14.out.keep haw (HWc.out.out g14 (by simp)).2.2.1)
                clear hor haw HM HFB HWc
                refine hK.out _ _ (by exact HBc.out) (fun hHeld => ?_)
                clear hK K
                try simp only [Act.put, List.setIfInBounds_toArray, List.set_cons_zero, List.set_cons_succ]
                refine wpAnyH_take (i := 7) (v := ?_) (by simp only [List.getElem?_toArray, List.getElem?_cons_succ, List.getElem?_cons_zero]; rfl) (by kernel_rfl) (by kernel_rfl) (by kernel_rfl) (by exact fun _ _ _ h => h) (Or.inl ⟨by rfl, ?_⟩) (by assumption) ?_
                rotate_left
                · intro wq hSw
                  (try dsimp only at hSw)
                  go_simp
                  all_goals (with_reducible rfl)
                try simp only [Act.put, List.setIfInBounds_toArray, List.set_cons_zero, List.set_cons_succ]
                refine wpAnyH_take (i := 8) (v := ?_) (by simp only [List.getElem?_toArray, List.getElem?_cons_succ, List.getElem?_cons_zero]; rfl) (by kernel_rfl) (by kernel_rfl) (by kernel_rfl) (by exact fun _ _ _ h => h) (Or.inl ⟨by rfl, ?_⟩) (by assumption) ?_
                rotate_left
                · intro wq hSw
                  (try dsimp only at hSw)
                  go_simp
                  all_goals (with_reducible rfl)
                try simp only [Act.put, List.setIfInBounds_toArray, List.set_cons_zero, List.set_cons_succ]
                refine wpAnyH_take (i := 9) (v := ?_) (by simp only [List.getElem?_toArray, List.getElem?_cons_succ, List.getElem?_cons_zero]; rfl) (by kernel_rfl) (by kernel_rfl) (by kernel_rfl) (by exact fun _ _ _ h => h) (Or.inl ⟨by rfl, ?_⟩) (by assumption) ?_
                rotate_left
                · intro wq hSw
                  (try dsimp only at hSw)
                  go_simp
                  all_goals (with_reducible rfl)
                try simp only [Act.put, List.setIfInBounds_toArray, List.set_cons_zero, List.set_cons_succ]
                refine wpAnyH_ready (rs := [11]) (by kernel_rfl) (by simp) ?_
                refine AllReadyH.cons (by simp only [List.getElem?_toArray, List.getElem?_cons_succ, List.getElem?_cons_zero]; rfl) (fun K hK => ?_) AllReadyH.nil
                refine step_store44 rfl _ _ rfl g14 rfl n (.slice wa wn wc1) (.slice la ln lc) (.slice ga gn gc) rfl 0 nilV nilV nilV (by exact HB14.out) rfl rfl rfl ?_
                intro v11 hb haw
                replace HB14 := Lib.hid hb
                replace HOR := Lib.hid (HOR.out.store (by simp) haw)
                replace HBc : Hid (BoxO v11 g12 op) := haw.keep (by simpa using HNE.out) HBc.out
                clear hb haw
                refine hK.out _ _ (by exact HBc.out) (fun hHeld => ?_)
                clear hK K
                try simp only [Act.put]
                refine wpAnyH_take (i := 12) (v := ?_) (by simp only [List.getElem?_toArray, List.getElem?_cons_succ, List.getElem?_cons_zero]; rfl) (by kernel_rfl) (by kernel_rfl) (by kernel_rfl) (by exact fun _ _ _ h => h) (Or.inl ⟨by rfl, ?_⟩) (by assumption) ?_
                rotate_left
                · intro wq hSw
                  (try dsimp only at hSw)
                  go_simp
                  all_goals (with_reducible rfl)
                try simp only [Act.put, List.setIfInBounds_toArray, List.set_cons_zero, List.set_cons_succ]
                clear hHeld
                refine wpAnyH_done (by kernel_rfl) ?_ _
                go_wp2_with fail
                go_meet
                exact ⟨g14, n, wa, wn, wc1, la, ln, lc, ga, gn, gc, er, rfl, rfl, HB14.out, HBc.out, HOR.out⟩
            · refine step_alloc44 rfl rfl ?_
              intro g14 v10 hg14 hb haw
              have HB14 := Lib.hid hb
              have HNE : Hid (g12 ≠ g14) := by have h1 := HBc.out.lt; show _ ≠ _; omega
              replace HWc := Lib.hid (HWc.out.add haw hg14 hb.lt)
              replace HBc := Lib.hid (HBc.out.on haw)
              clear hb haw hg14
              refine hK.out _ _ (by exact HBc.out) (fun hHeld => ?_)
              clear hK K
              try simp only [Act.put, List.setIfInBounds_toArray, List.set_cons_zero, List.set_cons_succ]
              refine wpAnyH_ready (rs := [3]) (by kernel_rfl) (by simp) ?_
              refine AllReadyH.cons (by simp only [List.getElem?_toArray, List.getElem?_cons_succ, List.getElem?_cons_zero]; rfl) (fun K hK => ?_) AllReadyH.nil
              go_simp
              refine (own_e _ op.x.p op.x.o op.x.d (HOP.out.on (HA.out.trans HWc.out.aw))).mono ?_
              rintro E v3 ⟨jo, jd, rfl, hmi, haw⟩
              have HM := Lib.hid hmi
              have HFB := Lib.hid HWc.out.tab.lt
              replace HWc := Lib.hid (HWc.out.on haw)
              replace HBc := Lib.hid (HBc.out.on haw)
              replace HB14 := Lib.hid (HB14.out.keep haw (by simp))
              clear hmi haw
              refine hK.out _ _ (by exact HBc.out) (fun hHeld => ?_)
              clear hK K
              try simp only [Act.put, List.setIfInBounds_toArray, List.set_cons_zero, List.set_cons_succ]
              refine wpAnyH_ready (rs := [6]) (by kernel_rfl) (by simp) ?_
              refine AllReadyH.cons (by simp only [List.getElem?_toArray, List.getElem?_cons_succ, List.getElem?_cons_zero]; rfl) (fun K hK => ?_) AllReadyH.nil
              go_simp
              refine (HWc.out.put HRQ.out (HG.out.on (HA.out.trans HWc.out.aw)) HP0.out ⟨_, HM.out, HFB.out⟩ HOW.out op.t).mono ?_
              rintro E v6 ⟨n, wa, wn, wc1, la, ln, lc, ga, gn, gc, er, rfl, hor, haw⟩
              have HOR := Lib.hid hor
              replace HBc : Hid (BoxO v6 g12 op) := haw.keep (HWc.out.out g12 (by simp)).2.2.1 HBc.out
              replace HB14 := Lib.hid (HB14.out.keep haw (HWc.out.out g14 (by simp)).2.2.1)
              clear hor haw HM HFB HWc
              refine hK.out _ _ (by exact HBc.out) (fun hHeld => ?_)
              clear hK K
              try simp only [Act.put, List.setIfInBounds_toArray, List.set_cons_zero, List.set_cons_succ]
              refine wpAnyH_take (i := 7) (v := ?_) (by simp only [List.getElem?_toArray, List.getElem?_cons_succ, List.getElem?_cons_zero]; rfl) (by kernel_rfl) (by kernel_rfl) (by kernel_rfl) (by exact fun _ _ _ h => h) (Or.inl ⟨by rfl, ?_⟩) (by assumption) ?_
              rotate_left
              · intro wq hSw
                (try dsimp only at hSw)
                go_simp
                all_goals (with_reducible rfl)
              try simp only [Act.put, List.setIfInBounds_toArray, List.set_cons_zero, List.set_cons_succ]
              refine wpAnyH_take (i := 8) (v := ?_) (by simp only [List.getElem?_toArray, List.getElem?_cons_succ, List.getElem?_cons_zero]; rfl) (by kernel_rfl) (by kernel_rfl) (by kernel_rfl) (by exact fun _ _ _ h => h) (Or.inl ⟨by rfl, ?_⟩) (by assumption) ?_
              rotate_left
              · intro wq hSw
                (try dsimp only at hSw)
                go_simp
                all_goals (with_reducible rfl)
              try simp only [Act.put, List.setIfInBounds_toArray, List.set_cons_zero, List.set_cons_succ]
              refine wpAnyH_take (i := 9) (v := ?_) (by simp only [List.getElem?_toArray, List.getElem?_cons_succ, List.getElem?_cons_zero]; rfl) (by kernel_rfl) (by kernel_rfl) (by kernel_rfl) (by exact fun _ _ _ h => h) (Or.inl ⟨by rfl, ?_⟩) (by assumption) ?_
              rotate_left
              · intro wq hSw
                (try dsimp only at hSw)
                go_simp
                all_goals (with_reducible rfl)
              try simp only [Act.put, List.setIfInBounds_toArray, List.set_cons_zero, List.set_cons_succ]
              refine wpAnyH_ready (rs := [11]) (by kernel_rfl) (by simp) ?_
              refine AllReadyH.cons (by simp only [List.getElem?_toArray, List.getElem?_cons_succ, List.getElem?_cons_zero]; rfl) (fun K hK => ?_) AllReadyH.nil
              refine step_store44 rfl _ _ rfl g14 rfl n (.slice wa wn wc1) (.slice la ln lc) (.slice ga gn gc) rfl 0 nilV nilV nilV (by exact HB14.out) rfl rfl rfl ?_
              intro v11 hb haw
              replace HB14 := Lib.hid hb
              replace HOR := Lib.hid (HOR.out.store (by simp) haw)
              replace HBc : Hid (BoxO v11 g12 op) := haw.keep (by simpa using HNE.out) HBc.out
              clear hb haw
              refine hK.out _ _ (by exact HBc.out) (fun hHeld => ?_)
              clear hK K
              try simp only [Act.put]
              refine wpAnyH_take (i := 12) (v := ?_) (by simp only [List.getElem?_toArray, List.getElem?_cons_succ, List.getElem?_cons_zero]; rfl) (by kernel_rfl) (by kernel_rfl) (by kernel_rfl) (by exact fun _ _ _ h => h) (Or.inl ⟨by rfl, ?_⟩) (by assumption) ?_
              rotate_left
              · intro wq hSw
                (try dsimp only at hSw)
                go_simp
                all_goals (with_reducible rfl)
              try simp only [Act.put, List.setIfInBounds_toArray, List.set_cons_zero, List.set_cons_succ]
              clear hHeld
              refine wpAnyH_done (by kernel_rfl) ?_ _
              go_wp2_with fail
              go_meet
              exact ⟨g14, n, wa, wn, wc1, la, ln, lc, ga, gn, gc, er, rfl, rfl, HB14.out, HBc.out, HOR.out⟩
          case rest =>
          as_aux_lemma =>
          obtain ⟨g14, n, wa, wn, wc1, la, ln, lc, ga, gn, gc, er, rfl, rfl, hbt, hbo, hor⟩ := hcut
          generalize wc = y3 at *
          have HT := Lib.hid hbt
          have HBo := Lib.hid hbo
          have HOR := Lib.hid hor
          clear hbt hbo hor HW1 HB c0
          have HWA : Hid (Away [] w y3) := by rcases HOR.out with ⟨-, -, -, -, -, -, ov2, h⟩ | ⟨-, -, -, ov2, cs2, h, -⟩; exact HA.out.trans h.aw; exact HA.out.trans h.aw
          have HKO : Hid (∀ W, Away [] y3 W → Calls Tryz.prog 11 #[.agg (csP op.x.p op.x.o op.x.d)] W (OwnOut W op.x.p)) := fun W hW => own_e W op.x.p op.x.o op.x.d (HOP.out.on (HWA.out.trans hW))
          go_upto_region 18 with fail
          go_cut [114] (fun v wc => v = .bool false ∧ Away [] y3 wc)
          case first =>
            as_aux_lemma =>
            rcases HOR.out with ⟨rfl, hx, rfl, rfl, rfl, rfl, -⟩ | ⟨rfl, hx, hw1, -⟩
            · cases ck with
              | false =>
                have d0 : y3.cell? ⟨g14, 0, none⟩ = some (.int .i64 0) := cell_of_block HT.out 0
                have d1 : y3.cell? ⟨g14, 1, none⟩ = some (.slice wa 0 wc1) := cell_of_block HT.out 1
                have d2 : y3.cell? ⟨g14, 2, none⟩ = some (.slice la 0 lc) := cell_of_block HT.out 2
                have d3 : y3.cell? ⟨g14, 3, none⟩ = some (.slice ga 0 gc) := cell_of_block HT.out 3
                clear hx
                go_wp2_with fail
                go_meet
                exact ⟨rfl, Away.refl _ _⟩
              | true =>
                have d0 : y3.cell? ⟨g14, 0, none⟩ = some (.int .i64 0) := cell_of_block HT.out 0
                have d1 : y3.cell? ⟨g14, 1, none⟩ = some (.slice wa 0 wc1) := cell_of_block HT.out 1
                have d2 : y3.cell? ⟨g14, 2, none⟩ = some (.slice la 0 lc) := cell_of_block HT.out 2
                have d3 : y3.cell? ⟨g14, 3, none⟩ = some (.slice ga 0 gc) := cell_of_block HT.out 3
                have hrf : rgt2 op.x.p = false := by
                  have h1 := HCK.out.1 rfl
                  rcases hx with h | h | h
                  · exact h
                  · omega
                  · omega
                have HRF := Lib.hid hrf
                clear hx hrf
                have hrow := HBo.out.row
                go_wp2_with (refine wpList_load28m rfl _ rfl g12 5 rfl op.x.p op.x.o op.x.d (by exact hrow) HAP.out ?_)
                refine (HKO.out y3 (Away.refl _ _)).mono ?_
                rintro E v1 ⟨io, id, rfl, hmi, haw1⟩
                have HV1 := Lib.hid haw1
                have HMI := Lib.hid hmi
                clear haw1 hmi hrow
                have KR := right_e op.x.p io id v1 (HMI.out.pkt HOW.out) (HG.out.on (HWA.out.trans HV1.out))
                rw [HRF.out] at KR
                replace KR := Lib.hid KR
                go_wp2_with fail
                refine KR.out.mono ?_
                rintro E v2 ⟨rfl, haw2⟩
                have HV2 := Lib.hid (HV1.out.trans haw2)
                clear haw2 KR
                replace d0 := HV2.out.cell (by simp) d0
                replace d1 := HV2.out.cell (by simp) d1
                replace d2 := HV2.out.cell (by simp) d2
                replace d3 := HV2.out.cell (by simp) d3
                go_wp2_with fail
                go_meet
                exact ⟨rfl, HV2.out⟩
            · obtain rfl : ck = true := HCK.out.2 hx.2
              have d0 : y3.cell? ⟨g14, 0, none⟩ = some (.int .i64 n) := cell_of_block HT.out 0
              have d1 : y3.cell? ⟨g14, 1, none⟩ = some (.slice wa wn wc1) := cell_of_block HT.out 1
              have d2 : y3.cell? ⟨g14, 2, none⟩ = some (.slice la ln lc) := cell_of_block HT.out 2
              have d3 : y3.cell? ⟨g14, 3, none⟩ = some (.slice ga gn gc) := cell_of_block HT.out 3
              have HRF : Hid (rgt2 op.x.p = true) := hx.1
              have hw2 : ¬ (1 < (wn : Int)) := by omega
              clear hx hw1
              have hrow := HBo.out.row
              go_wp2_with (refine wpList_load28m rfl _ rfl g12 5 rfl op.x.p op.x.o op.x.d (by exact hrow) HAP.out ?_)
              refine (HKO.out y3 (Away.refl _ _)).mono ?_
              rintro E v1 ⟨io, id, rfl, hmi, haw1⟩
              have HV1 := Lib.hid haw1
              have HMI := Lib.hid hmi
              clear haw1 hmi hrow
              have KR := right_e op.x.p io id v1 (HMI.out.pkt HOW.out) (HG.out.on (HWA.out.trans HV1.out))
              rw [HRF.out] at KR
              replace KR := Lib.hid KR
              go_wp2_with fail
              refine KR.out.mono ?_
              rintro E v2 ⟨rfl, haw2⟩
              have HV2 := Lib.hid (HV1.out.trans haw2)
              clear haw2 KR
              replace d0 := HV2.out.cell (by simp) d0
              replace d1 := HV2.out.cell (by simp) d1
              replace d2 := HV2.out.cell (by simp) d2
              replace d3 := HV2.out.cell (by simp) d3
              go_wp2_with fail
              go_meet
              first | exact ⟨rfl, HV2.out⟩ | exact ⟨congrArg Value.bool (decide_eq_false (by omega)), HV2.out⟩
          case rest =>
          as_aux_lemma =>
          obtain ⟨rfl, haw⟩ := hcut
          generalize wc = y4 at *
          replace HOR := Lib.hid (HOR.out.on haw)
          replace HBo := Lib.hid (HBo.out.on haw)
          clear haw HKO HWA HT
          rcases HOR.out with ⟨rfl, -, -, -, -, -, ov2, hwi⟩ | ⟨rfl, hx, -, ov2, cs2, hwi, hlv⟩
          · clear HOR
            have HWR := Lib.hid hwi
            have KK := Lib.hid (keys_c HWR.out.tab)
            go_wp2_with fail
            refine KK.out.mono ?_
            rintro E v5 ⟨kv2, rfl, hkl, -, haw⟩
            have HWS := Lib.hid (HWR.out.on haw)
            have KS := Lib.hid (sameKeys_yes hkl HWS.out.kl HWS.out.tab.keys HAD.out (by simp) (by rw [List.length_map]; have := HWS.out.bk'; omega) (fun i x y h1 h2 => by rw [h1] at h2; injection h2 with h2; subst h2; exact ky_self _))
            clear hkl haw KK HWR
            go_wp2_with fail
            refine KS.out.mono ?_
            rintro E v6 ⟨rfl, haw⟩
            have HWT := Lib.hid (HWS.out.on haw)
            clear haw KS HWS
            go_wp2_with fail
            go_roundw
            case rel => exact ⟨k + 1, t, cs, _, ka, kc, ba, bc, nb, rfl, rfl, rfl, by go_num, HNB.out, by omega, HWT.out.less (by simp)⟩
            case measure => simp [intOf]; omega
          · have HWR := Lib.hid hwi
            have HLV := Lib.hid hlv
            clear hwi hlv hx HOR
            go_wp2_with fail
            go_meet
            exact ⟨rfl, ov2, cs2, HBo.out, HWR.out.less (by simp), by rw [show decide (op.k = 2) = true from decide_eq_true HKD.out]; exact HLV.out⟩
        · have hb2 : (op.k == 2) = false := by simpa using hkd
          have HKD := Lib.hid hkd
          clear hkd c0
          go_wp2_with fail
          refine (HW1.out.tick op.t).mono ?_
          rintro E y5 ⟨la, ln, lc, er, rfl, htr, haw⟩
          have HTR := Lib.hid htr
          have HBo : Hid (BoxO y5 g12 op) := haw.keep (HW1.out.out g12 (by simp)).2.2.1 HB.out
          clear htr haw HW1 HB c51
          go_wp2_with (refine wpList_alloc33 rfl rfl ?_; refine Hid.out ?_)
          refine Lib.hid ?_
          intro g16 y6 hg hb haw
          have HBN := Lib.hid hb
          have HNE : Hid (g12 ≠ g16) := by have h1 := HBo.out.lt; show _ ≠ _; omega
          replace HTR := Lib.hid (HTR.out.add haw hg (BoxT.lt hb))
          replace HBo := Lib.hid (HBo.out.on haw)
          clear hb haw hg
          go_wp2_with (refine wpList_store33 rfl _ _ rfl g16 rfl 0 nilV (.slice la ln lc) nilV rfl 0 nilV nilV nilV (by exact HBN.out) rfl rfl rfl ?_; refine Hid.out ?_)
          refine Lib.hid ?_
          intro y7 hb haw
          have HT := Lib.hid hb
          replace HTR := Lib.hid (HTR.out.store (by simp) haw)
          replace HBo : Hid (BoxO y7 g12 op) := haw.keep (by simpa using HNE.out) HBo.out
          clear hb haw HBN HNE
          go_upto_region 24 with fail
          go_cut [163] (fun v wc => v = .bool false ∧ wc = y7)
          case first =>
            as_aux_lemma =>
            rcases HTR.out with ⟨rfl, hx, rfl, -⟩ | ⟨rfl, hx, hl2, -⟩
            · cases ck with
              | false =>
                have d0 : y7.cell? ⟨g16, 0, none⟩ = some (.int .i64 0) := cell_of_block HT.out 0
                have d1 : y7.cell? ⟨g16, 1, none⟩ = some (.slice none 0 0) := cell_of_block HT.out 1
                have d2 : y7.cell? ⟨g16, 2, none⟩ = some (.slice la 0 lc) := cell_of_block HT.out 2
                have d3 : y7.cell? ⟨g16, 3, none⟩ = some (.slice none 0 0) := cell_of_block HT.out 3
                clear hx
                have k1 : ¬ ((nb : Int) < 0) := by omega
                go_wp2_with fail
                go_meet
                first | exact ⟨rfl, rfl⟩ | exact ⟨congrArg Value.bool (decide_eq_false (by omega)), rfl⟩
              | true =>
                exfalso
                have h1 := HCK.out.1 rfl
                omega
            · obtain rfl : ck = true := HCK.out.2 hx
              have d0 : y7.cell? ⟨g16, 0, none⟩ = some (.int .i64 0) := cell_of_block HT.out 0
              have d1 : y7.cell? ⟨g16, 1, none⟩ = some (.slice none 0 0) := cell_of_block HT.out 1
              have d2 : y7.cell? ⟨g16, 2, none⟩ = some (.slice la ln lc) := cell_of_block HT.out 2
              have d3 : y7.cell? ⟨g16, 3, none⟩ = some (.slice none 0 0) := cell_of_block HT.out 3
              have k1 : ¬ ((nb : Int) < (ln : Int)) := by have h1 := HNB.out; omega
              clear hx hl2
              go_wp2_with fail
              go_meet
              first | exact ⟨rfl, rfl⟩ | exact ⟨congrArg Value.bool (decide_eq_false (by omega)), rfl⟩
          case rest =>
          as_aux_lemma =>
          obtain ⟨rfl, hwc⟩ := hcut
          replace hwc := hwc.symm
          subst hwc
          clear HT
          rcases HTR.out with ⟨rfl, -, -, ov2, hwi⟩ | ⟨rfl, hx, -, ov2, cs2, hwi, hlv⟩
          · clear HTR
            have HWR := Lib.hid hwi
            have KK := Lib.hid (keys_c HWR.out.tab)
            go_wp2_with fail
            refine KK.out.mono ?_
            rintro E v5 ⟨kv2, rfl, hkl, -, haw⟩
            have HWS := Lib.hid (HWR.out.on haw)
            have KS := Lib.hid (sameKeys_yes hkl HWS.out.kl HWS.out.tab.keys HAD.out (by simp) (by rw [List.length_map]; have := HWS.out.bk'; omega) (fun i x y h1 h2 => by rw [h1] at h2; injection h2 with h2; subst h2; exact ky_self _))
            clear hkl haw KK HWR
            go_wp2_with fail
            refine KS.out.mono ?_
            rintro E v6 ⟨rfl, haw⟩
            have HWT := Lib.hid (HWS.out.on haw)
            clear haw KS HWS
            go_wp2_with fail
            go_roundw
            case rel => exact ⟨k + 1, t, cs, _, ka, kc, ba, bc, nb, rfl, rfl, rfl, by go_num, HNB.out, by omega, HWT.out.less (by simp)⟩
            case measure => simp [intOf]; omega
          · have HWR := Lib.hid hwi
            have HLV := Lib.hid (hlv op.x.p)
            clear hwi hlv hx HTR
            go_wp2_with fail
            go_meet
            exact ⟨rfl, ov2, cs2, HBo.out, HWR.out.less (by simp), by rw [show decide (op.k = 2) = false from decide_eq_false HKD.out]; exact HLV.out⟩
      case rest =>
      as_aux_lemma =>
      obtain ⟨rfl, ov2, cs2, hbo, hwi, hlv⟩ := hcut
      generalize wc = y8 at *
      clear c51 c0 HW1 HB HW HAT
      have HB := Lib.hid hbo
      have HW := Lib.hid hwi
      have HLV := Lib.hid hlv
      clear hbo hwi hlv HCK
      have c51 := HB.out.t HAP.out
      have KK := Lib.hid (keys_c HW.out.tab)
      go_wp2_with fail
      refine KK.out.mono ?_
      rintro E y9 ⟨lv, rfl, hkl, hnew, haw⟩
      obtain ⟨lka, lkc, rfl, hrows⟩ := shapeK hkl HW.out.tab.keys
      obtain ⟨nl, hnl⟩ : ∃ z, z = cs2.length := ⟨_, rfl⟩
      rw [show (cs2.map (·.s.k)).length = nl from by rw [List.length_map, hnl]] at hkl hnew ⊢
      have HL := Lib.hid hkl
      have HLN := Lib.hid hnew
      have HRW := Lib.hid hrows
      have HNL := Lib.hid hnl
      have HS8 : Hid (y8.heap.size ≤ y9.heap.size) := haw.size
      replace HW := Lib.hid (HW.out.on haw)
      replace HB := Lib.hid (HB.out.on haw)
      clear hkl hnew hrows hnl haw KK c51
      have hnl64 : nl ≤ 64 := by have h1 := HW.out.keep.len; have h2 := rq_of2 HRQ.out; have h3 := HNL.out; omega
      go_upto_region 31 with fail
      go_cut [186] (fun v wc => v = .bool false ∧ Away [] y9 wc)
      case first =>
        as_aux_lemma =>
        have HC : Hid (Away [] y9 y9.drew) := (Away.refl _ _).drew
        have CQ0 : Hid (y9.cell? ⟨g2, 0, none⟩ = some (.int .i64 q.e)) := HW.out.aw.cell (by simp) (cell_of_block HBQ.out 0)
        have CQ1 : Hid (y9.cell? ⟨g2, 1, none⟩ = some (.int .i64 q.b)) := HW.out.aw.cell (by simp) (cell_of_block HBQ.out 1)
        obtain ⟨qe, hqe⟩ : ∃ z, z = q.e := ⟨_, rfl⟩
        obtain ⟨qb, hqb⟩ : ∃ z, z = q.b := ⟨_, rfl⟩
        obtain ⟨sb, hsb⟩ : ∃ z, z = sumC cs2 := ⟨_, rfl⟩
        have k1 : ¬ (qe < (nl : Int)) := by have h1 := HW.out.keep.len; have h3 := HNL.out; omega
        have k2 : ¬ (qb < sb) := by have h1 := HW.out.keep.sum; omega
        have b1 : decide (qe < (nl : Int)) = false := decide_eq_false k1
        have b2 : decide (qb < sb) = false := decide_eq_false k2
        rw [← hqe] at CQ0
        rw [← hqb] at CQ1
        have KB : Hid (∀ W, Away [] y9 W → Calls Tryz.prog 16 #[.pointer (some ⟨gt, 0, none⟩)] W fun E w'' => E = .returned (.int .i64 sb) ∧ Away [] y9 w'') := fun W hW => by
          rw [hsb]
          exact (tbytes_c (HW.out.tab.on hW)).mono (fun E w'' h => ⟨h.1, hW.trans h.2⟩)
        clear hqe hqb hsb
        go_wp2_with fail
        refine wp_region_cls (C := fun w' => Away [] y9 w') (by kernel_rfl) (by kernel_rfl) HC.out ?_
        go_big_quiet_want; (refine quiet_val ?_ ?_ ?_; rotate_left; (intro w; go_simp; rfl); go_simp; go_big_quiet_on)
        go_big_quiet_want; (refine quiet_val ?_ ?_ ?_; rotate_left; (intro w; go_simp; rfl); go_simp; go_big_quiet_on)
        go_big_quiet_want; (refine quiet_val ?_ ?_ ?_; rotate_left; (intro w; go_simp; rfl); go_simp; go_big_quiet_on)
        go_big_quiet_want; refine quiet_ld _ rfl (ad := ⟨g2, 0, none⟩) rfl (fun w' h => ld3 (h.cell (by simp) CQ0.out)) ?_; go_simp; go_big_quiet_on
        go_big_quiet_want; (refine quiet_val ?_ ?_ ?_; rotate_left; (intro w; go_simp; rfl); go_simp; go_big_quiet_on)
        go_big_quiet_want; (refine quiet_val ?_ ?_ ?_; rotate_left; (intro w; go_simp; rfl); go_simp; go_big_quiet_on)
        go_big_quiet_want; (refine quiet_val ?_ ?_ ?_; rotate_left; (intro w; go_simp; rfl); go_simp; go_big_quiet_on)
        go_big_quiet_want; refine quiet_call 16 #[.pointer (some ⟨gt, 0, none⟩)] (.int .i64 sb) ?_ KB.out ?_
        focus (intro w; go_simp; done)
        go_simp; go_big_quiet_on
        go_big_quiet_want; (refine quiet_val ?_ ?_ ?_; rotate_left; (intro w; go_simp; rfl); go_simp; go_big_quiet_on)
        go_big_quiet_want; refine quiet_ld _ rfl (ad := ⟨g2, 1, none⟩) rfl (fun w' h => ld3 (h.cell (by simp) CQ1.out)) ?_; go_simp; go_big_quiet_on
        go_big_quiet_want; (refine quiet_val ?_ ?_ ?_; rotate_left; (intro w; go_simp; rfl); go_simp; go_big_quiet_on)
        go_big_quiet_want; (refine quiet_val ?_ ?_ ?_; rotate_left; (intro w; go_simp; rfl); go_simp; go_big_quiet_on)
        refine wpQuiet_nil ?_
        intro V hV
        go_wp2_with fail
        go_meet
        exact ⟨rfl, hV⟩
      case rest =>
      as_aux_lemma =>
      obtain ⟨rfl, haw⟩ := hcut
      generalize wc = y10 at *
      replace HL := Lib.hid (HL.out.on haw)
      replace HW := Lib.hid (HW.out.on haw)
      replace HB := Lib.hid (HB.out.on haw)
      replace HRW : Hid (∀ (i : Nat) (x : Pk), (cs2.map (·.s.k))[i]? = some x → ∃ ob, lka = some ⟨ob, 0, none⟩ ∧ y10.rangeAt ob (i * 37) (listK x)) := fun i x hx => by obtain ⟨ob, h1, h2⟩ := HRW.out i x hx; exact ⟨ob, h1, range_away haw (by simp) h2⟩
      replace HS8 := Lib.hid (Nat.le_trans HS8.out haw.size)
      clear haw
      go_wp2_with fail
      go_loopw [19, 20] (fun bu i wi => ∃ (j : Nat) (xa : Option Addr) (xc : Nat), bu = .slice xa j xc ∧ i = .int .i64 (j : Int) ∧ j ≤ nl ∧ LJ wi (.slice xa j xc) ((cs2.map (·.s.tb)).take j) ∧ Away [] y10 wi ∧ ∀ z, (Value.slice xa j xc).ownBlock = some z → y10.heap.size ≤ z) (fun _ i _ => nl - (intOf i).toNat)
      case atStart => exact ⟨0, none, 0, rfl, rfl, by omega, LJ.nil _, Away.refl _ _, by simp [Value.ownBlock]⟩
      case round =>
        as_aux_lemma =>
        obtain ⟨j, xa, xc, rfl, rfl, hj, hlj, hwa, hxn⟩ := hrel
        have HLJ := Lib.hid hlj
        have HWA := Lib.hid hwa
        have HXN := Lib.hid hxn
        have HLJW : Hid (∀ z, (Value.slice xa j xc).ownBlock = some z → z < wr.heap.size) := hlj.lt
        clear hlj hwa hxn
        by_cases hjl : j < nl
        · have i1 : (j : Int) < (nl : Int) := by omega
          have i2 : 0 ≤ (j : Int) := by omega
          have i3 : ((j : Int)).toNat = j := by omega
          obtain ⟨c, hcj, hcm⟩ := get_of (xs := cs2) (k := j) (by have h1 := HNL.out; omega)
          have hkj : (cs2.map (·.s.k))[j]? = some c.s.k := by rw [List.getElem?_map, hcj]; rfl
          obtain ⟨gl, hla, hrl⟩ := HRW.out j c.s.k hkj
          subst hla
          have HWC : Hid (Wf c.s.k) := HW.out.tab.kwf c hcm
          have HCJ := Lib.hid hcj
          have HRL : Hid (y10.rangeAt gl (j * 37) (listK c.s.k)) := hrl
          have HRLi : Hid (wr.rangeAt gl (j * 37) (listK c.s.k)) := range_away HWA.out (by simp) hrl
          have HKR : Hid (RowK wr ka (cs.map (·.s.k))) := rowK_of (HW.out.kl.on HWA.out) HAD.out
          have HAC : Hid (Ad c.s.k) := HWC.out.ad
          clear hcm hkj hrl hcj
          go_wp2_with (refine wpList_load29m rfl _ rfl gl (j * 37) rfl c.s.k (by exact HRLi.out) HAC.out ?_)
          refine (place_e wr ka (cs.map (·.s.k)) nb kc c.s.k HKR.out (by rw [List.length_map]; exact HNB.out.symm) (by omega) HAD.out HAC.out).mono ?_
          rintro E z1 ⟨z, rfl, hz, haw⟩
          have HZ := Lib.hid (leav_at HLV.out HW.out.kb HCJ.out hz)
          have HWZ := Lib.hid (HWA.out.trans haw)
          replace HLJ := Lib.hid (HLJ.out.on haw)
          have HTB : Hid (0 ≤ c.s.tb ∧ c.s.tb ≤ op.t) := by have h1 := HW.out.keep.tb c (List.mem_of_getElem? HCJ.out); exact ⟨h1.1, h1.2.1⟩
          have HTM := HW.out.time
          clear hz haw HKR HRLi
          have HBz : Hid (BoxO z1 g12 op) := HB.out.on HWZ.out
          have c51 := HBz.out.t HAP.out
          obtain ⟨ot, hot⟩ : ∃ ot, ot = op.t := ⟨_, rfl⟩
          obtain ⟨tb, htb⟩ : ∃ tb, tb = c.s.tb := ⟨_, rfl⟩
          rw [← hot] at c51 HTB
          rw [← htb] at HTB
          have HOTE := Lib.hid hot
          have HTBE := Lib.hid htb
          have hot2 : 0 ≤ ot ∧ ot ≤ 1099511627776 := by rw [hot]; exact HTM
          clear hot htb HTM
          have CQ3 : Hid (z1.cell? ⟨g2, 3, none⟩ = some (.int .i64 q.t)) := (HW.out.aw.trans HWZ.out).cell (by simp) (cell_of_block HBQ.out 3)
          obtain ⟨qt, hqt⟩ : ∃ z, z = q.t := ⟨_, rfl⟩
          rw [← hqt] at CQ3
          have HQT := Lib.hid hqt
          clear hqt
          obtain ⟨bba, bbc, hbe, hbr⟩ := (HW.out.bl.on HWZ.out).sl
          have HBR := Lib.hid hbr
          have HBE : Hid (ba = bba) := by injection hbe
          clear hbe hbr
          go_upto_region 39 with fail
          go_cut [214] (fun v wc => ∃ bb, v = .bool bb ∧ (bb = true → ∃ (i : Nat) (gb : Nat), z = (i : Int) ∧ i < nb ∧ ba = some ⟨gb, 0, none⟩ ∧ z1.cell? ⟨gb, i, none⟩ = some (.int .i64 tb)) ∧ (bb = false → op.k = 2 ∧ j + 1 = nl ∧ tb = ot ∧ kyB c.s.k op.x.p = true) ∧ Away [] z1 wc)
          case first =>
            as_aux_lemma =>
            have HC : Hid (Away [] z1 z1.drew) := (Away.refl _ _).drew
            have C51 := Lib.hid c51
            clear c51
            have W39 : ∀ b : Int, 0 ≤ b → b ≤ 1099511627776 → IntKind.i64.wrap (ot - b) = ot - b := fun b h1 h2 => by rw [IntKind.wrap_i64]; omega
            rcases HZ.out with ⟨i, hzi, hil, hbi, hlt2⟩ | ⟨hB, hp, hk1, htn, hkk⟩
            · subst hzi
              have HIL : Hid (i < nb) := by have h1 := HNB.out; show _ < _; omega
              obtain ⟨gb, hga, hcb⟩ := HBR.out i _ hbi
              have HGA : Hid (ba = some ⟨gb, 0, none⟩) := HBE.out.trans hga
              have CB : Hid (z1.cell? ⟨gb, i, none⟩ = some (.int .i64 tb)) := by rw [HTBE.out]; exact hcb
              have hba := HGA.out
              subst hba
              have HIN := HIL.out
              have m1 : (i : Int) < (nb : Int) := by omega
              have m2 : 0 ≤ (i : Int) := by omega
              have m3 : ((i : Int)).toNat = i := by omega
              have w1 : IntKind.i64.wrap (ot - tb) = ot - tb := by have h1 := HTB.out; exact W39 tb h1.1 (by omega)
              have b1 : decide (ot - tb < qt) = true := by rw [HOTE.out, HTBE.out, HQT.out]; exact decide_eq_true hlt2
              have b1b : ot - tb < qt := of_decide_eq_true b1
              clear hbi hlt2 hga hcb HBE
              go_wp2_with fail
              refine wp_region_cls (C := fun w' => Away [] z1 w') (by kernel_rfl) (by kernel_rfl) HC.out ?_
              go_big_quiet_want; (refine quiet_val ?_ ?_ ?_; rotate_left; (intro w; go_simp; rfl); go_simp; go_big_quiet_on)
              go_big_quiet_want; (refine quiet_val ?_ ?_ ?_; rotate_left; (intro w; go_simp; rfl); go_simp; go_big_quiet_on)
              go_big_quiet_want; (refine quiet_val ?_ ?_ ?_; rotate_left; (intro w; go_simp; rfl); go_simp; go_big_quiet_on)
              go_big_quiet_want; (refine quiet_val ?_ ?_ ?_; rotate_left; (intro w; go_simp; rfl); go_simp; go_big_quiet_on)
              go_big_quiet_want; refine quiet_ld _ rfl (ad := ⟨g12, 51, none⟩) rfl (fun w' h => ld2 (h.cell (by simp) C51.out)) ?_; go_simp; go_big_quiet_on
              go_big_quiet_want; (refine quiet_val ?_ ?_ ?_; rotate_left; (intro w; go_simp; rfl); go_simp; go_big_quiet_on)
              go_big_quiet_want; (refine quiet_val ?_ ?_ ?_; rotate_left; (intro w; go_simp; rfl); go_simp; go_big_quiet_on)
              go_big_quiet_want; (refine quiet_val ?_ ?_ ?_; rotate_left; (intro w; go_simp; rfl); go_simp; go_big_quiet_on)
              go_big_quiet_want; refine quiet_ld _ rfl (ad := ⟨gb, i, none⟩) rfl (fun w' h => ld2 (h.cell (by simp) CB.out)) ?_; go_simp; go_big_quiet_on
              go_big_quiet_want; (refine quiet_val ?_ ?_ ?_; rotate_left; (intro w; go_simp; rfl); go_simp; go_big_quiet_on)
              go_big_quiet_want; (refine quiet_val ?_ ?_ ?_; rotate_left; (intro w; go_simp; rfl); go_simp; go_big_quiet_on)
              go_big_quiet_want; refine quiet_ld _ rfl (ad := ⟨g2, 3, none⟩) rfl (fun w' h => ld2 (h.cell (by simp) CQ3.out)) ?_; go_simp; go_big_quiet_on
              go_big_quiet_want; (refine quiet_val ?_ ?_ ?_; rotate_left; (intro w; go_simp; rfl); go_simp; go_big_quiet_on)
              go_big_quiet_want; (refine quiet_val ?_ ?_ ?_; rotate_left; (intro w; go_simp; rfl); go_simp; go_big_quiet_on)
              refine wpQuiet_nil ?_
              intro V hV
              go_wp2_with fail
              go_meet
              exact ⟨true, rfl, fun _ => ⟨i, gb, rfl, HIL.out, rfl, CB.out⟩, fun h => Bool.noConfusion h, hV⟩
            · have HF : Hid (op.k = 2 ∧ j + 1 = nl ∧ tb = ot ∧ kyB c.s.k op.x.p = true) := ⟨of_decide_eq_true hp, by rw [HNL.out]; exact hk1, by rw [HTBE.out, HOTE.out]; exact htn, by rw [hkk]; exact ky_self _⟩
              clear hp hk1 htn hkk
              rcases hB with hz1 | ⟨i, b, hzi, hil, hbi, hlt2⟩
              · subst hz1
                go_wp2_with fail
                refine wp_region_cls (C := fun w' => Away [] z1 w') (by kernel_rfl) (by kernel_rfl) HC.out ?_
                go_big_quiet_want; (refine quiet_val ?_ ?_ ?_; rotate_left; (intro w; go_simp; rfl); go_simp; go_big_quiet_on)
                go_big_quiet_want; (refine quiet_val ?_ ?_ ?_; rotate_left; (intro w; go_simp; rfl); go_simp; go_big_quiet_on)
                go_big_quiet_want; (refine quiet_val ?_ ?_ ?_; rotate_left; (intro w; go_simp; rfl); go_simp; go_big_quiet_on)
                go_big_quiet_skip
                go_big_quiet_skip
                go_big_quiet_skip
                go_big_quiet_skip
                go_big_quiet_skip
                go_big_quiet_skip
                go_big_quiet_skip
                go_big_quiet_skip
                go_big_quiet_skip
                go_big_quiet_skip
                go_big_quiet_want; (refine quiet_val ?_ ?_ ?_; rotate_left; (intro w; go_simp; rfl); go_simp; go_big_quiet_on)
                refine wpQuiet_nil ?_
                intro V hV
                go_wp2_with fail
                go_meet
                exact ⟨false, rfl, fun h => Bool.noConfusion h, fun _ => HF.out, hV⟩
              · subst hzi
                have HIL : Hid (i < nb) := by have h1 := HNB.out; show _ < _; omega
                obtain ⟨gb, hga, hcb⟩ := HBR.out i _ hbi
                have HGA : Hid (ba = some ⟨gb, 0, none⟩) := HBE.out.trans hga
                have CB : Hid (z1.cell? ⟨gb, i, none⟩ = some (.int .i64 b)) := hcb
                have hba := HGA.out
                subst hba
                have HIN := HIL.out
                have m1 : (i : Int) < (nb : Int) := by omega
                have m2 : 0 ≤ (i : Int) := by omega
                have m3 : ((i : Int)).toNat = i := by omega
                have hbb : 0 ≤ b ∧ b ≤ 1099511627776 := HB0T.out b (List.mem_of_getElem? hbi)
                have w1 : IntKind.i64.wrap (ot - b) = ot - b := W39 b hbb.1 hbb.2
                have b1 : decide (ot - b < qt) = false := by rw [HOTE.out, HQT.out]; exact decide_eq_false (by omega)
                have b1b : ¬ (ot - b < qt) := of_decide_eq_false b1
                clear hbi hlt2 hga hcb HBE hbb
                go_wp2_with fail
                refine wp_region_cls (C := fun w' => Away [] z1 w') (by kernel_rfl) (by kernel_rfl) HC.out ?_
                go_big_quiet_want; (refine quiet_val ?_ ?_ ?_; rotate_left; (intro w; go_simp; rfl); go_simp; go_big_quiet_on)
                go_big_quiet_want; (refine quiet_val ?_ ?_ ?_; rotate_left; (intro w; go_simp; rfl); go_simp; go_big_quiet_on)
                go_big_quiet_want; (refine quiet_val ?_ ?_ ?_; rotate_left; (intro w; go_simp; rfl); go_simp; go_big_quiet_on)
                go_big_quiet_want; (refine quiet_val ?_ ?_ ?_; rotate_left; (intro w; go_simp; rfl); go_simp; go_big_quiet_on)
                go_big_quiet_want; refine quiet_ld _ rfl (ad := ⟨g12, 51, none⟩) rfl (fun w' h => ld2 (h.cell (by simp) C51.out)) ?_; go_simp; go_big_quiet_on
                go_big_quiet_want; (refine quiet_val ?_ ?_ ?_; rotate_left; (intro w; go_simp; rfl); go_simp; go_big_quiet_on)
                go_big_quiet_want; (refine quiet_val ?_ ?_ ?_; rotate_left; (intro w; go_simp; rfl); go_simp; go_big_quiet_on)
                go_big_quiet_want; (refine quiet_val ?_ ?_ ?_; rotate_left; (intro w; go_simp; rfl); go_simp; go_big_quiet_on)
                go_big_quiet_want; refine quiet_ld _ rfl (ad := ⟨gb, i, none⟩) rfl (fun w' h => ld2 (h.cell (by simp) CB.out)) ?_; go_simp; go_big_quiet_on
                go_big_quiet_want; (refine quiet_val ?_ ?_ ?_; rotate_left; (intro w; go_simp; rfl); go_simp; go_big_quiet_on)
                go_big_quiet_want; (refine quiet_val ?_ ?_ ?_; rotate_left; (intro w; go_simp; rfl); go_simp; go_big_quiet_on)
                go_big_quiet_want; refine quiet_ld _ rfl (ad := ⟨g2, 3, none⟩) rfl (fun w' h => ld2 (h.cell (by simp) CQ3.out)) ?_; go_simp; go_big_quiet_on
                go_big_quiet_want; (refine quiet_val ?_ ?_ ?_; rotate_left; (intro w; go_simp; rfl); go_simp; go_big_quiet_on)
                go_big_quiet_want; (refine quiet_val ?_ ?_ ?_; rotate_left; (intro w; go_simp; rfl); go_simp; go_big_quiet_on)
                refine wpQuiet_nil ?_
                intro V hV
                go_wp2_with fail
                go_meet
                exact ⟨false, rfl, fun h => Bool.noConfusion h, fun _ => HF.out, hV⟩
          case rest =>
          as_aux_lemma =>
          obtain ⟨bb, rfl, hbt, hbf, haw⟩ := hcut
          generalize wc = z2 at *
          have HBT := Lib.hid hbt
          have HBF := Lib.hid hbf
          have HA2 := Lib.hid haw
          replace HLJ := Lib.hid (HLJ.out.on haw)
          clear hbt hbf haw c51 HZ HBR HBE
          have HB2 : Hid (BoxO z2 g12 op) := HB.out.on (HWZ.out.trans HA2.out)
          have HWY : Hid (Away [] y10 z2) := HWZ.out.trans HA2.out
          have c51 : z2.cell? ⟨g12, 51, none⟩ = some (.int .i64 ot) := by rw [HOTE.out]; exact HB2.out.t HAP.out
          go_upto_if 214 with fail
          go_cut [22] (fun v wc => v = .int .i64 tb ∧ Away [] z2 wc)
          case first =>
            as_aux_lemma =>
            cases bb with
            | true =>
              obtain ⟨i, gb, rfl, hil, hba, hcb⟩ := HBT.out rfl
              subst hba
              have cb := HA2.out.cell (by simp) hcb
              have m1 : (i : Int) < (nb : Int) := by omega
              have m2 : 0 ≤ (i : Int) := by omega
              have m3 : ((i : Int)).toNat = i := by omega
              clear hil hcb
              go_wp2_with fail
              go_meet
              exact ⟨rfl, Away.refl _ _⟩
            | false =>
              obtain ⟨f1, f2, f3, f4⟩ := HBF.out rfl
              have C0 : Hid (z2.cell? ⟨g12, 0, none⟩ = some (.int .i64 2)) := by have h := HB2.out.k; rw [f1] at h; exact h
              have HRL2 : Hid (z2.rangeAt gl (j * 37) (listK c.s.k)) := range_away HWY.out (by simp) HRL.out
              have HPR : Hid (z2.rangeAt g12 5 (listP op.x.p op.x.o op.x.d)) := HB2.out.row
              have HQK : Hid (∀ w, (Op.equalIn 10000 55 (.agg (csK c.s.k)) (.agg (csK op.x.p))).run Tryz.prog w = .ok true w) := fun w => by have h := eq78 c.s.k op.x.p HAC.out HAP.out w; rw [key_ky, f4] at h; exact h
              have KK2 : Hid (∀ W, Away [] z2 W → Calls Tryz.prog 18 #[.agg (csP op.x.p op.x.o op.x.d)] W fun E w'' => E = .returned (.agg (csK op.x.p)) ∧ Away [] z2 w'') := fun W hW => (lkey_c op.x.p _ _ W HAP.out).mono (fun E w'' h => ⟨h.1, hW.trans h.2⟩)
              have HC : Hid (Away [] z2 z2.drew) := (Away.refl _ _).drew
              have F3 := Lib.hid f3
              have w1 : IntKind.i64.wrap ((nl : Int) - 1) = (nl : Int) - 1 := by rw [IntKind.wrap_i64]; omega
              have b1 : ((j : Int) != (nl : Int) - 1) = false := by rw [bne_eq_false_iff_eq]; omega
              clear f1 f2 f3 f4
              go_wp2_with fail
              refine wp_region_cls (C := fun w' => Away [] z2 w') (by kernel_rfl) (by kernel_rfl) HC.out ?_
              go_big_quiet_want; (refine quiet_val ?_ ?_ ?_; rotate_left; (intro w; go_simp; rfl); go_simp; go_big_quiet_on)
              go_big_quiet_want; refine quiet_ld _ rfl (ad := ⟨g12, 0, none⟩) rfl (fun w' h => ld3 (h.cell (by simp) C0.out)) ?_; go_simp; go_big_quiet_on
              go_big_quiet_want; (refine quiet_val ?_ ?_ ?_; rotate_left; (intro w; go_simp; rfl); go_simp; go_big_quiet_on)
              go_big_quiet_want; (refine quiet_val ?_ ?_ ?_; rotate_left; (intro w; go_simp; rfl); go_simp; go_big_quiet_on)
              go_big_quiet_want; (refine quiet_val ?_ ?_ ?_; rotate_left; (intro w; go_simp; rfl); go_simp; go_big_quiet_on)
              go_big_quiet_want; (refine quiet_val ?_ ?_ ?_; rotate_left; (intro w; go_simp; rfl); go_simp; go_big_quiet_on)
              go_big_quiet_want; (refine quiet_val ?_ ?_ ?_; rotate_left; (intro w; go_simp; rfl); go_simp; go_big_quiet_on)
              go_big_quiet_want; (refine quiet_val ?_ ?_ ?_; rotate_left; (intro w; go_simp; rfl); go_simp; go_big_quiet_on)
              go_big_quiet_want; (refine quiet_val ?_ ?_ ?_; rotate_left; (intro w; go_simp; rfl); go_simp; go_big_quiet_on)
              go_big_quiet_want; (refine quiet_val ?_ ?_ ?_; rotate_left; (intro w; go_simp; rfl); go_simp; go_big_quiet_on)
              go_big_quiet_want; (refine quiet_val ?_ ?_ ?_; rotate_left; (intro w; go_simp; rfl); go_simp; go_big_quiet_on)
              go_big_quiet_want; (refine quiet_val ?_ ?_ ?_; rotate_left; (intro w; go_simp; rfl); go_simp; go_big_quiet_on)
              go_big_quiet_want; (refine quiet_val ?_ ?_ ?_; rotate_left; (intro w; go_simp; rfl); go_simp; go_big_quiet_on)
              go_big_quiet_want; (refine quiet_val ?_ ?_ ?_; rotate_left; (intro w; go_simp; rfl); go_simp; go_big_quiet_on)
              go_big_quiet_want; refine quiet_ld _ rfl (ad := ⟨gl, j * 37, none⟩) rfl (fun w' h => load29_run (range_away h (by simp) HRL2.out) HAC.out) ?_; go_simp; go_big_quiet_on
              go_big_quiet_want; (refine quiet_val ?_ ?_ ?_; rotate_left; (intro w; go_simp; rfl); go_simp; go_big_quiet_on)
              go_big_quiet_want; refine quiet_ld _ rfl (ad := ⟨g12, 5, none⟩) rfl (fun w' h => load28m_run (range_away h (by simp) HPR.out) HAP.out) ?_; go_simp; go_big_quiet_on
              go_big_quiet_want; refine quiet_call 18 #[.agg (csP op.x.p op.x.o op.x.d)] (.agg (csK op.x.p)) ?_ KK2.out ?_
              focus (intro w; go_simp; done)
              go_simp; go_big_quiet_on
              go_big_quiet_want; refine quiet_neK _ _ rfl (csK c.s.k) (csK op.x.p) rfl rfl true HQK.out ?_; go_simp; go_big_quiet_on
              go_big_quiet_want; (refine quiet_val ?_ ?_ ?_; rotate_left; (intro w; go_simp; rfl); go_simp; go_big_quiet_on)
              refine wpQuiet_nil ?_
              intro V hV
              have HV := Lib.hid hV
              clear hV
              go_wp2_with fail
              go_meet
              exact ⟨congrArg (Value.int .i64) F3.out.symm, HV.out⟩
          case rest =>
          as_aux_lemma =>
          obtain ⟨rfl, haw⟩ := hcut
          generalize wc = z3 at *
          replace HWY := Lib.hid (HWY.out.trans haw)
          replace HB2 := Lib.hid (HB2.out.on haw)
          replace HLJ := Lib.hid (HLJ.out.on haw)
          clear haw c51 HA2 HBT HBF HWZ HBz
          have hac := (Away.refl [] z3).alloc (.cells #[.int .i64 tb] 2)
          replace HLJ := Lib.hid (HLJ.out.on hac)
          have HNC : Hid (∀ (i : Nat) (x : Int), [tb][i]? = some x → (z3.alloc (.cells #[.int .i64 tb] 2)).cell? ((⟨z3.heap.size, 0, none⟩ : Addr).add i) = some (.int .i64 x)) := fun i x hi => by
            rw [add_plain, Nat.zero_add, cell_of_block (block_new z3 _)]
            rcases i with _ | i
            · simp at hi; simp [hi]
            · simp at hi
          have HWB := Lib.hid (HWY.out.trans hac)
          clear hac
          go_wp2_with (at_builtin; refine wpList_appJ rfl _ _ rfl (.slice xa j xc) ((cs2.map (·.s.tb)).take j) rfl (by exact HLJ.out) ⟨z3.heap.size, 0, none⟩ 1 1 rfl [tb] rfl (by exact HNC.out) (by rw [List.length_take]; omega) ?_; refine Hid.out ?_)
          refine Lib.hid ?_
          intro v4 z4 hl hgr hmv
          have hA4 : Away (Value.slice xa j xc).ownBlock.toList (z3.alloc (.cells #[.int .i64 tb] 2)) z4 := (Away.refl _ _).grown hgr (fun z hz => .inl (by simp [hz]))
          have HW4 : Hid (Away [] y10 z4) := HWB.out.next hA4 (fun z hz => .inr (HXN.out z (by simpa using hz)))
          have hht : (cs2.map (·.s.tb))[j]? = some tb := by rw [List.getElem?_map, HCJ.out, HTBE.out]; rfl
          have htk : (cs2.map (·.s.tb)).take j ++ [tb] = (cs2.map (·.s.tb)).take (j + 1) := by rw [List.take_add_one, hht]; rfl
          rw [htk] at hl
          have HL4 := Lib.hid hl
          have HX4 : Hid (∀ z, v4.ownBlock = some z → y10.heap.size ≤ z) := fun z hz => by
            rcases hmv z hz with h1 | h1
            · exact HXN.out z h1
            · exact Nat.le_trans HWB.out.size h1
          clear hl hgr hmv hA4 hht htk HLJ HXN HNC
          obtain ⟨xa2, xc2, hv4, hat4⟩ := HL4.out.sl
          obtain ⟨m4, hm4⟩ : ∃ z, z = j + 1 := ⟨_, rfl⟩
          rw [show ((cs2.map (·.s.tb)).take (j + 1)).length = m4 from by rw [List.length_take, List.length_map, hm4]; have h1 := HNL.out; omega] at hv4
          subst hv4
          have HM4 := Lib.hid hm4
          clear hm4 hat4
          have HR4 : Hid (z4.rangeAt gl (j * 37) (listK c.s.k)) := range_away HW4.out (by simp) HRL.out
          go_wp2_with (refine wpList_load29m rfl _ rfl gl (j * 37) rfl c.s.k (by exact HR4.out) HAC.out ?_)
          refine (tholes_c (HW.out.tab.on HW4.out) c.s.k HWC.out).mono ?_
          rintro E z5 ⟨rfl, haw⟩
          replace HL4 := Lib.hid (HL4.out.on haw)
          have HW5 := Lib.hid (HW4.out.trans haw)
          clear haw HR4 HB2 HWY HWB
          obtain ⟨ka1, ka2, ka3, ka4, ka5⟩ := keep_at HW.out.keep HW.out.tab.dist HCJ.out
          obtain ⟨hz, hhz⟩ : ∃ z, z = holesOf cs2 c.s.k := ⟨_, rfl⟩
          rw [← hhz] at ka1 ka2 ⊢
          clear hhz
          go_upto_region 45 with fail
          go_cut [290] (fun v wc => v = .bool false ∧ Away [] z5 wc)
          case first =>
            as_aux_lemma =>
            obtain ⟨qh, hqh⟩ : ∃ z, z = q.h := ⟨_, rfl⟩
            have KA4 := Lib.hid ka4
            have KA5 := Lib.hid ka5
            have HB5 : Hid (BoxO z5 g12 op) := HB.out.on HW5.out
            have C51 : Hid (z5.cell? ⟨g12, 51, none⟩ = some (.int .i64 ot)) := by rw [HOTE.out]; exact HB5.out.t HAP.out
            have CQ2 : Hid (z5.cell? ⟨g2, 2, none⟩ = some (.int .i64 qh)) := by rw [hqh]; exact (HW.out.aw.trans HW5.out).cell (by simp) (cell_of_block HBQ.out 2)
            have CQ4 : Hid (z5.cell? ⟨g2, 3, none⟩ = some (.int .i64 qt)) := by rw [HQT.out]; exact (HW.out.aw.trans HW5.out).cell (by simp) (cell_of_block HBQ.out 3)
            have HR5 : Hid (z5.rangeAt gl (j * 37) (listK c.s.k)) := range_away HW5.out (by simp) HRL.out
            rw [← hqh] at ka2
            have b1 : decide (hz < 0) = false := decide_eq_false (by omega)
            have b2 : decide (qh < hz) = false := decide_eq_false (by omega)
            have w1 : IntKind.i64.wrap (ot - tb) = ot - tb := by have h1 := HTB.out; rw [IntKind.wrap_i64]; omega
            have b3 : decide (qt ≤ ot - tb) = false := by rw [HOTE.out, HTBE.out, HQT.out]; exact decide_eq_false (by omega)
            have n1b : ¬ (hz < 0) := by omega
            have n2b : ¬ (qh < hz) := by omega
            have n3b : ¬ (qt ≤ ot - tb) := of_decide_eq_false b3
            have w2 : IntKind.i64.wrap ((j : Int) + 1) = (m4 : Int) := by rw [IntKind.wrap_i64]; have h1 := HM4.out; omega
            have hm4n : m4 ≤ nl := by have h1 := HM4.out; omega
            have hnlc : nl ≤ lkc := lst_cap HL.out
            have HSL : Hid (∀ wx, (Instr.sliceAt 31 (.slice (some ⟨gl, 0, none⟩) nl lkc) (some (.int .i64 (m4 : Int))) none none).run Tryz.prog wx = .ok (.slice (K.fromA gl lkc m4) (nl - m4) (lkc - m4)) wx) := fun wx => K.slice_l _ _ nl lkc m4 (m4 : Int) (K.fromA_eq gl lkc m4) rfl hm4n wx
            have hrd : RowK z5 (K.fromA gl lkc m4) ((cs2.drop (j + 1)).map (·.s.k)) := by
              rw [List.map_drop, ← HM4.out]
              exact rowK_drop HRW.out HW5.out (by rw [List.length_map]; exact HNL.out.symm) hnlc
            have HRD := Lib.hid hrd
            clear hrd
            have KPL : Hid (∀ W, Away [] z5 W → Calls Tryz.prog 17 #[.slice (K.fromA gl lkc m4) (nl - m4) (lkc - m4), .agg (csK c.s.k)] W fun E w'' => E = .returned (.int .i64 (-1)) ∧ Away [] z5 w'') := fun W hW => by
              refine (place_e W _ ((cs2.drop (j + 1)).map (·.s.k)) (nl - m4) (lkc - m4) c.s.k (HRD.out.on hW) (by rw [List.length_map, List.length_drop, ← HNL.out, HM4.out]) (by omega) (fun x hx => HW.out.tab.keys x (by rw [List.map_drop] at hx; exact List.mem_of_mem_drop hx)) HAC.out).mono ?_
              rintro E w'' ⟨z, rfl, hz, haw⟩
              rw [KA4.out z hz]
              exact ⟨rfl, hW.trans haw⟩
            have HC : Hid (Away [] z5 z5.drew) := (Away.refl _ _).drew
            clear ka1 ka2 ka3 ka4 ka5 hqh
            by_cases hj0 : j = 0
            · have g1 : ¬ ((j : Int) > 0) := by omega
              have g2b : decide (0 < (j : Int)) = false := decide_eq_false (by omega)
              have g1n : ¬ (0 < j) := by omega
              have g3 : decide (0 < j) = false := decide_eq_false g1n
              clear hj0
              go_wp2_with fail
              refine wp_region_cls (C := fun w' => Away [] z5 w') (by kernel_rfl) (by kernel_rfl) HC.out ?_
              go_big_quiet_want; (refine quiet_val ?_ ?_ ?_; rotate_left; (intro w; go_simp; rfl); go_simp; go_big_quiet_on)
              go_big_quiet_want; (refine quiet_val ?_ ?_ ?_; rotate_left; (intro w; go_simp; rfl); go_simp; go_big_quiet_on)
              go_big_quiet_want; (refine quiet_val ?_ ?_ ?_; rotate_left; (intro w; go_simp; rfl); go_simp; go_big_quiet_on)
              go_big_quiet_want; (refine quiet_val ?_ ?_ ?_; rotate_left; (intro w; go_simp; rfl); go_simp; go_big_quiet_on)
              go_big_quiet_want; (refine quiet_val ?_ ?_ ?_; rotate_left; (intro w; go_simp; rfl); go_simp; go_big_quiet_on)
              go_big_quiet_want; refine quiet_ld _ rfl (ad := ⟨g2, 2, none⟩) rfl (fun w' h => ld3 (h.cell (by simp) CQ2.out)) ?_; go_simp; go_big_quiet_on
              go_big_quiet_want; (refine quiet_val ?_ ?_ ?_; rotate_left; (intro w; go_simp; rfl); go_simp; go_big_quiet_on)
              go_big_quiet_want; (refine quiet_val ?_ ?_ ?_; rotate_left; (intro w; go_simp; rfl); go_simp; go_big_quiet_on)
              go_big_quiet_want; (refine quiet_val ?_ ?_ ?_; rotate_left; (intro w; go_simp; rfl); go_simp; go_big_quiet_on)
              go_big_quiet_want; (refine quiet_val ?_ ?_ ?_; rotate_left; (intro w; go_simp; rfl); go_simp; go_big_quiet_on)
              go_big_quiet_want; refine quiet_ld _ rfl (ad := ⟨g12, 51, none⟩) rfl (fun w' h => ld2 (h.cell (by simp) C51.out)) ?_; go_simp; go_big_quiet_on
              go_big_quiet_want; (refine quiet_val ?_ ?_ ?_; rotate_left; (intro w; go_simp; rfl); go_simp; go_big_quiet_on)
              go_big_quiet_want; (refine quiet_val ?_ ?_ ?_; rotate_left; (intro w; go_simp; rfl); go_simp; go_big_quiet_on)
              go_big_quiet_want; (refine quiet_val ?_ ?_ ?_; rotate_left; (intro w; go_simp; rfl); go_simp; go_big_quiet_on)
              go_big_quiet_want; refine quiet_ld _ rfl (ad := ⟨g2, 3, none⟩) rfl (fun w' h => ld2 (h.cell (by simp) CQ4.out)) ?_; go_simp; go_big_quiet_on
              go_big_quiet_want; (refine quiet_val ?_ ?_ ?_; rotate_left; (intro w; go_simp; rfl); go_simp; go_big_quiet_on)
              go_big_quiet_want; (refine quiet_val ?_ ?_ ?_; rotate_left; (intro w; go_simp; rfl); go_simp; go_big_quiet_on)
              go_big_quiet_want; (refine quiet_val ?_ ?_ ?_; rotate_left; (intro w; go_simp; rfl); go_simp; go_big_quiet_on)
              go_big_quiet_want; (refine quiet_val ?_ ?_ ?_; rotate_left; (intro w; go_simp; rfl); go_simp; go_big_quiet_on)
              go_big_quiet_want; (refine quiet_val ?_ ?_ ?_; rotate_left; (intro w; go_simp; rfl); go_simp; go_big_quiet_on)
              go_big_quiet_want; (refine quiet_val ?_ ?_ ?_; rotate_left; (intro w; go_simp; rfl); go_simp; go_big_quiet_on)
              go_big_quiet_want; refine quiet_slK _ _ rfl _ _ rfl rfl HSL.out ?_; go_simp; go_big_quiet_on
              go_big_quiet_want; (refine quiet_val ?_ ?_ ?_; rotate_left; (intro w; go_simp; rfl); go_simp; go_big_quiet_on)
              go_big_quiet_want; (refine quiet_val ?_ ?_ ?_; rotate_left; (intro w; go_simp; rfl); go_simp; go_big_quiet_on)
              go_big_quiet_want; (refine quiet_val ?_ ?_ ?_; rotate_left; (intro w; go_simp; rfl); go_simp; go_big_quiet_on)
              go_big_quiet_want; refine quiet_ld _ rfl (ad := ⟨gl, j * 37, none⟩) rfl (fun w' h => load29_run (range_away h (by simp) HR5.out) HAC.out) ?_; go_simp; go_big_quiet_on
              go_big_quiet_want; refine quiet_call 17 #[.slice (K.fromA gl lkc m4) (nl - m4) (lkc - m4), .agg (csK c.s.k)] (.int .i64 (-1)) ?_ KPL.out ?_
              focus (intro w; go_simp; done)
              go_simp; go_big_quiet_on
              go_big_quiet_want; (refine quiet_val ?_ ?_ ?_; rotate_left; (intro w; go_simp; rfl); go_simp; go_big_quiet_on)
              go_big_quiet_want; (refine quiet_val ?_ ?_ ?_; rotate_left; (intro w; go_simp; rfl); go_simp; go_big_quiet_on)
              go_big_quiet_want; (refine quiet_val ?_ ?_ ?_; rotate_left; (intro w; go_simp; rfl); go_simp; go_big_quiet_on)
              go_big_quiet_want; (refine quiet_val ?_ ?_ ?_; rotate_left; (intro w; go_simp; rfl); go_simp; go_big_quiet_on)
              go_big_quiet_want; (refine quiet_val ?_ ?_ ?_; rotate_left; (intro w; go_simp; rfl); go_simp; go_big_quiet_on)
              go_big_quiet_want; (refine quiet_val ?_ ?_ ?_; rotate_left; (intro w; go_simp; rfl); go_simp; go_big_quiet_on)
              go_big_quiet_skip
              go_big_quiet_skip
              go_big_quiet_skip
              go_big_quiet_skip
              go_big_quiet_skip
              go_big_quiet_skip
              go_big_quiet_skip
              go_big_quiet_want; (refine quiet_val ?_ ?_ ?_; rotate_left; (intro w; go_simp; rfl); go_simp; go_big_quiet_on)
              go_big_quiet_want; (refine quiet_val ?_ ?_ ?_; rotate_left; (intro w; go_simp; rfl); go_simp; go_big_quiet_on)
              refine wpQuiet_nil ?_
              intro V hV
              go_wp2_with fail
              go_meet
              exact ⟨rfl, hV⟩
            · have g1 : (0 : Int) < (j : Int) := by omega
              have g2b : decide (0 < (j : Int)) = true := decide_eq_true (by omega)
              have g1n : 0 < j := by omega
              have g3 : decide (0 < j) = true := decide_eq_true g1n
              obtain ⟨i, hi⟩ : ∃ i : Nat, i + 1 = j := ⟨j - 1, by omega⟩
              obtain ⟨cp, hcp, hcpm⟩ := get_of (xs := cs2) (k := i) (by have h1 := HNL.out; omega)
              have hle := KA5.out i cp (by omega) hcp
              have hgt : ((cs2.map (·.s.tb)).take (j + 1))[i]? = some cp.s.tb := by rw [List.getElem?_take_of_lt (by omega), List.getElem?_map, hcp]; rfl
              obtain ⟨ax, cx, e4, hat4⟩ := HL4.out.sl
              injection e4 with e41 e42 e43
              obtain ⟨gx, hgx, hcx⟩ := hat4 i _ hgt
              have hx2 := e41.trans hgx
              subst hx2
              obtain ⟨tp, htp⟩ : ∃ z, z = cp.s.tb := ⟨_, rfl⟩
              rw [← htp] at hcx hle
              have HCX := Lib.hid hcx
              have w3 : IntKind.i64.wrap ((j : Int) - 1) = (i : Int) := by rw [IntKind.wrap_i64]; omega
              have i1b : (i : Int) < (m4 : Int) := by have h1 := HM4.out; omega
              have i2b : 0 ≤ (i : Int) := by omega
              have i3b : ((i : Int)).toNat = i := by omega
              have b4 : decide (tb < tp) = false := decide_eq_false (by rw [HTBE.out]; omega)
              have n4b : ¬ (tb < tp) := of_decide_eq_false b4
              clear hi hcp hcpm hle hgt e41 e42 e43 hgx hcx htp hat4
              go_wp2_with fail
              refine wp_region_cls (C := fun w' => Away [] z5 w') (by kernel_rfl) (by kernel_rfl) HC.out ?_
              go_big_quiet_want; (refine quiet_val ?_ ?_ ?_; rotate_left; (intro w; go_simp; rfl); go_simp; go_big_quiet_on)
              go_big_quiet_want; (refine quiet_val ?_ ?_ ?_; rotate_left; (intro w; go_simp; rfl); go_simp; go_big_quiet_on)
              go_big_quiet_want; (refine quiet_val ?_ ?_ ?_; rotate_left; (intro w; go_simp; rfl); go_simp; go_big_quiet_on)
              go_big_quiet_want; (refine quiet_val ?_ ?_ ?_; rotate_left; (intro w; go_simp; rfl); go_simp; go_big_quiet_on)
              go_big_quiet_want; (refine quiet_val ?_ ?_ ?_; rotate_left; (intro w; go_simp; rfl); go_simp; go_big_quiet_on)
              go_big_quiet_want; refine quiet_ld _ rfl (ad := ⟨g2, 2, none⟩) rfl (fun w' h => ld3 (h.cell (by simp) CQ2.out)) ?_; go_simp; go_big_quiet_on
              go_big_quiet_want; (refine quiet_val ?_ ?_ ?_; rotate_left; (intro w; go_simp; rfl); go_simp; go_big_quiet_on)
              go_big_quiet_want; (refine quiet_val ?_ ?_ ?_; rotate_left; (intro w; go_simp; rfl); go_simp; go_big_quiet_on)
              go_big_quiet_want; (refine quiet_val ?_ ?_ ?_; rotate_left; (intro w; go_simp; rfl); go_simp; go_big_quiet_on)
              go_big_quiet_want; (refine quiet_val ?_ ?_ ?_; rotate_left; (intro w; go_simp; rfl); go_simp; go_big_quiet_on)
              go_big_quiet_want; refine quiet_ld _ rfl (ad := ⟨g12, 51, none⟩) rfl (fun w' h => ld2 (h.cell (by simp) C51.out)) ?_; go_simp; go_big_quiet_on
              go_big_quiet_want; (refine quiet_val ?_ ?_ ?_; rotate_left; (intro w; go_simp; rfl); go_simp; go_big_quiet_on)
              go_big_quiet_want; (refine quiet_val ?_ ?_ ?_; rotate_left; (intro w; go_simp; rfl); go_simp; go_big_quiet_on)
              go_big_quiet_want; (refine quiet_val ?_ ?_ ?_; rotate_left; (intro w; go_simp; rfl); go_simp; go_big_quiet_on)
              go_big_quiet_want; refine quiet_ld _ rfl (ad := ⟨g2, 3, none⟩) rfl (fun w' h => ld2 (h.cell (by simp) CQ4.out)) ?_; go_simp; go_big_quiet_on
              go_big_quiet_want; (refine quiet_val ?_ ?_ ?_; rotate_left; (intro w; go_simp; rfl); go_simp; go_big_quiet_on)
              go_big_quiet_want; (refine quiet_val ?_ ?_ ?_; rotate_left; (intro w; go_simp; rfl); go_simp; go_big_quiet_on)
              go_big_quiet_want; (refine quiet_val ?_ ?_ ?_; rotate_left; (intro w; go_simp; rfl); go_simp; go_big_quiet_on)
              go_big_quiet_want; (refine quiet_val ?_ ?_ ?_; rotate_left; (intro w; go_simp; rfl); go_simp; go_big_quiet_on)
              go_big_quiet_want; (refine quiet_val ?_ ?_ ?_; rotate_left; (intro w; go_simp; rfl); go_simp; go_big_quiet_on)
              go_big_quiet_want; (refine quiet_val ?_ ?_ ?_; rotate_left; (intro w; go_simp; rfl); go_simp; go_big_quiet_on)
              go_big_quiet_want; refine quiet_slK _ _ rfl _ _ rfl rfl HSL.out ?_; go_simp; go_big_quiet_on
              go_big_quiet_want; (refine quiet_val ?_ ?_ ?_; rotate_left; (intro w; go_simp; rfl); go_simp; go_big_quiet_on)
              go_big_quiet_want; (refine quiet_val ?_ ?_ ?_; rotate_left; (intro w; go_simp; rfl); go_simp; go_big_quiet_on)
              go_big_quiet_want; (refine quiet_val ?_ ?_ ?_; rotate_left; (intro w; go_simp; rfl); go_simp; go_big_quiet_on)
              go_big_quiet_want; refine quiet_ld _ rfl (ad := ⟨gl, j * 37, none⟩) rfl (fun w' h => load29_run (range_away h (by simp) HR5.out) HAC.out) ?_; go_simp; go_big_quiet_on
              go_big_quiet_want; refine quiet_call 17 #[.slice (K.fromA gl lkc m4) (nl - m4) (lkc - m4), .agg (csK c.s.k)] (.int .i64 (-1)) ?_ KPL.out ?_
              focus (intro w; go_simp; done)
              go_simp; go_big_quiet_on
              go_big_quiet_want; (refine quiet_val ?_ ?_ ?_; rotate_left; (intro w; go_simp; rfl); go_simp; go_big_quiet_on)
              go_big_quiet_want; (refine quiet_val ?_ ?_ ?_; rotate_left; (intro w; go_simp; rfl); go_simp; go_big_quiet_on)
              go_big_quiet_want; (refine quiet_val ?_ ?_ ?_; rotate_left; (intro w; go_simp; rfl); go_simp; go_big_quiet_on)
              go_big_quiet_want; (refine quiet_val ?_ ?_ ?_; rotate_left; (intro w; go_simp; rfl); go_simp; go_big_quiet_on)
              go_big_quiet_want; (refine quiet_val ?_ ?_ ?_; rotate_left; (intro w; go_simp; rfl); go_simp; go_big_quiet_on)
              go_big_quiet_want; (refine quiet_val ?_ ?_ ?_; rotate_left; (intro w; go_simp; rfl); go_simp; go_big_quiet_on)
              go_big_quiet_want; (refine quiet_val ?_ ?_ ?_; rotate_left; (intro w; go_simp; rfl); go_simp; go_big_quiet_on)
              go_big_quiet_want; (refine quiet_val ?_ ?_ ?_; rotate_left; (intro w; go_simp; rfl); go_simp; go_big_quiet_on)
              go_big_quiet_want; (refine quiet_val ?_ ?_ ?_; rotate_left; (intro w; go_simp; rfl); go_simp; go_big_quiet_on)
              go_big_quiet_want; (refine quiet_val ?_ ?_ ?_; rotate_left; (intro w; go_simp; rfl); go_simp; go_big_quiet_on)
              go_big_quiet_want; (refine quiet_val ?_ ?_ ?_; rotate_left; (intro w; go_simp; rfl); go_simp; go_big_quiet_on)
              go_big_quiet_want; refine quiet_ld _ rfl (ad := ⟨gx, i, none⟩) rfl (fun w' h => ld2 (h.cell (by simp) HCX.out)) ?_; go_simp; go_big_quiet_on
              go_big_quiet_want; (refine quiet_val ?_ ?_ ?_; rotate_left; (intro w; go_simp; rfl); go_simp; go_big_quiet_on)
              go_big_quiet_want; (refine quiet_val ?_ ?_ ?_; rotate_left; (intro w; go_simp; rfl); go_simp; go_big_quiet_on)
              go_big_quiet_want; (refine quiet_val ?_ ?_ ?_; rotate_left; (intro w; go_simp; rfl); go_simp; go_big_quiet_on)
              refine wpQuiet_nil ?_
              intro V hV
              go_wp2_with fail
              go_meet
              exact ⟨rfl, hV⟩
          case rest =>
          as_aux_lemma =>
          obtain ⟨rfl, haw⟩ := hcut
          generalize wc = z6 at *
          replace HL4 := Lib.hid (HL4.out.on haw)
          have HW6 := Lib.hid (HW5.out.trans haw)
          have hm4 := HM4.out
          clear haw
          subst hm4
          go_wp2_with fail
          go_roundw
          case rel => exact ⟨j + 1, xa2, xc2, rfl, by go_num, by omega, HL4.out, HW6.out, HX4.out⟩
          case measure => simp [intOf]; omega
        · obtain rfl : j = nl := by omega
          have i1 : ¬ ((j : Int) < (j : Int)) := by omega
          have htk : (cs2.map (·.s.tb)).take j = cs2.map (·.s.tb) := List.take_of_length_le (by rw [List.length_map, ← HNL.out]; exact Nat.le_refl _)
          have hlj2 := HLJ.out
          rw [htk] at hlj2
          replace HLJ := Lib.hid hlj2
          clear hlj2 htk
          have hac := (Away.refl [] wr).alloc (.cells #[] 55)
          have HWB := Lib.hid (HWA.out.trans hac)
          replace HLJ := Lib.hid (HLJ.out.on hac)
          have HLK : Hid (K.LstK (wr.alloc (.cells #[] 55)) (.slice lka j lkc) (cs2.map (·.s.k))) := HL.out.on HWB.out
          have HSA : Hid (wr.heap.size < (wr.alloc (.cells #[] 55)).heap.size) := lt_of_block (block_new wr (.cells #[] 55))
          have HLO : Hid (∀ z, (Value.slice xa j xc).ownBlock = some z → z ≠ wr.heap.size) := fun z hz e => by have h1 := HLJW.out z hz; omega
          clear hac
          go_wp2_with (at_builtin; refine wpList_appKK rfl _ _ rfl (.slice (some ⟨wr.heap.size, 0, none⟩) 0 0) (.slice lka j lkc) [] (cs2.map (·.s.k)) rfl rfl (by exact (show K.Blk (wr.alloc (.cells #[] 55)) wr.heap.size 0 [] from ⟨block_new _ _, rfl⟩).lst (by simp) (by unfold maxLen; omega) rfl (Nat.le_refl _) rfl) (by exact HLK.out) (by exact HW.out.tab.keys) (by rw [List.length_map, ← HNL.out]; simp; omega) ?_; refine Hid.out ?_)
          refine Lib.hid ?_
          intro v5 z6 hl hgr hmv
          try rw [List.nil_append] at hl
          have hA4 : Away [wr.heap.size] (wr.alloc (.cells #[] 55)) z6 := (Away.refl _ _).grown hgr (fun z hz => .inl (by simpa [Value.ownBlock] using hz.symm))
          have HW6 : Hid (Away [] y10 z6) := HWB.out.next hA4 (fun z hz => .inr (by simp at hz; rw [hz]; exact HWA.out.size))
          have HLF : Hid (LJ z6 (.slice xa j xc) (cs2.map (·.s.tb))) := HLJ.out.away hA4 (fun z hz e => by simp at e; exact HLO.out z hz e)
          obtain ⟨ka5, kc5, hv5, -⟩ := shapeK hl HW.out.tab.keys
          rw [List.length_map, ← HNL.out] at hv5
          subst hv5
          have HKF := Lib.hid hl
          have HFL : Hid (∀ z ∈ fpT gt mb ov2 cs2, z < y10.heap.size) := HW.out.tab.lt
          have HS0 : Hid (w4.heap.size ≤ y10.heap.size) := HW.out.aw.size
          have HWS : Hid (y10.heap.size ≤ wr.heap.size) := HWA.out.size
          have HK5 : Hid (∀ z, (Value.slice ka5 j kc5).ownBlock = some z → w4.heap.size ≤ z ∧ z ∉ fpT gt mb ov2 cs2) := fun z hz => by
            have h0 : wr.heap.size ≤ z := by
              rcases hmv z hz with h1 | h1
              · simp [Value.ownBlock] at h1; omega
              · have h2 := HSA.out; omega
            have h1 := HS0.out; have h2 := HWS.out
            exact ⟨by omega, fun hm => by have h3 := HFL.out z hm; omega⟩
          have HB5 : Hid (∀ z, (Value.slice xa j xc).ownBlock = some z → w4.heap.size ≤ z ∧ z ∉ fpT gt mb ov2 cs2) := fun z hz => by
            have h0 := HXN.out z hz; have h1 := HS0.out
            exact ⟨by omega, fun hm => by have h3 := HFL.out z hm; omega⟩
          have HFIN := Lib.hid ((HW.out.on HW6.out).book HRQ.out HKF.out HLF.out HK5.out HB5.out)
          clear hl hgr hmv hA4
          go_wp2_with fail
          go_roundw
          case rel => exact ⟨k + 1, op.t, cs2, ov2, ka5, kc5, xa, xc, j, rfl, rfl, rfl, by go_num, HNL.out, by omega, HFIN.out⟩
          case measure => simp [intOf]; omega
    · obtain rfl : k = n1 := by omega
      have j1 : ¬ ((k : Int) < (k : Int)) := by omega
      have HF := Lib.hid (HA.out.trans HW.out.aw)
      go_wp2_with fail
      go_ret
      exact ⟨rfl, HF.out.to_below⟩
end tableWithin
namespace tableWithin
theorem contract (H : Type) (enc : TypeId × Value → H) (W : World) (base : Nat) (args : Array Value) (ds gs : List (DataW H)) (before : List MemPlace)
    (hval0 : ∀ (j : Nat) t v, Tryz.f3.params[j]? = some t → args[j]? = some v → Value.okWide Tryz.prog W .any base t v)
    (hW : DataW.Whole enc Tryz.prog Tryz.f3.params.toList Rows.tableWithinSpec.vars false W args.toList ds gs before)
    (hsz0 : (DataW.weightsEach Tryz.prog (Tryz.f3.params.toList ++ Rows.tableWithinSpec.plain.varTypes Tryz.prog) (ds ++ gs)).all (· ≤ reachBytes) = true)
    (hL : laidMetH Tryz.prog Rows.tableWithinRow.laid W) :
    Calls Tryz.prog 3 args W fun e W' => ∃ v, e = .returned v ∧ Rows.tableWithinSpec.post enc Tryz.prog Tryz.f3 false true false false W args v W' := by
  have hval := hval0
  have hsz := hsz0
  have hW' := hW
  obtain ⟨p, q, hA0, hV, rfl, hfz, hnd⟩ := hW
  have hA : DataW.TrodAll enc Tryz.prog W 0 (fun _ => true) true Tryz.f3.params.toList args.toList ds p := hA0
  rw [Tryz.params3] at hA hval hsz
  obtain ⟨v0, vs0, d0, ds0, p0, q0, hargs, rfl, rfl, h0, r0⟩ := trodAll_cons hA
  obtain ⟨v1, vs1, d1, ds1, p1, q1, rfl, rfl, rfl, h1, r1⟩ := trodAll_cons r0
  obtain ⟨rfl, rfl, rfl⟩ := trodAll_nil r1
  obtain rfl : args = #[v0, v1] := by cases args; simp_all
  obtain ⟨rfl, rfl⟩ := trodVars_none hV
  have k0 := h0
  have lt0 : ∀ x ∈ p0, x.block < W.heap.size := by obtain ⟨m, hm⟩ := k0; exact DataW.trod_lt m _ _ _ hm
  have z0 : ∀ m ∈ d0.weights Tryz.prog 23, m ≤ reachBytes := fun m hm => by
    have := List.all_eq_true.1 hsz m (DataW.weights_mem_each (j := 0) (t := 23) rfl rfl m hm)
    simpa using this
  obtain ⟨x0, rfl, w0⟩ := open_quo (hval 0 23 v0 rfl rfl) h0
  have k1 := h1
  have lt1 : ∀ x ∈ p1, x.block < W.heap.size := by obtain ⟨m, hm⟩ := k1; exact DataW.trod_lt m _ _ _ hm
  have z1 : ∀ m ∈ d1.weights Tryz.prog 24, m ≤ reachBytes := fun m hm => by
    have := List.all_eq_true.1 hsz m (DataW.weights_mem_each (j := 1) (t := 24) rfl rfl m hm)
    simpa using this
  obtain ⟨a1, len1, cap1, rfl⟩ := okWide_slice Tryz.underlying24 (hval 1 24 v1 rfl rfl)
  obtain ⟨xs1, hl1, hb1, he1, hr1⟩ := open_ops h1 z1
  clear hA0 hval0
  refine (walk x0 a1 xs1 len1 cap1 W (glob_of hL) w0 hl1 hb1 he1 hr1).mono fun e W' ⟨he, bel⟩ => ?_
  subst he
  exact ⟨_, rfl, _, _, _, [], _, [], hW', trodAll_mk1 (shut_bool Tryz.underlying4 _), (trodAll_cons_mk (Below.trod laidOut (by kernel_rfl) (of_decide_eq_true (by kernel_rfl)) k0 bel lt0) (trodAll_cons_mk (Below.trod laidOut (by kernel_rfl) (of_decide_eq_true (by kernel_rfl)) k1 bel lt1) trodAll_mk0)), rfl, bel.frame _, fun h => by cases h⟩
theorem laid_met (os : Os) : laidMet Tryz.prog Rows.tableWithinRow.laid ((laidWorld Tryz.prog os).forCall (fun _ _ => 0) ⟨#[], #[.agg #[.int .i64 0, .int .i64 0, .int .i64 0, .int .i64 0], .slice none 0 0], []⟩).memory :=
  laidMet_of_run' 8 (by kernel_rfl) (by kernel_rfl)
theorem reads (os : Os) {H : Type} (enc : TypeId × Value → H) : ∃ places, DataW.whole enc Tryz.prog ((laidWorld Tryz.prog os).forCall (fun _ _ => 0) ⟨#[], #[.agg #[.int .i64 0, .int .i64 0, .int .i64 0, .int .i64 0], .slice none 0 0], []⟩).memory Tryz.f3.params.toList Rows.tableWithinSpec.vars false #[.agg #[.int .i64 0, .int .i64 0, .int .i64 0, .int .i64 0], .slice none 0 0].toList 8 = some ([.agg [.lit (.int .i64 0), .lit (.int .i64 0), .lit (.int .i64 0), .lit (.int .i64 0)], .nil], [], places) :=
  ⟨[], by kernel_rfl⟩
theorem lifted (os : Os) (started : os.Started) (H : Type) (enc : TypeId × Value → H) (F : Stop.Interp) :
    ReturnsInHanded {} Tryz.checked os 3 .any ((OpenSpec.ofChange Rows.tableWithinSpec).preRow enc Tryz.prog Tryz.f3 Rows.tableWithinRow.domain false Rows.tableWithinRow.laid) (((OpenSpec.ofChange Rows.tableWithinSpec).at F).post enc Tryz.prog Tryz.f3 false true false false) := by
  obtain ⟨places, hx⟩ := reads os enc
  refine returnsInHanded_of_row (C := Tryz.checked) (s := OpenSpec.ofChange Rows.tableWithinSpec) ownKn started (by kernel_rfl) Tryz.func3
    (witness_row_at (enc := enc) (C := Tryz.checked) false (laidWorld Tryz.prog os) #[.agg #[.int .i64 0, .int .i64 0, .int .i64 0, .int .i64 0], .slice none 0 0] rfl (by kernel_rfl) (by kernel_rfl) (by kernel_rfl)
      (OpenSpec.preRow_of_cond 8 hx (by kernel_rfl) (fun k hk => by cases hk) (by kernel_rfl) (laid_met os))) ?_
  intro W base args ds gs before hval hW _ hcond hsz hL hS _
  exact contract H enc W base args ds gs before hval hW hsz hL
theorem said : Rows.TableWithinSaid :=
  OpenClaim.holds_of_cond 3 Tryz.f3 rfl rfl rfl rfl rfl rfl rfl ⟨rfl, rfl, rfl, rfl, rfl⟩ rfl rfl rfl rfl rfl (by kernel_rfl) Tryz.func3 (by kernel_rfl)
    (of_decide_eq_true (by kernel_rfl)) (by unfold Func.isWrapper; first | (rw [if_pos (by decide +kernel)]; kernel_rfl) | (rw [if_neg (by decide +kernel)]; exact ⟨rfl, rfl⟩))
    (fun os started H enc _ F => by rw [OpenClaim.pre_eq_preRow]; exact lifted os started H enc F)
theorem plain (f : FuncId) (fn : Func) (hf : Tryz.pinned.checked.prog.funcNamed "mosaic/mosaiclaw15.TableWithin" = some f) (hfn : Tryz.pinned.checked.prog.funcs[f]? = some fn) :
    false = Tryz.pinned.checked.prog.looks [] ∧ ∀ (j : Nat) t, fn.params[j]? = some t → Tryz.pinned.checked.prog.wantsStandIn t = false := by
  obtain rfl : f = 3 := Option.some.inj ((show Tryz.prog.funcNamed "mosaic/mosaiclaw15.TableWithin" = some 3 by kernel_rfl).symm.trans hf) |>.symm
  obtain rfl : fn = Tryz.f3 := (Option.some.inj (Tryz.func3.symm.trans hfn)).symm
  refine ⟨by kernel_rfl, fun j t ht => ?_⟩
  rw [Tryz.params3] at ht
  have hm := Array.mem_of_getElem? ht
  simp only [List.mem_toArray, List.mem_cons, List.not_mem_nil, or_false] at hm
  have hw0 : Tryz.prog.wantsStandIn 23 = false := by kernel_rfl
  have hw1 : Tryz.prog.wantsStandIn 24 = false := by kernel_rfl
  rcases hm with rfl | rfl
  all_goals first | exact hw0 | exact hw1
theorem card : Rows.TableWithinCardSaid :=
  Claim7.holds_tied_plain_at .later [] _ _ _ _ said (fun _ h => by cases h) (by kernel_rfl) (fun _ h => by cases h) tableWithin_row_tie rfl ⟨rfl, rfl⟩ (by kernel_rfl) rfl plain (by kernel_rfl)
end tableWithin
theorem tableWithin_holds : Rows.TableWithinCardSaid := tableWithin.card
end Go.Proofs.YtkccpidgeecemaaGreatDoor
