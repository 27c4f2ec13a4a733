/-
  The document: fits.
-/
import Derived.Test.YtaicckenpplceaaGreatDoorDa11
import Derived.Deep.CutBlock
import Derived.Deep.DeepCutAuto
namespace Go.Proofs.YtaicckenpplceaaGreatDoor
open Go.ChangeShapes Go.WideShapes Go.ChangeAt Go.RowKit Num
open S6 (wp_region_cls quiet_val quiet_call quiet_ld ld3 ld4 ld5 ld25 ld26 load28_run load24m_run)
set_option linter.unusedVariables false
set_option linter.unusedSimpArgs false
set_option maxHeartbeats 16000000
set_option maxRecDepth 100000

namespace R
theorem one_same : ∀ (l : List Pk), l.Pairwise OneEnd → ∀ p ∈ l, ∀ q ∈ l, p.more = false → q.more = false → p = q
  | [], _, p, hp, _, _, _, _ => absurd hp (by simp)
  | x :: r, h, p, hp, q, hq, mp, mq => by
    rw [List.pairwise_cons] at h
    rcases List.mem_cons.1 hp with rfl | hp'
    · rcases List.mem_cons.1 hq with rfl | hq'
      · rfl
      · exact absurd ⟨mp, mq⟩ (h.1 q hq')
    · rcases List.mem_cons.1 hq with rfl | hq'
      · exact absurd ⟨mq, mp⟩ (h.1 p hp')
      · exact one_same r h.2 p hp' q hq' mp mq
/-- So far the packets are right, of one key, and apart; their end is e. -/
structure FitI (l : List Pk) (hd : Pk) (e : Int) : Prop where
  r : ∀ x ∈ l, rgtP x = true ∧ keyB x hd = true
  lap : l.Pairwise NoLap
  one : l.Pairwise OneEnd
  en : EndIs l e
theorem FitI.nil (hd : Pk) : FitI [] hd (-1) := ⟨by simp, .nil, .nil, .inl ⟨rfl, by simp⟩⟩
theorem FitI.lo {l : List Pk} {hd : Pk} {e : Int} (h : FitI l hd e) : -1 ≤ e ∧ e ≤ 65535 := by
  rcases h.en with ⟨a, _⟩ | ⟨p, hp, _, a⟩
  · omega
  · have := rgt_off (h.r p hp).1; omega
theorem FitI.snoc {l : List Pk} {hd x : Pk} {e : Int} (h : FitI l hd e) (hr : rgtP x = true) (hk : keyB x hd = true) (hl : ∀ y ∈ l, NoLap y x) (he : x.more = false → e < 0) : FitI (l ++ [x]) hd (if x.more = true then e else x.off + x.d.length) := by
  have hall : e < 0 → ∀ y ∈ l, y.more = true := fun h0 => by
    rcases h.en with ⟨_, b⟩ | ⟨p, hp, _, a⟩
    · exact b
    · have := rgt_off (h.r p hp).1; omega
  refine ⟨fun y hy => ?_, List.pairwise_append.2 ⟨h.lap, List.pairwise_singleton _ _, fun y hy z hz => ?_⟩, List.pairwise_append.2 ⟨h.one, List.pairwise_singleton _ _, fun y hy z hz => ?_⟩, ?_⟩
  · rcases List.mem_append.1 hy with hy | hy
    · exact h.r y hy
    · simp at hy; subst hy; exact ⟨hr, hk⟩
  · simp at hz; subst hz; exact hl y hy
  · simp at hz; subst hz
    intro ⟨a, b⟩
    have := hall (he b) y hy
    rw [a] at this; simp at this
  · cases hm : x.more
    · rw [if_neg (by simp)]
      exact .inr ⟨x, by simp, hm, rfl⟩
    · rw [if_pos rfl]
      rcases h.en with ⟨a, b⟩ | ⟨p, hp, a, b⟩
      · refine .inl ⟨a, fun y hy => ?_⟩
        rcases List.mem_append.1 hy with hy | hy
        · exact b y hy
        · simp at hy; subst hy; exact hm
      · exact .inr ⟨p, by simp [hp], a, b⟩
/-- What fits tells. -/
def FitsOut (w : World) (l : List Pk) (E : Ending) (w' : World) : Prop :=
  ∃ (e : Int) (b : Bool), E = .returned (.tuple #[.int .i64 e, .bool b]) ∧ Away [] w w' ∧ (b = true → akinL l = true ∧ Good l ∧ EndIs l e) ∧ (b = false → ¬ (akinL l = true ∧ Good l))
theorem akin_iff {l : List Pk} {hd : Pk} (hh : ∀ x, l[0]? = some x → x = hd) : akinL l = true ↔ ∀ x ∈ l, rgtP x = true ∧ keyB x hd = true := by
  cases l with
  | nil => simp [akinL]
  | cons y r =>
    have := hh y rfl
    subst this
    show (y :: r).all (likeB y) = true ↔ _
    rw [List.all_eq_true]
    unfold likeB
    simp only [Bool.and_eq_true]
theorem pair_at {l : List Pk} {R : Pk → Pk → Prop} (h : l.Pairwise R) {k i : Nat} {x y : Pk} (hk : k < i) (hx : l[k]? = some x) (hy : l[i]? = some y) : R x y := by
  have h1 := lt_of_get hx; have h2 := lt_of_get hy
  have := List.pairwise_iff_getElem.1 h k i h1 h2 hk
  rw [List.getElem?_eq_getElem h1] at hx
  rw [List.getElem?_eq_getElem h2] at hy
  simp at hx hy
  rw [← hx, ← hy]; exact this
theorem take_snoc' {α : Type} {l : List α} {i : Nat} {x : α} (h : l[i]? = some x) : l.take (i + 1) = l.take i ++ [x] := by
  have h1 := lt_of_get h
  have h2 : l[i] = x := by rw [List.getElem?_eq_getElem h1] at h; simpa using h
  rw [List.take_succ_eq_append_getElem h1, h2]
theorem fits_c' (a : Option Addr) (xs : List X) (n cap : Nat) (w : World) (hn : xs.length = n) (hx : Pks w a xs) :
    Calls Tryz.prog 19 #[.slice a n cap] w fun E w' => FitsOut w (xs.map X.p) E w' := by
  have HX := Lib.hid hx; have HL := Lib.hid hn
  have hNb : n ≤ 925904528640 := by rw [← hn]; exact hx.1
  have HML : Hid ((xs.map X.p).length = n) := by show _ = _; rw [List.length_map]; exact hn
  obtain ⟨hd, hhd⟩ : ∃ hd : X, ∀ x, xs[0]? = some x → x = hd := by
    cases xs with
    | nil => exact ⟨⟨zeroPk, undef, undef⟩, by simp⟩
    | cons y r => exact ⟨y, by simp⟩
  have HHD := Lib.hid hhd
  have HHP : Hid (∀ x, (xs.map X.p)[0]? = some x → x = hd.p) := fun x hx => by
    rw [List.getElem?_map] at hx
    cases h0 : xs[0]? with
    | none => rw [h0] at hx; simp at hx
    | some y => rw [h0] at hx; simp at hx; rw [← hx, hhd y h0]
  clear hx hn hhd
  go_enter Tryz.func19, Tryz.ntmps19
  go_wp2_with fail
  go_loopw [4, 5] (fun ev iv wr => ∃ (i : Nat) (e : Int), ev = .int .i64 e ∧ iv = .int .i64 (i : Int) ∧ i ≤ n ∧ FitI ((xs.map X.p).take i) hd.p e ∧ Away [] w wr) (fun _ iv _ => n - (intOf iv).toNat)
  case atStart => exact ⟨0, -1, rfl, rfl, by omega, by simpa using FitI.nil hd.p, Away.refl _ _⟩
  case round =>
    obtain ⟨i, e, rfl, rfl, hi, hfi, haw⟩ := hrel
    obtain ⟨wo, hwo⟩ : ∃ z, z = wr := ⟨_, rfl⟩
    subst hwo
    have HF := Lib.hid hfi; have HAW := Lib.hid haw
    have he := hfi.lo
    clear hfi haw
    by_cases hiN : i < n
    · obtain ⟨x, hxi, hxm⟩ := get_of (show i < xs.length by rw [HL.out]; exact hiN)
      obtain ⟨x0, hx0, hxm0⟩ := get_of (show 0 < xs.length by rw [HL.out]; omega)
      obtain rfl := HHD.out x0 hx0
      obtain ⟨b0, o0, ha0, r0, k0⟩ := HX.out.at hx0
      subst ha0
      obtain ⟨b1, o1, ha1, r1, k1⟩ := HX.out.at hxi
      obtain ⟨rfl, rfl⟩ : b0 = b1 ∧ o0 = o1 := by simp only [Option.some.injEq, Addr.mk.injEq, and_true] at ha1; exact ha1
      have hpi : (xs.map X.p)[i]? = some x.p := by rw [List.getElem?_map, hxi]; rfl
      have HPI := Lib.hid hpi
      have HPM : Hid (x.p ∈ xs.map X.p) := List.mem_map.2 ⟨x, hxm, rfl⟩
      obtain ⟨q, xo, xd⟩ := x
      obtain ⟨h, yo, yd⟩ := x0
      simp only at HPI HPM
      have HQA := Lib.hid k1.wf.ad
      have HHA := Lib.hid k0.wf.ad
      have HQP : Hid (Pkt w q xo xd) := k1
      have HH0 : Hid (Pkt w h yo yd) := k0
      have R1 : Hid (∀ w', Away [] wo w' → w'.rangeAt b0 (o0 + i * 46) (listP q xo xd)) := fun w' h => range_away (HAW.out.trans h) (by simp) r1
      have R0 : Hid (∀ w', Away [] wo w' → w'.rangeAt b0 o0 (listP h yo yd)) := fun w' h => by
        have := range_away (HAW.out.trans h) (by simp) r0
        simpa [X.cells] using this
      have KR : Hid (∀ w', Away [] wo w' → Calls Tryz.prog 22 #[.agg (csP q xo xd)] w' fun E w'' => E = .returned (.bool (rgtP q)) ∧ Away [] wo w'') := fun w' hw => (dright_c q xo xd w' (HQP.out.on (HAW.out.trans hw))).mono (by rintro E w9 ⟨rfl, h2⟩; exact ⟨rfl, hw.trans h2⟩)
      have KA : Hid (∀ w', Away [] wo w' → Calls Tryz.prog 35 #[.agg (csP q xo xd), .agg (csP h yo yd)] w' fun E w'' => E = .returned (.bool (keyB q h)) ∧ Away [] wo w'') := fun w' hw => (alike_c q h xo xd yo yd w' (HQP.out.on (HAW.out.trans hw)) (HH0.out.on (HAW.out.trans hw))).mono (by rintro E w9 ⟨rfl, h2⟩; exact ⟨rfl, hw.trans h2⟩)
      obtain ⟨br, hbr⟩ : ∃ b, b = rgtP q := ⟨_, rfl⟩
      rw [← hbr] at KR
      have HBR := Lib.hid hbr
      obtain ⟨bk, hbk⟩ : ∃ b, b = keyB q h := ⟨_, rfl⟩
      rw [← hbk] at KA
      have HBK := Lib.hid hbk
      have j0 : 0 ≤ (i : Int) := by omega
      have j1 : (i : Int) < (n : Int) := by omega
      have j2 : ((i : Int)).toNat = i := by omega
      have jn : (0 : Int) < (n : Int) := by omega
      have jn2 : 0 < n := by omega
      have HCC : Hid (Away [] wo wo.drew) := (Away.refl [] wo).drew
      clear hxi hx0 hxm hxm0 r0 r1 k0 k1 ha1 hbr hbk hpi
      cases br
      · have HNO : Hid (¬ (akinL (xs.map X.p) = true ∧ Good (xs.map X.p))) := fun hh => by
          have := akin_right hh.1 q HPM.out
          rw [← HBR.out] at this; simp at this
        go_wp2_with fail
        refine wp_region_cls (C := (fun w' => Away [] wo w')) (by kernel_rfl) (by kernel_rfl) (by exact HCC.out) ?_
        repeat (first
          | go_big_quiet_skip
          | (go_big_quiet_want
             first
               | (refine quiet_call 22 #[.agg (csP q xo xd)] (.bool false) ?_ KR.out ?_; (focus (intro w; go_simp; done)); go_simp; go_big_quiet_on)
               | (refine quiet_ix32 _ _ rfl b0 o0 n cap i _ rfl rfl rfl (by omega) ?_; go_simp; go_big_quiet_on)
               | (refine quiet_ix32 _ _ rfl b0 o0 n cap 0 _ rfl rfl rfl (by omega) ?_; go_simp; go_big_quiet_on)
               | (refine quiet_ld _ rfl (ad := ⟨b0, o0 + i * 46, none⟩) rfl (fun w' h => load28m_run (R1.out w' h) HQA.out) ?_; go_simp; go_big_quiet_on)
               | (refine quiet_ld _ rfl (ad := ⟨b0, o0, none⟩) rfl (fun w' h => load28m_run (R0.out w' h) HHA.out) ?_; go_simp; go_big_quiet_on)
               | (go_big_quiet_op; go_big_quiet_on)
               | (refine quiet_val ?_ ?_ ?_
                  rotate_left
                  · intro w; go_simp; rfl
                  go_simp; go_big_quiet_on)))
        refine wpQuiet_nil ?_
        intro V hV
        have HV := Lib.hid hV
        clear hV
        go_wp2_with fail
        go_ret2
        exact ⟨_, _, rfl, HAW.out.trans HV.out, by simp, fun _ hh => HNO.out hh⟩
      cases bk
      · have HNO : Hid (¬ (akinL (xs.map X.p) = true ∧ Good (xs.map X.p))) := fun hh => by
          have := (((akin_iff HHP.out).1 hh.1) q HPM.out).2
          rw [← HBK.out] at this; simp at this
        go_wp2_with fail
        refine wp_region_cls (C := (fun w' => Away [] wo w')) (by kernel_rfl) (by kernel_rfl) (by exact HCC.out) ?_
        repeat (first
          | go_big_quiet_skip
          | (go_big_quiet_want
             first
               | (refine quiet_call 22 #[.agg (csP q xo xd)] (.bool true) ?_ KR.out ?_; (focus (intro w; go_simp; done)); go_simp; go_big_quiet_on)
               | (refine quiet_call 35 #[.agg (csP q xo xd), .agg (csP h yo yd)] (.bool false) ?_ KA.out ?_; (focus (intro w; go_simp; done)); go_simp; go_big_quiet_on)
               | (refine quiet_ix32 _ _ rfl b0 o0 n cap i _ rfl rfl rfl (by omega) ?_; go_simp; go_big_quiet_on)
               | (refine quiet_ix32 _ _ rfl b0 o0 n cap 0 _ rfl rfl rfl (by omega) ?_; go_simp; go_big_quiet_on)
               | (refine quiet_ld _ rfl (ad := ⟨b0, o0 + i * 46, none⟩) rfl (fun w' h => load28m_run (R1.out w' h) HQA.out) ?_; go_simp; go_big_quiet_on)
               | (refine quiet_ld _ rfl (ad := ⟨b0, o0, none⟩) rfl (fun w' h => load28m_run (R0.out w' h) HHA.out) ?_; go_simp; go_big_quiet_on)
               | (go_big_quiet_op; go_big_quiet_on)
               | (refine quiet_val ?_ ?_ ?_
                  rotate_left
                  · intro w; go_simp; rfl
                  go_simp; go_big_quiet_on)))
        refine wpQuiet_nil ?_
        intro V hV
        have HV := Lib.hid hV
        clear hV
        go_wp2_with fail
        go_ret2
        exact ⟨_, _, rfl, HAW.out.trans HV.out, by simp, fun _ hh => HNO.out hh⟩
      go_wp2_with fail
      refine wp_region_cls (C := (fun w' => Away [] wo w')) (by kernel_rfl) (by kernel_rfl) (by exact HCC.out) ?_
      repeat (first
        | go_big_quiet_skip
        | (go_big_quiet_want
           first
             | (refine quiet_call 22 #[.agg (csP q xo xd)] (.bool true) ?_ KR.out ?_; (focus (intro w; go_simp; done)); go_simp; go_big_quiet_on)
             | (refine quiet_call 35 #[.agg (csP q xo xd), .agg (csP h yo yd)] (.bool true) ?_ KA.out ?_; (focus (intro w; go_simp; done)); go_simp; go_big_quiet_on)
             | (refine quiet_ix32 _ _ rfl b0 o0 n cap i _ rfl rfl rfl (by omega) ?_; go_simp; go_big_quiet_on)
             | (refine quiet_ix32 _ _ rfl b0 o0 n cap 0 _ rfl rfl rfl (by omega) ?_; go_simp; go_big_quiet_on)
             | (refine quiet_ld _ rfl (ad := ⟨b0, o0 + i * 46, none⟩) rfl (fun w' h => load28m_run (R1.out w' h) HQA.out) ?_; go_simp; go_big_quiet_on)
             | (refine quiet_ld _ rfl (ad := ⟨b0, o0, none⟩) rfl (fun w' h => load28m_run (R0.out w' h) HHA.out) ?_; go_simp; go_big_quiet_on)
             | (go_big_quiet_op; go_big_quiet_on)
             | (refine quiet_val ?_ ?_ ?_
                rotate_left
                · intro w; go_simp; rfl
                go_simp; go_big_quiet_on)))
      refine wpQuiet_nil ?_
      intro V hV
      have HV := Lib.hid hV
      replace HAW := Lib.hid (HAW.out.trans hV)
      clear hV KR KA R0 HCC
      have hqo := rgt_off HBR.out.symm
      have cq : V.cell? ⟨b0, o0 + i * 46 + 41, none⟩ = some (.bool q.more) := (R1.out V HV.out) 41 _ (listP_fld HQA.out xo xd).1
      obtain ⟨qm, hqm⟩ : ∃ z, z = q.more := ⟨_, rfl⟩
      rw [← hqm] at cq
      have HQM := Lib.hid hqm
      clear hqm
      obtain ⟨e', he'⟩ : ∃ e' : Int, e' = (if q.more = true then e else q.off + q.d.length) := ⟨_, rfl⟩
      have HEE := Lib.hid he'
      clear he'
      by_cases hee : q.more = false ∧ 0 ≤ e
      · have HNO : Hid (¬ (akinL (xs.map X.p) = true ∧ Good (xs.map X.p))) := fun hh => by
          rcases HF.out.en with ⟨a, _⟩ | ⟨p, hp, hm, _⟩
          · omega
          · obtain ⟨k, hk, hpk⟩ := List.getElem_of_mem hp
            have hk' : k < i := by rw [List.length_take] at hk; omega
            have hpk' : (xs.map X.p)[k]? = some p := by
              rw [List.getElem_take] at hpk
              rw [List.getElem?_eq_getElem (by rw [List.length_take] at hk; omega), hpk]
            exact pair_at hh.2.one hk' hpk' HPI.out ⟨hm, hee.1⟩
        obtain rfl : qm = false := by rw [HQM.out]; exact hee.1
        have h0e := hee.2
        clear hee
        go_wp2_with fail
        go_ret2
        exact ⟨_, _, rfl, HAW.out, by simp, fun _ hh => HNO.out hh⟩
      have HNE : Hid (q.more = false → e < 0) := fun hm => by
        rcases Int.lt_or_le e 0 with h0 | h0
        · exact h0
        · exact absurd ⟨hm, h0⟩ hee
      have hee' : -1 ≤ e' ∧ e' ≤ 65535 := by
        rw [HEE.out]; split
        · exact he
        · omega
      clear hee
      obtain ⟨wV, hwV⟩ : ∃ z, z = V := ⟨_, rfl⟩
      subst hwV
      cases qm
      · have hlt0 : e < 0 := HNE.out HQM.out.symm
        have h0n : ¬ (0 ≤ e) := by omega
        have HRE : Hid (e' = q.off + q.d.length) := by show _ = _; rw [HEE.out, ← HQM.out]; rfl
        have KE := Lib.hid (ends_c q xo xd wV (HQP.out.on HAW.out) hqo.1 hqo.2.1)
        rw [← HRE.out] at KE
        go_wp2_with (first
          | (refine wpList_load28m rfl _ rfl b0 (o0 + i * 46) rfl q xo xd (by exact R1.out wV HV.out) HQA.out ?_)
          | (go_at_call 36; refine KE.out.mono ?_; refine Hid.out ?_))
        refine Lib.hid ?_
        first
          | rintro E wc rfl haw
          | rintro E wc ⟨rfl, haw⟩
        replace HAW := Lib.hid (HAW.out.trans haw)
        have HWO := Lib.hid (HV.out.trans haw)
        clear haw cq KE h0n hlt0
        go_wp2_with fail
        go_loopw [6] (fun kv wr => ∃ k : Nat, kv = .int .i64 (k : Int) ∧ k ≤ i ∧ (∀ y ∈ (xs.map X.p).take k, NoLap y q) ∧ Away [] wc wr) (fun kv _ => i - (intOf kv).toNat)
        case atStart => exact ⟨0, rfl, by omega, by simp, Away.refl _ _⟩
        case round =>
          obtain ⟨k, rfl, hk, hnl, haw⟩ := hrel
          have HK := Lib.hid haw
          have HNL := Lib.hid hnl
          clear haw hnl
          by_cases hki : k < i
          · obtain ⟨y, hyk, hym⟩ := get_of (show k < xs.length by rw [HL.out]; omega)
            obtain ⟨b2, o2, ha2, r2, k2⟩ := HX.out.at hyk
            obtain ⟨rfl, rfl⟩ : b0 = b2 ∧ o0 = o2 := by simp only [Option.some.injEq, Addr.mk.injEq, and_true] at ha2; exact ha2
            have hpk : (xs.map X.p)[k]? = some y.p := by rw [List.getElem?_map, hyk]; rfl
            have HPK := Lib.hid hpk
            obtain ⟨s, so, sd⟩ := y
            simp only at HPK
            have hsr : rgtP s = true := (HF.out.r s (by
              have h1 : ((xs.map X.p).take i)[k]? = some s := by rw [List.getElem?_take, if_pos hki]; exact HPK.out
              exact List.mem_of_getElem? h1)).1
            have hso := rgt_off hsr
            have HSA := Lib.hid k2.wf.ad
            have HSP : Hid (Pkt w s so sd) := k2
            have hsdl : s.d.length ≤ 140737488355328 := k2.wf.dn
            have HAR : Hid (Away [] w wr) := HAW.out.trans HK.out
            have R2 : Hid (∀ w', Away [] wr w' → w'.rangeAt b0 (o0 + k * 46) (listP s so sd)) := fun w' hw => range_away (HAR.out.trans hw) (by simp) r2
            have R3 : Hid (∀ w', Away [] wr w' → w'.rangeAt b0 (o0 + i * 46) (listP q xo xd)) := fun w' hw => R1.out w' (HWO.out.trans (HK.out.trans hw))
            have K1 : Hid (∀ w', Away [] wr w' → Calls Tryz.prog 36 #[.agg (csP q xo xd)] w' fun E w'' => E = .returned (.int .i64 (q.off + q.d.length)) ∧ Away [] wr w'') := fun w' hw => (ends_c q xo xd w' (HQP.out.on (HAR.out.trans hw)) hqo.1 hqo.2.1).mono (by rintro E w9 ⟨rfl, h2⟩; exact ⟨rfl, hw.trans h2⟩)
            have K2 : Hid (∀ w', Away [] wr w' → Calls Tryz.prog 36 #[.agg (csP s so sd)] w' fun E w'' => E = .returned (.int .i64 (s.off + s.d.length)) ∧ Away [] wr w'') := fun w' hw => (ends_c s so sd w' (HSP.out.on (HAR.out.trans hw)) hso.1 hso.2.1).mono (by rintro E w9 ⟨rfl, h2⟩; exact ⟨rfl, hw.trans h2⟩)
            have S2 : Hid (∀ w', Away [] wr w' → w'.cell? ⟨b0, o0 + k * 46 + 43, none⟩ = some (.int .i64 s.off)) := fun w' hw => (R2.out w' hw) 43 _ (listP_fld HSA.out so sd).2.1
            have S3 : Hid (∀ w', Away [] wr w' → w'.cell? ⟨b0, o0 + i * 46 + 43, none⟩ = some (.int .i64 q.off)) := fun w' hw => (R3.out w' hw) 43 _ (listP_fld HQA.out xo xd).2.1
            obtain ⟨qe, hqe⟩ : ∃ z, z = q.off + (q.d.length : Int) := ⟨_, rfl⟩
            obtain ⟨se, hse⟩ : ∃ z, z = s.off + (s.d.length : Int) := ⟨_, rfl⟩
            rw [← hqe] at K1
            rw [← hse] at K2
            obtain ⟨qf, hqf⟩ : ∃ z, z = q.off := ⟨_, rfl⟩
            obtain ⟨sf, hsf⟩ : ∃ z, z = s.off := ⟨_, rfl⟩
            rw [← hqf] at S3
            rw [← hsf] at S2
            have HLP : Hid (NoLap s q ↔ ¬ (sf < qe ∧ qf < se)) := by show _ ↔ _; unfold NoLap; rw [hqe, hse, hqf, hsf]
            have HCR : Hid (Away [] wr wr.drew) := (Away.refl [] wr).drew
            have m0 : 0 ≤ (k : Int) := by omega
            have m1 : (k : Int) < (n : Int) := by omega
            have m2 : ((k : Int)).toNat = k := by omega
            have m3 : (k : Int) < (i : Int) := by omega
            clear hyk hym hpk r2 k2 ha2 hsr hqe hse hqf hsf
            by_cases hA1 : sf < qe
            rotate_left
            · have HNX : Hid (∀ y ∈ (xs.map X.p).take (k + 1), NoLap y q) := fun y hy => by
                rw [take_snoc' HPK.out] at hy
                rcases List.mem_append.1 hy with hy | hy
                · exact HNL.out y hy
                · simp at hy; subst hy; exact HLP.out.2 (fun hh => hA1 hh.1)
              go_wp2_with fail
              refine wp_region_cls (C := (fun w' => Away [] wr w')) (by kernel_rfl) (by kernel_rfl) (by exact HCR.out) ?_
              repeat (first
                | go_big_quiet_skip
                | (go_big_quiet_want
                   first
                     | (refine quiet_val (.bool false) ?_ ?_; (focus (intro w; go_simp; first | done | (simp [hA1]; done) | (simp; omega))); go_simp; go_big_quiet_on)
                     | (refine quiet_call 36 #[.agg (csP q xo xd)] (.int .i64 qe) ?_ K1.out ?_; (focus (intro w; go_simp; done)); go_simp; go_big_quiet_on)
                     | (refine quiet_ix32 _ _ rfl b0 o0 n cap i _ rfl rfl rfl (by omega) ?_; go_simp; go_big_quiet_on)
                     | (refine quiet_ix32 _ _ rfl b0 o0 n cap k _ rfl rfl rfl (by omega) ?_; go_simp; go_big_quiet_on)
                     | (refine quiet_ld _ rfl (ad := ⟨b0, o0 + k * 46 + 43, none⟩) rfl (fun w' h => ld3 (S2.out w' h)) ?_; go_simp; go_big_quiet_on)
                     | (refine quiet_ld _ rfl (ad := ⟨b0, o0 + i * 46 + 43, none⟩) rfl (fun w' h => ld3 (S3.out w' h)) ?_; go_simp; go_big_quiet_on)
                     | (refine quiet_ld _ rfl (ad := ⟨b0, o0 + k * 46, none⟩) rfl (fun w' h => load28m_run (R2.out w' h) HSA.out) ?_; go_simp; go_big_quiet_on)
                     | (refine quiet_ld _ rfl (ad := ⟨b0, o0 + i * 46, none⟩) rfl (fun w' h => load28m_run (R3.out w' h) HQA.out) ?_; go_simp; go_big_quiet_on)
                     | (go_big_quiet_op; go_big_quiet_on)
                     | (refine quiet_val ?_ ?_ ?_
                        rotate_left
                        · intro w; go_simp; rfl
                        go_simp; go_big_quiet_on)))
              refine wpQuiet_nil ?_
              intro V hV
              have HV2 := Lib.hid (HK.out.trans hV)
              clear hV
              go_wp2_with fail
              go_roundw
              case rel => exact ⟨k + 1, by go_num, by omega, HNX.out, HV2.out⟩
              case measure => simp [intOf]; omega
            by_cases hA2 : qf < se
            rotate_left
            · have HNX : Hid (∀ y ∈ (xs.map X.p).take (k + 1), NoLap y q) := fun y hy => by
                rw [take_snoc' HPK.out] at hy
                rcases List.mem_append.1 hy with hy | hy
                · exact HNL.out y hy
                · simp at hy; subst hy; exact HLP.out.2 (fun hh => hA2 hh.2)
              go_wp2_with fail
              refine wp_region_cls (C := (fun w' => Away [] wr w')) (by kernel_rfl) (by kernel_rfl) (by exact HCR.out) ?_
              repeat (first
                | go_big_quiet_skip
                | (go_big_quiet_want
                   first
                     | (refine quiet_call 36 #[.agg (csP q xo xd)] (.int .i64 qe) ?_ K1.out ?_; (focus (intro w; go_simp; done)); go_simp; go_big_quiet_on)
                     | (refine quiet_call 36 #[.agg (csP s so sd)] (.int .i64 se) ?_ K2.out ?_; (focus (intro w; go_simp; done)); go_simp; go_big_quiet_on)
                     | (refine quiet_ix32 _ _ rfl b0 o0 n cap i _ rfl rfl rfl (by omega) ?_; go_simp; go_big_quiet_on)
                     | (refine quiet_ix32 _ _ rfl b0 o0 n cap k _ rfl rfl rfl (by omega) ?_; go_simp; go_big_quiet_on)
                     | (refine quiet_ld _ rfl (ad := ⟨b0, o0 + k * 46 + 43, none⟩) rfl (fun w' h => ld3 (S2.out w' h)) ?_; go_simp; go_big_quiet_on)
                     | (refine quiet_ld _ rfl (ad := ⟨b0, o0 + i * 46 + 43, none⟩) rfl (fun w' h => ld3 (S3.out w' h)) ?_; go_simp; go_big_quiet_on)
                     | (refine quiet_ld _ rfl (ad := ⟨b0, o0 + k * 46, none⟩) rfl (fun w' h => load28m_run (R2.out w' h) HSA.out) ?_; go_simp; go_big_quiet_on)
                     | (refine quiet_ld _ rfl (ad := ⟨b0, o0 + i * 46, none⟩) rfl (fun w' h => load28m_run (R3.out w' h) HQA.out) ?_; go_simp; go_big_quiet_on)
                     | (go_big_quiet_op; go_big_quiet_on)
                     | (refine quiet_val ?_ ?_ ?_
                        rotate_left
                        · intro w; go_simp; rfl
                        go_simp; go_big_quiet_on)))
              refine wpQuiet_nil ?_
              intro V hV
              have HV2 := Lib.hid (HK.out.trans hV)
              clear hV
              go_wp2_with fail
              go_roundw
              case rel => exact ⟨k + 1, by go_num, by omega, HNX.out, HV2.out⟩
              case measure => simp [intOf]; omega
            have HNO : Hid (¬ (akinL (xs.map X.p) = true ∧ Good (xs.map X.p))) := fun hh => HLP.out.1 (pair_at hh.2.lap hki HPK.out HPI.out) ⟨hA1, hA2⟩
            go_wp2_with fail
            refine wp_region_cls (C := (fun w' => Away [] wr w')) (by kernel_rfl) (by kernel_rfl) (by exact HCR.out) ?_
            repeat (first
              | go_big_quiet_skip
              | (go_big_quiet_want
                 first
                   | (refine quiet_call 36 #[.agg (csP q xo xd)] (.int .i64 qe) ?_ K1.out ?_; (focus (intro w; go_simp; done)); go_simp; go_big_quiet_on)
                   | (refine quiet_call 36 #[.agg (csP s so sd)] (.int .i64 se) ?_ K2.out ?_; (focus (intro w; go_simp; done)); go_simp; go_big_quiet_on)
                   | (refine quiet_ix32 _ _ rfl b0 o0 n cap i _ rfl rfl rfl (by omega) ?_; go_simp; go_big_quiet_on)
                   | (refine quiet_ix32 _ _ rfl b0 o0 n cap k _ rfl rfl rfl (by omega) ?_; go_simp; go_big_quiet_on)
                   | (refine quiet_ld _ rfl (ad := ⟨b0, o0 + k * 46 + 43, none⟩) rfl (fun w' h => ld3 (S2.out w' h)) ?_; go_simp; go_big_quiet_on)
                   | (refine quiet_ld _ rfl (ad := ⟨b0, o0 + i * 46 + 43, none⟩) rfl (fun w' h => ld3 (S3.out w' h)) ?_; go_simp; go_big_quiet_on)
                   | (refine quiet_ld _ rfl (ad := ⟨b0, o0 + k * 46, none⟩) rfl (fun w' h => load28m_run (R2.out w' h) HSA.out) ?_; go_simp; go_big_quiet_on)
                   | (refine quiet_ld _ rfl (ad := ⟨b0, o0 + i * 46, none⟩) rfl (fun w' h => load28m_run (R3.out w' h) HQA.out) ?_; go_simp; go_big_quiet_on)
                   | (go_big_quiet_op; go_big_quiet_on)
                   | (refine quiet_val ?_ ?_ ?_
                      rotate_left
                      · intro w; go_simp; rfl
                      go_simp; go_big_quiet_on)))
            refine wpQuiet_nil ?_
            intro V hV
            have HV2 := Lib.hid (HK.out.trans hV)
            clear hV
            go_wp2_with fail
            go_ret2
            exact ⟨_, _, rfl, HAW.out.trans HV2.out, by simp, fun _ hh => HNO.out hh⟩
          · obtain rfl : k = i := by omega
            have HFX : Hid (FitI ((xs.map X.p).take (k + 1)) h e') := by
              show FitI _ _ _
              rw [take_snoc' HPI.out, HEE.out]
              exact HF.out.snoc HBR.out.symm HBK.out.symm HNL.out HNE.out
            have HAR : Hid (Away [] w wr) := HAW.out.trans HK.out
            go_wp2_with fail
            go_roundw
            case rel => exact ⟨k + 1, e', rfl, by go_num, by omega, HFX.out, HAR.out⟩
            case measure => simp [intOf]; omega
      · have HRE : e' = e := by rw [HEE.out, ← HQM.out]; rfl
        subst HRE
        obtain ⟨wc, hwc⟩ : ∃ z, z = wV := ⟨_, rfl⟩
        subst hwc
        have HWO := Lib.hid HV.out
        go_wp2_with fail
        go_loopw [6] (fun kv wr => ∃ k : Nat, kv = .int .i64 (k : Int) ∧ k ≤ i ∧ (∀ y ∈ (xs.map X.p).take k, NoLap y q) ∧ Away [] wc wr) (fun kv _ => i - (intOf kv).toNat)
        case atStart => exact ⟨0, rfl, by omega, by simp, Away.refl _ _⟩
        case round =>
          obtain ⟨k, rfl, hk, hnl, haw⟩ := hrel
          have HK := Lib.hid haw
          have HNL := Lib.hid hnl
          clear haw hnl
          by_cases hki : k < i
          · obtain ⟨y, hyk, hym⟩ := get_of (show k < xs.length by rw [HL.out]; omega)
            obtain ⟨b2, o2, ha2, r2, k2⟩ := HX.out.at hyk
            obtain ⟨rfl, rfl⟩ : b0 = b2 ∧ o0 = o2 := by simp only [Option.some.injEq, Addr.mk.injEq, and_true] at ha2; exact ha2
            have hpk : (xs.map X.p)[k]? = some y.p := by rw [List.getElem?_map, hyk]; rfl
            have HPK := Lib.hid hpk
            obtain ⟨s, so, sd⟩ := y
            simp only at HPK
            have hsr : rgtP s = true := (HF.out.r s (by
              have h1 : ((xs.map X.p).take i)[k]? = some s := by rw [List.getElem?_take, if_pos hki]; exact HPK.out
              exact List.mem_of_getElem? h1)).1
            have hso := rgt_off hsr
            have HSA := Lib.hid k2.wf.ad
            have HSP : Hid (Pkt w s so sd) := k2
            have hsdl : s.d.length ≤ 140737488355328 := k2.wf.dn
            have HAR : Hid (Away [] w wr) := HAW.out.trans HK.out
            have R2 : Hid (∀ w', Away [] wr w' → w'.rangeAt b0 (o0 + k * 46) (listP s so sd)) := fun w' hw => range_away (HAR.out.trans hw) (by simp) r2
            have R3 : Hid (∀ w', Away [] wr w' → w'.rangeAt b0 (o0 + i * 46) (listP q xo xd)) := fun w' hw => R1.out w' (HWO.out.trans (HK.out.trans hw))
            have K1 : Hid (∀ w', Away [] wr w' → Calls Tryz.prog 36 #[.agg (csP q xo xd)] w' fun E w'' => E = .returned (.int .i64 (q.off + q.d.length)) ∧ Away [] wr w'') := fun w' hw => (ends_c q xo xd w' (HQP.out.on (HAR.out.trans hw)) hqo.1 hqo.2.1).mono (by rintro E w9 ⟨rfl, h2⟩; exact ⟨rfl, hw.trans h2⟩)
            have K2 : Hid (∀ w', Away [] wr w' → Calls Tryz.prog 36 #[.agg (csP s so sd)] w' fun E w'' => E = .returned (.int .i64 (s.off + s.d.length)) ∧ Away [] wr w'') := fun w' hw => (ends_c s so sd w' (HSP.out.on (HAR.out.trans hw)) hso.1 hso.2.1).mono (by rintro E w9 ⟨rfl, h2⟩; exact ⟨rfl, hw.trans h2⟩)
            have S2 : Hid (∀ w', Away [] wr w' → w'.cell? ⟨b0, o0 + k * 46 + 43, none⟩ = some (.int .i64 s.off)) := fun w' hw => (R2.out w' hw) 43 _ (listP_fld HSA.out so sd).2.1
            have S3 : Hid (∀ w', Away [] wr w' → w'.cell? ⟨b0, o0 + i * 46 + 43, none⟩ = some (.int .i64 q.off)) := fun w' hw => (R3.out w' hw) 43 _ (listP_fld HQA.out xo xd).2.1
            obtain ⟨qe, hqe⟩ : ∃ z, z = q.off + (q.d.length : Int) := ⟨_, rfl⟩
            obtain ⟨se, hse⟩ : ∃ z, z = s.off + (s.d.length : Int) := ⟨_, rfl⟩
            rw [← hqe] at K1
            rw [← hse] at K2
            obtain ⟨qf, hqf⟩ : ∃ z, z = q.off := ⟨_, rfl⟩
            obtain ⟨sf, hsf⟩ : ∃ z, z = s.off := ⟨_, rfl⟩
            rw [← hqf] at S3
            rw [← hsf] at S2
            have HLP : Hid (NoLap s q ↔ ¬ (sf < qe ∧ qf < se)) := by show _ ↔ _; unfold NoLap; rw [hqe, hse, hqf, hsf]
            have HCR : Hid (Away [] wr wr.drew) := (Away.refl [] wr).drew
            have m0 : 0 ≤ (k : Int) := by omega
            have m1 : (k : Int) < (n : Int) := by omega
            have m2 : ((k : Int)).toNat = k := by omega
            have m3 : (k : Int) < (i : Int) := by omega
            clear hyk hym hpk r2 k2 ha2 hsr hqe hse hqf hsf
            by_cases hA1 : sf < qe
            rotate_left
            · have HNX : Hid (∀ y ∈ (xs.map X.p).take (k + 1), NoLap y q) := fun y hy => by
                rw [take_snoc' HPK.out] at hy
                rcases List.mem_append.1 hy with hy | hy
                · exact HNL.out y hy
                · simp at hy; subst hy; exact HLP.out.2 (fun hh => hA1 hh.1)
              go_wp2_with fail
              refine wp_region_cls (C := (fun w' => Away [] wr w')) (by kernel_rfl) (by kernel_rfl) (by exact HCR.out) ?_
              repeat (first
                | go_big_quiet_skip
                | (go_big_quiet_want
                   first
                     | (refine quiet_val (.bool false) ?_ ?_; (focus (intro w; go_simp; first | done | (simp [hA1]; done) | (simp; omega))); go_simp; go_big_quiet_on)
                     | (refine quiet_call 36 #[.agg (csP q xo xd)] (.int .i64 qe) ?_ K1.out ?_; (focus (intro w; go_simp; done)); go_simp; go_big_quiet_on)
                     | (refine quiet_ix32 _ _ rfl b0 o0 n cap i _ rfl rfl rfl (by omega) ?_; go_simp; go_big_quiet_on)
                     | (refine quiet_ix32 _ _ rfl b0 o0 n cap k _ rfl rfl rfl (by omega) ?_; go_simp; go_big_quiet_on)
                     | (refine quiet_ld _ rfl (ad := ⟨b0, o0 + k * 46 + 43, none⟩) rfl (fun w' h => ld3 (S2.out w' h)) ?_; go_simp; go_big_quiet_on)
                     | (refine quiet_ld _ rfl (ad := ⟨b0, o0 + i * 46 + 43, none⟩) rfl (fun w' h => ld3 (S3.out w' h)) ?_; go_simp; go_big_quiet_on)
                     | (refine quiet_ld _ rfl (ad := ⟨b0, o0 + k * 46, none⟩) rfl (fun w' h => load28m_run (R2.out w' h) HSA.out) ?_; go_simp; go_big_quiet_on)
                     | (refine quiet_ld _ rfl (ad := ⟨b0, o0 + i * 46, none⟩) rfl (fun w' h => load28m_run (R3.out w' h) HQA.out) ?_; go_simp; go_big_quiet_on)
                     | (go_big_quiet_op; go_big_quiet_on)
                     | (refine quiet_val ?_ ?_ ?_
                        rotate_left
                        · intro w; go_simp; rfl
                        go_simp; go_big_quiet_on)))
              refine wpQuiet_nil ?_
              intro V hV
              have HV2 := Lib.hid (HK.out.trans hV)
              clear hV
              go_wp2_with fail
              go_roundw
              case rel => exact ⟨k + 1, by go_num, by omega, HNX.out, HV2.out⟩
              case measure => simp [intOf]; omega
            by_cases hA2 : qf < se
            rotate_left
            · have HNX : Hid (∀ y ∈ (xs.map X.p).take (k + 1), NoLap y q) := fun y hy => by
                rw [take_snoc' HPK.out] at hy
                rcases List.mem_append.1 hy with hy | hy
                · exact HNL.out y hy
                · simp at hy; subst hy; exact HLP.out.2 (fun hh => hA2 hh.2)
              go_wp2_with fail
              refine wp_region_cls (C := (fun w' => Away [] wr w')) (by kernel_rfl) (by kernel_rfl) (by exact HCR.out) ?_
              repeat (first
                | go_big_quiet_skip
                | (go_big_quiet_want
                   first
                     | (refine quiet_call 36 #[.agg (csP q xo xd)] (.int .i64 qe) ?_ K1.out ?_; (focus (intro w; go_simp; done)); go_simp; go_big_quiet_on)
                     | (refine quiet_call 36 #[.agg (csP s so sd)] (.int .i64 se) ?_ K2.out ?_; (focus (intro w; go_simp; done)); go_simp; go_big_quiet_on)
                     | (refine quiet_ix32 _ _ rfl b0 o0 n cap i _ rfl rfl rfl (by omega) ?_; go_simp; go_big_quiet_on)
                     | (refine quiet_ix32 _ _ rfl b0 o0 n cap k _ rfl rfl rfl (by omega) ?_; go_simp; go_big_quiet_on)
                     | (refine quiet_ld _ rfl (ad := ⟨b0, o0 + k * 46 + 43, none⟩) rfl (fun w' h => ld3 (S2.out w' h)) ?_; go_simp; go_big_quiet_on)
                     | (refine quiet_ld _ rfl (ad := ⟨b0, o0 + i * 46 + 43, none⟩) rfl (fun w' h => ld3 (S3.out w' h)) ?_; go_simp; go_big_quiet_on)
                     | (refine quiet_ld _ rfl (ad := ⟨b0, o0 + k * 46, none⟩) rfl (fun w' h => load28m_run (R2.out w' h) HSA.out) ?_; go_simp; go_big_quiet_on)
                     | (refine quiet_ld _ rfl (ad := ⟨b0, o0 + i * 46, none⟩) rfl (fun w' h => load28m_run (R3.out w' h) HQA.out) ?_; go_simp; go_big_quiet_on)
                     | (go_big_quiet_op; go_big_quiet_on)
                     | (refine quiet_val ?_ ?_ ?_
                        rotate_left
                        · intro w; go_simp; rfl
                        go_simp; go_big_quiet_on)))
              refine wpQuiet_nil ?_
              intro V hV
              have HV2 := Lib.hid (HK.out.trans hV)
              clear hV
              go_wp2_with fail
              go_roundw
              case rel => exact ⟨k + 1, by go_num, by omega, HNX.out, HV2.out⟩
              case measure => simp [intOf]; omega
            have HNO : Hid (¬ (akinL (xs.map X.p) = true ∧ Good (xs.map X.p))) := fun hh => HLP.out.1 (pair_at hh.2.lap hki HPK.out HPI.out) ⟨hA1, hA2⟩
            go_wp2_with fail
            refine wp_region_cls (C := (fun w' => Away [] wr w')) (by kernel_rfl) (by kernel_rfl) (by exact HCR.out) ?_
            repeat (first
              | go_big_quiet_skip
              | (go_big_quiet_want
                 first
                   | (refine quiet_call 36 #[.agg (csP q xo xd)] (.int .i64 qe) ?_ K1.out ?_; (focus (intro w; go_simp; done)); go_simp; go_big_quiet_on)
                   | (refine quiet_call 36 #[.agg (csP s so sd)] (.int .i64 se) ?_ K2.out ?_; (focus (intro w; go_simp; done)); go_simp; go_big_quiet_on)
                   | (refine quiet_ix32 _ _ rfl b0 o0 n cap i _ rfl rfl rfl (by omega) ?_; go_simp; go_big_quiet_on)
                   | (refine quiet_ix32 _ _ rfl b0 o0 n cap k _ rfl rfl rfl (by omega) ?_; go_simp; go_big_quiet_on)
                   | (refine quiet_ld _ rfl (ad := ⟨b0, o0 + k * 46 + 43, none⟩) rfl (fun w' h => ld3 (S2.out w' h)) ?_; go_simp; go_big_quiet_on)
                   | (refine quiet_ld _ rfl (ad := ⟨b0, o0 + i * 46 + 43, none⟩) rfl (fun w' h => ld3 (S3.out w' h)) ?_; go_simp; go_big_quiet_on)
                   | (refine quiet_ld _ rfl (ad := ⟨b0, o0 + k * 46, none⟩) rfl (fun w' h => load28m_run (R2.out w' h) HSA.out) ?_; go_simp; go_big_quiet_on)
                   | (refine quiet_ld _ rfl (ad := ⟨b0, o0 + i * 46, none⟩) rfl (fun w' h => load28m_run (R3.out w' h) HQA.out) ?_; go_simp; go_big_quiet_on)
                   | (go_big_quiet_op; go_big_quiet_on)
                   | (refine quiet_val ?_ ?_ ?_
                      rotate_left
                      · intro w; go_simp; rfl
                      go_simp; go_big_quiet_on)))
            refine wpQuiet_nil ?_
            intro V hV
            have HV2 := Lib.hid (HK.out.trans hV)
            clear hV
            go_wp2_with fail
            go_ret2
            exact ⟨_, _, rfl, HAW.out.trans HV2.out, by simp, fun _ hh => HNO.out hh⟩
          · obtain rfl : k = i := by omega
            have HFX : Hid (FitI ((xs.map X.p).take (k + 1)) h e') := by
              show FitI _ _ _
              rw [take_snoc' HPI.out, HEE.out]
              exact HF.out.snoc HBR.out.symm HBK.out.symm HNL.out HNE.out
            have HAR : Hid (Away [] w wr) := HAW.out.trans HK.out
            go_wp2_with fail
            go_roundw
            case rel => exact ⟨k + 1, e', rfl, by go_num, by omega, HFX.out, HAR.out⟩
            case measure => simp [intOf]; omega

    · obtain rfl : i = n := by omega
      have HFA : Hid (FitI (xs.map X.p) hd.p e) := by
        have := HF.out
        rw [List.take_of_length_le (by rw [HML.out]; omega)] at this
        exact this
      have HAK : Hid (akinL (xs.map X.p) = true) := (akin_iff HHP.out).2 HFA.out.r
      go_wp2_with fail
      go_loopw [7] (fun kv wr => ∃ k : Nat, kv = .int .i64 (k : Int) ∧ k ≤ i ∧ (∀ y ∈ (xs.map X.p).take k, 0 ≤ e → y.off + y.d.length ≤ e ∧ ¬ (y.more = true ∧ e ≤ y.off)) ∧ Away [] wo wr) (fun kv _ => i - (intOf kv).toNat)
      case atStart => exact ⟨0, rfl, by omega, by simp, Away.refl _ _⟩
      case round =>
        obtain ⟨k, rfl, hk, hnl, haw⟩ := hrel
        have HK := Lib.hid haw
        have HNL := Lib.hid hnl
        clear haw hnl
        have HAR : Hid (Away [] w wr) := HAW.out.trans HK.out
        have HGD0 : Hid (e < 0 → Good (xs.map X.p)) := fun h0 => by
          refine ⟨HFA.out.lap, HFA.out.one, fun e0 he0 p hp hm => ?_⟩
          rcases HFA.out.en with ⟨_, b⟩ | ⟨z, hz, _, a⟩
          · have := b e0 he0; rw [hm] at this; simp at this
          · have := rgt_off (HFA.out.r z hz).1; omega
        by_cases hki : k < i
        rotate_left
        · obtain rfl : k = i := by omega
          have HGD : Hid (Good (xs.map X.p)) := by
            refine ⟨HFA.out.lap, HFA.out.one, fun e0 he0 p hp hm => ?_⟩
            by_cases h0e : 0 ≤ e
            rotate_left
            · exact (HGD0.out (by omega)).win e0 he0 p hp hm
            have h1 := HNL.out p (by rw [List.take_of_length_le (by rw [HML.out]; omega)]; exact hp) h0e
            rcases HFA.out.en with ⟨a, _⟩ | ⟨z, hz, hzm, a⟩
            · omega
            · have := one_same _ HFA.out.one e0 he0 z hz hm hzm
              rw [this, ← a]; exact h1
          go_wp2_with fail
          go_ret2
          exact ⟨_, _, rfl, HAR.out, fun _ => ⟨HAK.out, HGD.out, HFA.out.en⟩, by simp⟩
        by_cases h0e : 0 ≤ e
        rotate_left
        · have h0f : decide (0 ≤ e) = false := by simpa using h0e
          have HGD := Lib.hid (HGD0.out (by omega))
          go_wp2_with fail
          go_ret2
          exact ⟨_, _, rfl, HAR.out, fun _ => ⟨HAK.out, HGD.out, HFA.out.en⟩, by simp⟩
        obtain ⟨y, hyk, hym⟩ := get_of (show k < xs.length by rw [HL.out]; omega)
        obtain ⟨b0, o0, ha0, r2, k2⟩ := HX.out.at hyk
        subst ha0
        have hpk : (xs.map X.p)[k]? = some y.p := by rw [List.getElem?_map, hyk]; rfl
        have HPK := Lib.hid hpk
        have HPM : Hid (y.p ∈ xs.map X.p) := List.mem_map.2 ⟨y, hym, rfl⟩
        obtain ⟨s, so, sd⟩ := y
        simp only at HPK HPM
        have hso := rgt_off (HFA.out.r s HPM.out).1
        have HSA := Lib.hid k2.wf.ad
        have HSP : Hid (Pkt w s so sd) := k2
        have R2 : Hid (∀ w', Away [] wr w' → w'.rangeAt b0 (o0 + k * 46) (listP s so sd)) := fun w' hw => range_away (HAR.out.trans hw) (by simp) r2
        have K2 := Lib.hid (ends_c s so sd wr (HSP.out.on HAR.out) hso.1 hso.2.1)
        obtain ⟨se, hse⟩ : ∃ z, z = s.off + (s.d.length : Int) := ⟨_, rfl⟩
        rw [← hse] at K2
        have HSE := Lib.hid hse
        have m0 : 0 ≤ (k : Int) := by omega
        have m1 : (k : Int) < (i : Int) := by omega
        have m2 : ((k : Int)).toNat = k := by omega
        have h0t : decide (0 ≤ e) = true := by simpa using h0e
        have HNOT : Hid (¬ (se ≤ e ∧ ¬ (s.more = true ∧ e ≤ s.off)) → ¬ (akinL (xs.map X.p) = true ∧ Good (xs.map X.p))) := fun hbad hh => by
          apply hbad
          rcases HFA.out.en with ⟨a, _⟩ | ⟨z, hz, hzm, a⟩
          · omega
          · have h1 := hh.2.win z hz s HPM.out hzm
            rw [← a, ← HSE.out] at h1; exact h1
        have HNXT : Hid ((se ≤ e ∧ ¬ (s.more = true ∧ e ≤ s.off)) → ∀ y ∈ (xs.map X.p).take (k + 1), 0 ≤ e → y.off + y.d.length ≤ e ∧ ¬ (y.more = true ∧ e ≤ y.off)) := fun hok y hy h0 => by
          rw [take_snoc' HPK.out] at hy
          rcases List.mem_append.1 hy with hy | hy
          · exact HNL.out y hy h0
          · simp at hy; subst hy; rw [← HSE.out]; exact hok
        clear hyk hym hpk r2 k2 hse
        go_wp2_with (first
          | (refine wpList_load28m rfl _ rfl b0 (o0 + k * 46) rfl s so sd (by exact R2.out wr (Away.refl _ _)) HSA.out ?_)
          | (go_at_call 36; refine K2.out.mono ?_; refine Hid.out ?_))
        refine Lib.hid ?_
        first
          | rintro E w5 rfl haw
          | rintro E w5 ⟨rfl, haw⟩
        have HA5 := Lib.hid (HAR.out.trans haw)
        have HK5 := Lib.hid (HK.out.trans haw)
        have c41 : w5.cell? ⟨b0, o0 + k * 46 + 41, none⟩ = some (.bool s.more) := (R2.out w5 haw) 41 _ (listP_fld HSA.out so sd).1
        have c43 : w5.cell? ⟨b0, o0 + k * 46 + 43, none⟩ = some (.int .i64 s.off) := (R2.out w5 haw) 43 _ (listP_fld HSA.out so sd).2.1
        clear haw K2
        obtain ⟨sm, hsm⟩ : ∃ z, z = s.more := ⟨_, rfl⟩
        obtain ⟨sf, hsf⟩ : ∃ z, z = s.off := ⟨_, rfl⟩
        rw [← hsm] at c41 HNOT HNXT
        rw [← hsf] at c43 HNOT HNXT
        clear hsm hsf
        by_cases hse1 : e < se
        · have HNO := Lib.hid (HNOT.out (fun hh => by omega))
          go_wp2_with fail
          go_ret2
          exact ⟨_, _, rfl, HA5.out, by simp, fun _ hh => HNO.out hh⟩
        cases sm
        · have HNX := Lib.hid (HNXT.out ⟨by omega, by simp⟩)
          go_wp2_with fail
          go_roundw
          case rel => exact ⟨k + 1, by go_num, by omega, HNX.out, HK5.out⟩
          case measure => simp [intOf]; omega
        · by_cases hef : e ≤ sf
          · have HNO := Lib.hid (HNOT.out (fun hh => hh.2 ⟨rfl, hef⟩))
            go_wp2_with fail
            go_ret2
            exact ⟨_, _, rfl, HA5.out, by simp, fun _ hh => HNO.out hh⟩
          · have HNX := Lib.hid (HNXT.out ⟨by omega, fun hh => hef hh.2⟩)
            go_wp2_with fail
            go_roundw
            case rel => exact ⟨k + 1, by go_num, by omega, HNX.out, HK5.out⟩
            case measure => simp [intOf]; omega
end R
#print axioms R.fits_c'
end Go.Proofs.YtaicckenpplceaaGreatDoor
