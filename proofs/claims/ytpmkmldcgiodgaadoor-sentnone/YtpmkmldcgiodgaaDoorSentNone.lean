/-
  SentNone.
-/
import Derived.Test.YtpmkmldcgiodgaaDoorVb
import Derived.Deep.CutBlock
import Derived.Deep.DeepCutAuto
import Derived.Lib.MinMax
namespace Go.Proofs.YtpmkmldcgiodgaaDoor
open Go.ChangeShapes Go.WideShapes Go.ChangeAt Go.RowKit Go.Deep
open S6 (wp_region_cls quiet_val quiet_call quiet_ld ld3 ld4 ld5 ld25 ld26 load28_run load24m_run)
set_option linter.unusedVariables false
set_option linter.unusedSimpArgs false
set_option maxRecDepth 100000

set_option maxHeartbeats 4000000
namespace sentNone
open W
/-- The quote that matches. -/
def hereP (Q : Pk) (c : Bool) (id : Int) : Pk := if c = true then { Q with frag := true, id := id } else Q
theorem here_wf {Q : Pk} (h : Wf Q) (c : Bool) {id : Int} (h0 : 0 ≤ id) (h1 : id ≤ 4294967295) : Wf (hereP Q c id) := by
  unfold hereP
  split
  · exact ⟨h.v, h.tos, h.flow, h.sv, h.sl, h.sb, h.dv, h.dl, h.db, h.proto, h.ttl, h0, h1, h.off, h.o, h.ol, h.d, h.dn⟩
  · exact h
theorem here_facts (Q : Pk) (c : Bool) (id : Int) (hf : Q.frag = false) : (hereP Q c id).off = Q.off ∧ (hereP Q c id).frag = c ∧ (hereP Q c id).d = Q.d ∧ (hereP Q c id).o = Q.o ∧ (hereP Q c id).v = Q.v ∧ (hereP Q c id).sv = Q.sv ∧ (hereP Q c id).sb = Q.sb ∧ (hereP Q c id).dv = Q.dv ∧ (hereP Q c id).db = Q.db ∧ (hereP Q c id).proto = Q.proto ∧ (hereP Q c id).id = (mkN Q c id).k.id := by
  unfold hereP mkN
  cases c <;> simp [hf]
theorem key_here (Q : Pk) (c : Bool) (id : Int) : (mkN Q c id).k.v = Q.v ∧ (mkN Q c id).k.sv = Q.sv ∧ (mkN Q c id).k.sb = Q.sb ∧ (mkN Q c id).k.dv = Q.dv ∧ (mkN Q c id).k.db = Q.db ∧ (mkN Q c id).k.proto = Q.proto := by
  unfold mkN; cases c <;> simp
/-- What a quote needs to match. -/
theorem shows_like {Q X : Pk} {c : Bool} {id : Int} (h1 : X.off = 0) (h2 : X.frag = c) (h3 : X.v = Q.v ∧ X.sv = Q.sv ∧ X.sb = Q.sb ∧ X.dv = Q.dv ∧ X.db = Q.db ∧ X.proto = Q.proto ∧ X.id = (mkN Q c id).k.id) (h4 : X.d.take (Q.d.take 8).length = Q.d.take 8) (h5 : (Q.d.take 8).length ≤ X.d.length) : showsP (mkN Q c id) X = true := by
  obtain ⟨a1, a2, a3, a4, a5, a6⟩ := key_here Q c id
  obtain ⟨b1, b2, b3, b4, b5, b6, b7⟩ := h3
  exact shows_of h1 h2 (key_of (b1.trans a1.symm) (b2.trans a2.symm) (b3.trans a3.symm) (b4.trans a4.symm) (b5.trans a5.symm) (b6.trans a6.symm) b7) h5 h4
set_option maxHeartbeats 16000000 in
theorem walk (p : Pk) (ov dv : Value) (cutIt : Bool) (id : Int) (which kk : Int) (w : World) (hg : Glob w) (hp : Pkt w p ov dv) (hol : p.o.length ≤ 140737488351232) (hdl : p.d.length ≤ 140737488351232) (hid0 : 0 ≤ id) (hid1 : id ≤ 4294967295) (h1 : (Lit.int .i64 which).wf = true) (h2 : (Lit.int .i64 kk).wf = true) :
    Calls Tryd.prog 4 #[.agg (csP p ov dv), .bool cutIt, .int .u32 id, .int .i64 which, .int .i64 kk] w fun E w' => E = .returned (.bool true) ∧ Below w.heap.size w w' := by
  have HG := Lib.hid hg
  have HP := Lib.hid hp
  have HAD := Lib.hid hp.wf.ad
  have HI := Lib.hid (And.intro hid0 hid1)
  obtain ⟨k, hk⟩ : ∃ k, bits .and .i64 which 7 = k := ⟨_, rfl⟩
  have hk7 := and7 which
  rw [hk] at hk7
  clear hg hp hol hdl h1 h2 hid0 hid1
  go_enter Tryd.func4, Tryd.ntmps4
  go_wp2_with (refine wpList_box28 rfl _ rfl p _ _ rfl ?_; refine Hid.out ?_)
  refine Lib.hid ?_
  intro g5 w1 hg5 hb haw
  have HB := Lib.hid hb
  have HA := Lib.hid haw
  clear hb haw hg5
  go_wp2_with fail
  refine (alive_c w1 (HG.out.on HA.out)).mono ?_
  rintro E w2 ⟨rfl, haw⟩
  replace HB := Lib.hid (HB.out.on haw)
  replace HA := Lib.hid (HA.out.trans haw)
  clear haw
  have K7 : Hid (Calls Tryd.prog 7 #[.agg (csP p ov dv)] w2 (MendOut w2 p)) := mended_c p ov dv w2 (HP.out.on HA.out)
  go_wp2_with (refine wpList_load28 rfl _ rfl _ rfl p _ _ (by exact HB.out) HAD.out ?_)
  refine K7.out.mono ?_
  rintro E w3 ⟨ou, du, rfl, hm, haw⟩
  obtain ⟨Q, hQ⟩ : ∃ Q, Q = mendP p := ⟨_, rfl⟩
  rw [← hQ] at hm ⊢
  have HQE := Lib.hid hQ
  have HQW : Hid (Wf Q) := by rw [hQ]; exact mend_wf HP.out.wf
  have HM := Lib.hid hm
  have HA3 : Hid (Away [] w2 w3) := haw
  obtain ⟨o1, o2⟩ := hm.one
  have HPW : Hid (Wf p) := HP.out.wf
  clear hm haw hQ K7 HB HP HAD
  go_wp2_with (first | (refine wpList_alloc28 rfl rfl ?_; refine Hid.out ?_))
  refine Lib.hid ?_
  intro g11 w4 hg11 hb haw
  have HB := Lib.hid hb
  have HAL := Lib.hid haw
  clear hb haw
  go_wp2_with (first | (refine wpList_store28 rfl _ _ rfl _ rfl Q ou du rfl zeroPk (.slice none 0 0) (.slice none 0 0) (by exact HB.out) (by exact HQW.out.ad) ⟨rfl, rfl⟩ o1 o2 ?_; refine Hid.out ?_))
  refine Lib.hid ?_
  intro w5 hb haw
  have HV : Hid (Va w2 w5 g11 Q ou du) := Va.new HM.out HQW.out HA3.out hg11 HAL.out hb haw
  clear hb haw HB HAL HM HA3 hg11 o1 o2
  have HA5 : Hid (Away [] w w5) := HA.out.trans HV.out.aw
  have hsz2 := HA.out.size
  obtain ⟨da, dc, rfl⟩ := HV.out.d.shape
  have c45 := (HV.out.box.cells HQW.out.ad).d
  have hcv := fun (w : World) (C : Array Value) (n c : Nat) => Lib.run_convert_bytes_const (P := Tryd.prog) w 26 5 C n c Tryd.underlying26 Tryd.underlying5
  obtain ⟨n, hn⟩ : ∃ n, n = Q.d.length := ⟨_, rfl⟩
  rw [← hn] at HV c45
  have HN := Lib.hid hn
  clear hn
  go_upto_if 31 with fail
  go_cut [] (fun wc => ∃ p' dq, Wf p' ∧ (mendP p').d ≠ [] ∧ BoxP wc g11 (mendP p') ou dq ∧ Pkt wc (mendP p') ou dq ∧ Away [] w wc)
  case first =>
    by_cases h0 : n = 0
    · subst h0
      have hA := (Away.refl [] w5).alloc (.cells #[.int .u8 97, .int .u8 98, .int .u8 99, .int .u8 100, .int .u8 101, .int .u8 102, .int .u8 103, .int .u8 104, .int .u8 105, .int .u8 106] 5 (10, 11))
      have HV6 := Lib.hid (HV.out.on hA)
      have f45 := (HV6.out.box.cells HQW.out.ad).d
      have t45 := HV6.out.box.free 45
      have HSL : Hid (Sl (w5.alloc (.cells #[.int .u8 97, .int .u8 98, .int .u8 99, .int .u8 100, .int .u8 101, .int .u8 102, .int .u8 103, .int .u8 104, .int .u8 105, .int .u8 106] 5 (10, 11))) (.slice (some ⟨w5.heap.size, 0, none⟩) 10 10) [97, 98, 99, 100, 101, 102, 103, 104, 105, 106]) := ⟨_, _, rfl, by simp, by simp, Row.lit' w5 [97, 98, 99, 100, 101, 102, 103, 104, 105, 106] (10, 11) (by unfold Bytes; decide) (by simp)⟩
      have HGL : Hid (g11 < w5.heap.size) := HV.out.box.lt
      have HPN : Hid (Wf { p with d := [97, 98, 99, 100, 101, 102, 103, 104, 105, 106] } ∧ mendP { p with d := [97, 98, 99, 100, 101, 102, 103, 104, 105, 106] } = { Q with d := [97, 98, 99, 100, 101, 102, 103, 104, 105, 106] }) := ⟨wf_d HPW.out (by unfold Bytes; decide) (by simp), by
        rw [HQE.out]
        have e1 : sixB { p with d := [97, 98, 99, 100, 101, 102, 103, 104, 105, 106] } = sixB p := rfl
        unfold mendP halfP
        rw [e1]
        cases sixB p <;> rfl⟩
      clear hA
      go_wp2_with fail
      have HBX : Hid (BoxP ((w5.alloc (.cells #[.int .u8 97, .int .u8 98, .int .u8 99, .int .u8 100, .int .u8 101, .int .u8 102, .int .u8 103, .int .u8 104, .int .u8 105, .int .u8 106] 5 (10, 11))).setCell ⟨g11, 45, none⟩ (.slice (some ⟨w5.heap.size, 0, none⟩) 10 10)) g11 { Q with d := [97, 98, 99, 100, 101, 102, 103, 104, 105, 106] } ou (.slice (some ⟨w5.heap.size, 0, none⟩) 10 10)) := HV6.out.box.put 45 _ ((csP_set HQW.out.ad _ _).2.2.2.2.2.2.2.2.2.2.2.2.2 [97, 98, 99, 100, 101, 102, 103, 104, 105, 106] _)
      have hAp := away_put (w := w5.alloc (.cells #[.int .u8 97, .int .u8 98, .int .u8 99, .int .u8 100, .int .u8 101, .int .u8 102, .int .u8 103, .int .u8 104, .int .u8 105, .int .u8 106] 5 (10, 11))) (g := g11) 45 (.slice (some ⟨w5.heap.size, 0, none⟩) 10 10)
      go_meet
      refine ⟨{ p with d := [97, 98, 99, 100, 101, 102, 103, 104, 105, 106] }, _, HPN.out.1, by rw [HPN.out.2]; simp, by rw [HPN.out.2]; exact HBX.out, ?_, ?_⟩
      · rw [HPN.out.2]
        exact ⟨wf_d HQW.out (by unfold Bytes; decide) (by simp), (HV6.out.pkt.o).away hAp (fun _ k hk => by simpa using (HV6.out.no k hk).2), HSL.out.away hAp (fun _ k hk => by simp [Value.ownBlock] at hk; have := HGL.out; simp; omega)⟩
      · exact (HA5.out.alloc _).next hAp (fun x hx => .inr (by simp at hx; have := HV.out.ng; omega))
    · have e0 : ((n : Int) == 0) = false := by simpa using h0
      have e0b : decide ((n : Int) = 0) = false := by simpa using h0
      go_wp2_with fail
      go_meet
      exact ⟨p, _, HPW.out, by rw [← HQE.out]; intro e; rw [HN.out, e] at h0; simp at h0, by rw [← HQE.out]; exact HV.out.box, by rw [← HQE.out]; exact HV.out.pkt, HA5.out⟩
  case rest =>
  obtain ⟨p', dq, hpw, hne, hbq, hpq, hawc⟩ := hcut
  clear HV HA5 c45 HN hcv HQW HQE HPW HA hsz2
  obtain ⟨Q, hQ⟩ : ∃ Q, Q = mendP p' := ⟨_, rfl⟩
  rw [← hQ] at hne hbq hpq
  obtain ⟨l1, l2, l3, l4, l5, l6⟩ := mend_len hpw
  rw [← hQ] at l1 l2 l3 l4 l5 l6
  have HQP : Hid (0 ≤ Q.proto ∧ Q.proto ≤ 255) := by
    rw [hQ]
    have hh := and255 p'.proto
    cases hs : sixB p' with
    | true => rw [mend6 hs]; exact (no44_bd hh).1
    | false => rw [mend4 hs]; exact hh
  have HNE := Lib.hid hne
  have HBQ := Lib.hid hbq
  have HPQ := Lib.hid hpq
  have HA := Lib.hid hawc
  have HL1 := Lib.hid l1; have HL2 := Lib.hid l2; have HL4 := Lib.hid l4; have HL5 := Lib.hid l5; have HL6 := Lib.hid l6
  clear hne hbq hpq hawc hpw hQ l1 l2 l3 l4 l5 l6
  have HQW := Lib.hid HPQ.out.wf
  have HQA := Lib.hid HPQ.out.wf.ad
  obtain ⟨in6, hin6⟩ : ∃ b, b = (decide (Q.v = 6) && cutIt) := ⟨_, rfl⟩
  have HIN := Lib.hid hin6
  have c0 := (HBQ.out.cells HQA.out).v
  go_upto_region 6 with fail
  go_cut [12] (fun v wx => v = .bool in6 ∧ wx = wc)
  case first =>
    rcases HL5.out with hv | hv
    · obtain rfl : in6 = false := by rw [hin6, hv]; rfl
      rw [hv] at c0
      clear hv hin6
      go_wp2_with fail
      go_meet
      exact ⟨rfl, rfl⟩
    · obtain rfl : cutIt = in6 := by rw [hin6, hv]; rfl
      rw [hv] at c0
      clear hv hin6
      go_wp2_with fail
      go_meet
      exact ⟨rfl, rfl⟩
  case rest =>
  obtain ⟨rfl, hwc⟩ := hcut
  replace hwc := hwc.symm
  subst hwc
  clear hin6 c0
  have HOKN : Hid (okN Q in6 = true) := by
    show _ = _
    unfold okN
    rw [HIN.out]
    have h6 := HL6.out
    rcases HL5.out with hv | hv
    · simp [hv, h6]
    · simp [hv, h6]
  go_wp2_with fail
  refine (wnew_c 3 wc).mono ?_
  rintro E w6 (⟨h, -⟩ | ⟨-, g13, rfl, hg13, hwin, haw⟩)
  · omega
  have HW := Lib.hid hwin
  have hbl := HBQ.out.lt
  have HOL : Hid (∀ k, (Q.o ≠ [] ∧ ou.ownBlock = some k) ∨ (Q.d ≠ [] ∧ dq.ownBlock = some k) → k < wc.heap.size) := fun k hk => by
    rcases hk with ⟨hb, hk⟩ | ⟨hb, hk⟩
    · exact HPQ.out.o.old hb k hk
    · exact HPQ.out.d.old hb k hk
  have hsc := HA.out.size
  replace HBQ := Lib.hid (HBQ.out.on haw)
  replace HPQ := Lib.hid (HPQ.out.on haw)
  replace HA := Lib.hid (HA.out.trans haw)
  clear hwin haw
  have K10 : Hid (∀ W, Away [] w6 W → Calls Tryd.prog 10 #[.agg (csP Q ou dq)] W (OwnOut W Q)) := fun W hW => ownP_c Q ou dq W (HPQ.out.on hW)
  go_wp2_with (refine wpList_load28 rfl _ rfl _ rfl Q _ _ (by exact HBQ.out) HQA.out ?_)
  refine (K10.out _ (Away.refl _ _)).mono ?_
  rintro E w7 ⟨ow, dw, rfl, hmi, haw⟩
  have HMI := Lib.hid hmi
  replace HBQ := Lib.hid (HBQ.out.on haw)
  replace HPQ := Lib.hid (HPQ.out.on haw)
  replace HW := Lib.hid (HW.out.on haw)
  replace HA := Lib.hid (HA.out.trans haw)
  clear hmi haw K10
  have K9 : Hid (Calls Tryd.prog 9 #[.pointer (some ⟨g13, 0, none⟩), .agg (csP Q ow dw), .bool in6, .int .u32 id] w7 (NoteOut w7 g13 (.slice none 0 0) 3 [] Q in6 id)) := note_c HW.out Q ow dw (HMI.out.pkt HQW.out) (HG.out.on HA.out) in6 id
  go_wp2_with fail
  refine K9.out.mono ?_
  rintro E w8 (⟨h, -⟩ | ⟨-, lv, ds, rfl, hwin, hds, -, haw0⟩)
  · rw [HOKN.out] at h; simp at h
  have haw : Away [g13] w7 w8 := haw0.mono (fun x hx => by simpa [Value.ownBlock] using hx)
  obtain ⟨T, hT⟩ : ∃ T, T = mkN Q in6 id := ⟨_, rfl⟩
  have HT := Lib.hid hT
  have HDS : Hid (ds.map (·.t) = [T]) := by rw [hT]; exact hds
  replace HW := Lib.hid hwin
  replace HBQ := Lib.hid (HBQ.out.away haw (by simp; omega))
  replace HPQ : Hid (Pkt w8 Q ou dq) := ⟨HQW.out, HPQ.out.o.away haw (fun hb k hk => by have := HOL.out k (.inl ⟨hb, hk⟩); simp; omega), HPQ.out.d.away haw (fun hb k hk => by have := HOL.out k (.inr ⟨hb, hk⟩); simp; omega)⟩
  replace HA := Lib.hid (HA.out.next haw (fun x hx => .inr (by simp at hx; omega)))
  clear hwin hds haw haw0 K9 HMI hT HOL hbl hsc hg13 HOKN HL6
  have K10 : Hid (Calls Tryd.prog 10 #[.agg (csP Q ou dq)] w8 (OwnOut w8 Q)) := ownP_c Q ou dq w8 HPQ.out
  go_wp2_with (refine wpList_load28 rfl _ rfl _ rfl Q _ _ (by exact HBQ.out) HQA.out ?_)
  refine K10.out.mono ?_
  rintro E w9 ⟨ox, dx, rfl, hmi, haw⟩
  obtain ⟨o1, o2⟩ := hmi.one
  have HM := Lib.hid hmi
  have HA9 := Lib.hid haw
  clear hmi haw K10
  go_wp2_with (first | (refine wpList_alloc28 rfl rfl ?_; refine Hid.out ?_))
  refine Lib.hid ?_
  intro g15 w10 hgn hb haw
  have HB := Lib.hid hb
  have HAL := Lib.hid haw
  clear hb haw
  go_wp2_with (first | (refine wpList_store28 rfl _ _ rfl _ rfl Q ox dx rfl zeroPk (.slice none 0 0) (.slice none 0 0) (by exact HB.out) (by exact HQW.out.ad) ⟨rfl, rfl⟩ o1 o2 ?_; refine Hid.out ?_))
  refine Lib.hid ?_
  intro w11 hb haw
  have HVX : Hid (Va w8 w11 g15 Q ox dx) := Va.new HM.out HQW.out HA9.out hgn HAL.out hb haw
  clear hb haw HB HAL HM HA9 hgn o1 o2
  have HXA : Hid (Away [] w8 w11) := HVX.out.aw
  obtain ⟨X, hX⟩ : ∃ X, X = hereP Q in6 id := ⟨_, rfl⟩
  have HX := Lib.hid hX
  have HXW : Hid (Wf X) := by rw [hX]; exact here_wf HQW.out in6 HI.out.1 HI.out.2
  have hxf := here_facts Q in6 id HL4.out
  rw [← hX] at hxf
  have HXF := Lib.hid hxf
  clear hxf hX HXA
  go_upto_if 62 with fail
  go_cut [] (fun wc => Va w8 wc g15 X ox dx)
  case first =>
    cases in6
    · have e : X = Q := HX.out
      have HE := Lib.hid e
      clear e
      go_wp2_with fail
      go_meet
      rw [HE.out]; exact HVX.out
    · have f42 := (HVX.out.box.cells HQA.out).frag
      have t42 := HVX.out.box.free 42
      have HV2 := Lib.hid (HVX.out.put 42 (.bool true) ((csP_set HQA.out _ _).2.2.2.2.2.2.2.2.2.2.1 true) (wf_frag HQW.out true) rfl rfl)
      go_upto_region 13 with fail
      clear f42 t42 HVX
      generalize w11.setCell ⟨g15, 42, none⟩ (.bool true) = w12 at *
      have f39 := (HV2.out.box.cells HQA.out).id
      have t39 := HV2.out.box.free 39
      have HV3 : Hid (Va w8 (w12.setCell ⟨g15, 39, none⟩ (.int .u32 id)) g15 X ox dx) := HV2.out.put 39 (.int .u32 id) (by rw [(csP_set (p := { Q with frag := true }) HQA.out _ _).2.2.2.2.2.2.2.1 id, HX.out]; rfl) HXW.out (by rw [HX.out]; rfl) (by rw [HX.out]; rfl)
      go_wp2_with fail
      go_meet
      exact HV3.out
  case rest =>
  replace HVX := Lib.hid hcut
  clear hcut
  have HWX := Lib.hid (HW.out.on HVX.out.aw)
  have HXL : Hid (X.d ≠ []) := by rw [HXF.out.2.2.1]; exact HNE.out
  obtain ⟨L, hL⟩ : ∃ L, L = longQ Q := ⟨_, rfl⟩
  have HLL := Lib.hid hL
  have HTN : Hid (T.n = L) := by rw [HT.out, hL]; exact HL1.out
  have HSX : Hid (showsP T X = true) := by
    rw [HT.out]
    obtain ⟨a1, a2, a3, a4, a5, a6, a7, a8, a9, a10, a11⟩ := HXF.out
    exact shows_like (a1.trans HL2.out) a2 ⟨a5, a6, a7, a8, a9, a10, a11⟩ (by rw [a3, List.length_take, ← List.take_take, List.take_length]) (by rw [a3, List.length_take]; omega)
  have K14 : Hid (∀ W, Away [] w8 W → Calls Tryd.prog 14 #[.agg (csP Q ou dq)] W fun E w' => E = .returned (.int .i64 L) ∧ Away [] W w') := fun W hW => by
    rw [hL]; exact long_c Q ou dq W (HPQ.out.on hW)
  have KM : Hid (∀ W, Away [] w8 W → ∀ (Z : Pk) (oz dz : Value), Pkt W Z oz dz → showsP T Z = true → Calls Tryd.prog 12 #[.pointer (some ⟨g13, 0, none⟩), .agg (csP Z oz dz)] W fun E w' => E = .returned (.tuple #[.int .i64 L, .bool true]) ∧ Away [] W w') := fun W hW Z oz dz hz hs => by
    have h1 := match_c (HW.out.on hW) Z oz dz hz
    rw [HDS.out, match_yes hs, HTN.out] at h1
    exact h1
  have KN : Hid (∀ W, Away [] w8 W → ∀ (Z : Pk) (oz dz : Value), Pkt W Z oz dz → showsP T Z = false → Calls Tryd.prog 12 #[.pointer (some ⟨g13, 0, none⟩), .agg (csP Z oz dz)] W fun E w' => E = .returned (.tuple #[.int .i64 0, .bool false]) ∧ Away [] W w') := fun W hW Z oz dz hz hs => by
    have h1 := match_c (HW.out.on hW) Z oz dz hz
    rw [HDS.out, match_no hs] at h1
    exact h1
  clear hL HWX HTN
  have K10 : Hid (Calls Tryd.prog 10 #[.agg (csP X ox dx)] wc (OwnOut wc X)) := ownP_c X ox dx wc HVX.out.pkt
  go_wp2_with (refine wpList_load28 rfl _ rfl _ rfl X _ _ (by exact HVX.out.box) (by exact HXW.out.ad) ?_)
  refine K10.out.mono ?_
  rintro E w13 ⟨oz, dz, rfl, hmi, haw⟩
  have HVX1 := Lib.hid (HVX.out.on haw)
  have K12 := Lib.hid (KM.out w13 HVX1.out.aw X oz dz (hmi.pkt HXW.out) HSX.out)
  clear hmi haw K10 HVX
  go_wp2_with fail
  refine K12.out.mono ?_
  rintro E w14 ⟨rfl, haw⟩
  have HVX := Lib.hid (HVX1.out.on haw)
  have HBQ4 := Lib.hid (HBQ.out.on HVX.out.aw)
  clear haw K12 HVX1
  go_wp2_with (refine wpList_load28 rfl _ rfl _ rfl Q _ _ (by exact HBQ4.out) HQA.out ?_)
  refine (K14.out _ HVX.out.aw).mono ?_
  rintro E w15 ⟨rfl, haw⟩
  replace HVX := Lib.hid (HVX.out.on haw)
  clear haw HBQ4
  have K10 : Hid (Calls Tryd.prog 10 #[.agg (csP X ox dx)] w15 (OwnOut w15 X)) := ownP_c X ox dx w15 HVX.out.pkt
  go_wp2_with (refine wpList_load28 rfl _ rfl _ rfl X _ _ (by exact HVX.out.box) (by exact HXW.out.ad) ?_)
  refine K10.out.mono ?_
  rintro E w16 ⟨oy, dy, rfl, hmi, haw⟩
  obtain ⟨o1, o2⟩ := hmi.one
  have HM := Lib.hid hmi
  have HA9 := Lib.hid haw
  clear hmi haw K10
  go_wp2_with (first | (refine wpList_alloc28 rfl rfl ?_; refine Hid.out ?_))
  refine Lib.hid ?_
  intro g18 w17 hgn hb haw
  have HB := Lib.hid hb
  have HAL := Lib.hid haw
  clear hb haw
  go_wp2_with (first | (refine wpList_store28 rfl _ _ rfl _ rfl X oy dy rfl zeroPk (.slice none 0 0) (.slice none 0 0) (by exact HB.out) (by exact HXW.out.ad) ⟨rfl, rfl⟩ o1 o2 ?_; refine Hid.out ?_))
  refine Lib.hid ?_
  intro w18 hb haw
  have HVY : Hid (Va w15 w18 g18 X oy dy) := Va.new HM.out HXW.out HA9.out hgn HAL.out hb haw
  clear hb haw HB HAL HM HA9 hgn o1 o2
  obtain ⟨ta, hta⟩ : ∃ z, bits .and .i64 kk 255 = z := ⟨_, rfl⟩
  obtain ⟨tb, htb⟩ : ∃ z, bits .and .i64 kk 127 = z := ⟨_, rfl⟩
  obtain ⟨tc, htc⟩ : ∃ z, bits .and .i64 kk 7 = z := ⟨_, rfl⟩
  have hba := and255 kk
  have hbb := and127 kk
  have hbc := and7 kk
  rw [hta] at hba
  rw [htb] at hbb
  rw [htc] at hbc
  obtain ⟨xm, hxm⟩ : ∃ b, b = X.more := ⟨_, rfl⟩
  obtain ⟨xd, hxd⟩ : ∃ b, b = X.df := ⟨_, rfl⟩
  have f1 := (HVY.out.box.cells HVY.out.wf.ad).tos
  have t1 := HVY.out.box.free 1
  have HV2 := Lib.hid (HVY.out.put 1 (.int .i64 ta) ((csP_set HVY.out.wf.ad _ _).2.1 (ta)) (wf_tos HVY.out.wf (by simp only [i64ok]; omega)) rfl rfl)
  go_upto_region 19 with fail
  clear f1 t1 HVY
  generalize w18.setCell ⟨g18, 1, none⟩ (.int .i64 ta) = w19 at *
  have HVY := HV2
  clear HV2
  have f38 := (HVY.out.box.cells HVY.out.wf.ad).ttl
  have t38 := HVY.out.box.free 38
  have HV2 := Lib.hid (HVY.out.put 38 (.int .i64 tb) ((csP_set HVY.out.wf.ad _ _).2.2.2.2.2.2.1 (tb)) (wf_ttl HVY.out.wf (by simp only [i64ok]; omega)) rfl rfl)
  go_upto_region 20 with fail
  clear f38 t38 HVY
  generalize w19.setCell ⟨g18, 38, none⟩ (.int .i64 tb) = w20 at *
  have HVY := HV2
  clear HV2
  have f41 := (HVY.out.box.cells HVY.out.wf.ad).more
  have t41 := HVY.out.box.free 41
  have HV2 := Lib.hid (HVY.out.put 41 (.bool (!X.more)) ((csP_set HVY.out.wf.ad _ _).2.2.2.2.2.2.2.2.2.1 (!X.more)) (wf_more HVY.out.wf _) rfl rfl)
  go_upto_region 21 with fail
  clear f41 t41 HVY
  generalize w20.setCell ⟨g18, 41, none⟩ (.bool (!X.more)) = w21 at *
  have HVY := HV2
  clear HV2
  have f40 := (HVY.out.box.cells HVY.out.wf.ad).df
  have t40 := HVY.out.box.free 40
  have HV2 := Lib.hid (HVY.out.put 40 (.bool (!X.df)) ((csP_set HVY.out.wf.ad _ _).2.2.2.2.2.2.2.2.1 (!X.df)) (wf_df HVY.out.wf _) rfl rfl)
  go_upto_region 22 with fail
  clear f40 t40 HVY
  generalize w21.setCell ⟨g18, 40, none⟩ (.bool (!X.df)) = w22 at *
  have HVY := HV2
  clear HV2
  have f2 := (HVY.out.box.cells HVY.out.wf.ad).flow
  have t2 := HVY.out.box.free 2
  have HV2 := Lib.hid (HVY.out.put 2 (.int .i64 tc) ((csP_set HVY.out.wf.ad _ _).2.2.1 (tc)) (wf_flow HVY.out.wf (by simp only [i64ok]; omega)) rfl rfl)
  go_upto_region 23 with fail
  clear f2 t2 HVY
  generalize w22.setCell ⟨g18, 2, none⟩ (.int .i64 tc) = w23 at *
  have HVY := HV2
  clear HV2
  obtain ⟨Y0, hY0⟩ : ∃ Y0 : Pk, Y0 = { X with tos := ta, ttl := tb, more := !X.more, df := !X.df, flow := tc } := ⟨_, rfl⟩
  have HY0 := Lib.hid hY0
  rw [← hY0] at HVY
  clear hY0 hta htb htc hba hbb hbc hxm hxd
  have hA := (Away.refl [] w23).alloc (.cells #[.int .u8 1, .int .u8 1, .int .u8 1, .int .u8 1] 5)
  have HV2 := Lib.hid (HVY.out.on hA)
  have hl23 := HVY.out.box.lt
  have hw15 := HVY.out.aw.size
  have HV3 := Lib.hid (HV2.out.opts (.slice (some ⟨w23.heap.size, 0, none⟩) 4 4) [1, 1, 1, 1] (own_lit w23 [1, 1, 1, 1]) (fun k hk => by
    simp [Value.ownBlock] at hk
    subst hk
    exact ⟨by omega, by omega, fun e => by have := HVY.out.d.lt _ e; omega⟩) (wf_o HV2.out.wf (by unfold Bytes; decide) (by simp)))
  have f44 := (HV2.out.box.cells HV2.out.wf.ad).o
  have t44 := HV2.out.box.free 44
  clear hA hl23 hw15
  go_upto_region 24 with fail
  clear f44 t44 HV2 HVY
  generalize w23.heap.size = n23 at *
  generalize (w23.alloc (.cells #[.int .u8 1, .int .u8 1, .int .u8 1, .int .u8 1] 5)).setCell ⟨g18, 44, none⟩ (.slice (some ⟨n23, 0, none⟩) 4 4) = w24a at *
  obtain ⟨Y1, hY1⟩ : ∃ Y1 : Pk, Y1 = { Y0 with o := [1, 1, 1, 1] } := ⟨_, rfl⟩
  have HY1 := Lib.hid hY1
  rw [← hY1] at HV3
  clear hY1
  have HYD : Hid (Y1.d = X.d) := by show _ = _; rw [HY1.out, HY0.out]
  obtain ⟨yb, yc, rfl⟩ := HV3.out.d.shape' (by rw [HYD.out]; exact HXL.out)
  obtain ⟨m, hm⟩ : ∃ m, m = Y1.d.length := ⟨_, rfl⟩
  rw [← hm] at HV3
  have HMM := Lib.hid hm
  have hmb : m ≤ 140737488355328 := by rw [hm]; exact HV3.out.wf.dn
  clear hm
  obtain ⟨k8, hk8⟩ : ∃ k8 : Nat, k8 = min 8 m := ⟨_, rfl⟩
  have hmin : min 8 (m : Int) = (k8 : Int) := by omega
  have HOC : Hid (m ≤ yc) := by
    rcases HV3.out.d.2 with ⟨h2, -⟩ | ⟨g, cap, cur, he, hg, hh, hn', hc, hs, ht⟩
    · simp at h2
    · simp only [Value.slice.injEq] at he
      rw [he.2.2]; show m ≤ cap
      have h3 := he.2.1
      omega
  have hk8y : k8 ≤ yc := by have := HOC.out; omega
  have hs8 := slice_h (some ⟨yb, 0, none⟩) m yc k8 (k8 : Int) rfl hk8y
  have HOW : Hid (Owns w24a (.slice (some ⟨yb, 0, none⟩) k8 yc) (Y1.d.take k8)) := HV3.out.d.head k8 (by rw [← HMM.out]; omega)
  have HT8 : Hid (Y1.d.take k8 = X.d.take 8) := by
    show _ = _
    rw [HYD.out, hk8]
    rcases Nat.lt_or_ge m 8 with h | h
    · rw [Nat.min_eq_right (by omega), List.take_of_length_le (by rw [← HYD.out, ← HMM.out]; omega), List.take_of_length_le (by rw [← HYD.out, ← HMM.out]; omega)]
    · rw [Nat.min_eq_left h]
  have hk8b : k8 ≤ 8 := by omega
  have HK8L : Hid ((Y1.d.take k8).length = k8) := by show _ = _; rw [List.length_take, ← HMM.out]; omega
  clear hk8
  have f45 := (HV3.out.box.cells HV3.out.wf.ad).d
  have hA := (Away.refl [] w24a).alloc (.cells #[.int .u8 7] 5)
  have HV4 := Lib.hid (HV3.out.on hA)
  have HOW4 := Lib.hid (HOW.out.away hA (by simp))
  have HLIT := Lib.hid (lit_cells w24a [7] w24a.heap.size rfl)
  clear hA
  go_wp2_with (at_builtin; refine wpList_app rfl _ _ rfl (.slice (some ⟨yb, 0, none⟩) k8 yc) (Y1.d.take k8) [7] rfl (by exact HOW4.out) ⟨w24a.heap.size, 0, none⟩ 1 1 rfl rfl (by exact HLIT.out) (by rw [HK8L.out]; omega) ?_; refine Hid.out ?_)
  refine Lib.hid ?_
  intro v' w24b hown hgr hmv
  have hA2 : Away [yb] (w24a.alloc (.cells #[.int .u8 7] 5)) w24b := (Away.refl _ _).grown hgr (fun z hz => .inl (by simp [Value.ownBlock] at hz; simp [hz]))
  have hnb := HV4.out.nd yb rfl
  have hszb : w24a.heap.size ≤ (w24a.alloc (.cells #[.int .u8 7] 5)).heap.size := by simp
  have hsz15 : w15.heap.size ≤ w24a.heap.size := HV3.out.aw.size
  have hg18 : g18 < w24a.heap.size := HV3.out.box.lt
  have HLO : Hid (∀ k, (Value.slice (some ⟨n23, 0, none⟩) 4 4).ownBlock = some k → k < w24a.heap.size) := HV3.out.o.lt
  have HNV : Hid (∀ k, v'.ownBlock = some k → w15.heap.size ≤ k ∧ k ≠ g18 ∧ (Value.slice (some ⟨n23, 0, none⟩) 4 4).ownBlock ≠ some k) := fun k hk => by
    rcases hmv k hk with h1 | h1
    · simp [Value.ownBlock] at h1
      subst h1
      exact ⟨hnb.1, hnb.2, fun e => HV4.out.ap _ e rfl⟩
    · exact ⟨by omega, by omega, fun e => by have := HLO.out k e; omega⟩
  have HOB : Hid (Owns w24b v' (X.d.take 8 ++ [7])) := by rw [← HT8.out]; exact hown
  have HBO : Hid (BoxP w24b g18 Y1 (.slice (some ⟨n23, 0, none⟩) 4 4) (.slice (some ⟨yb, 0, none⟩) m yc) ∧ Owns w24b (.slice (some ⟨n23, 0, none⟩) 4 4) Y1.o ∧ Away [] w15 w24b) := ⟨HV4.out.box.away hA2 (by simp; omega), HV4.out.o.away hA2 (fun k hk => by
    have h2 := HV4.out.ap k hk
    simp [Value.ownBlock] at h2
    simp; exact fun e => h2 e.symm), HV4.out.aw.next hA2 (fun x hx => .inr (by simp at hx; rw [hx]; exact hnb.1))⟩
  have HYW : Hid (Wf { Y1 with d := X.d.take 8 ++ [7] }) := wf_d HV4.out.wf ((HXW.out.d.take 8).app (by unfold Bytes; decide)) (by rw [List.length_append, List.length_take]; simp; omega)
  obtain ⟨va, vc, rfl⟩ := HOB.out.shape
  obtain ⟨m2, hm2⟩ : ∃ m2, m2 = (X.d.take 8 ++ [7]).length := ⟨_, rfl⟩
  rw [← hm2] at HOB HNV ⊢
  clear hm2
  obtain ⟨Y, hY⟩ : ∃ Y : Pk, Y = { Y1 with d := X.d.take 8 ++ [7] } := ⟨_, rfl⟩
  have HVY : Hid (Va w15 (w24b.setCell ⟨g18, 45, none⟩ (.slice va m2 vc)) g18 Y (.slice (some ⟨n23, 0, none⟩) 4 4) (.slice va m2 vc)) := by
    rw [hY]
    exact ⟨HBO.out.2.2.setCell (.inr HV4.out.ng) _, HBO.out.1.put 45 _ ((csP_set HV4.out.wf.ad _ _).2.2.2.2.2.2.2.2.2.2.2.2.2 _ _), HYW.out, HBO.out.2.1.away (away_put (g := g18) 45 _) (fun k hk => by simpa using (HV4.out.no k hk).2), HOB.out.away (away_put (g := g18) 45 _) (fun k hk => by simpa using (HNV.out k hk).2.1), HV4.out.ng, HV4.out.no, fun k hk => ⟨(HNV.out k hk).1, (HNV.out k hk).2.1⟩, fun k hk e => (HNV.out k e).2.2 hk⟩
  have HYE := Lib.hid hY
  have s45 := (HBO.out.1.cells HV4.out.wf.ad).d
  have t45 := HBO.out.1.free 45
  clear hown hgr hmv hA2 hnb hszb hsz15 hg18 HNV HOB HYW HV4 HOW4 HOW HLIT HV3 f45 hs8 hmin HLO hY HOC hk8y hk8b HK8L
  go_upto_region 25 with fail
  clear s45 t45 HBO
  generalize w24b.setCell ⟨g18, 45, none⟩ (.slice va m2 vc) = w24 at *
  have HVX2 := Lib.hid (HVX.out.on HVY.out.aw)
  have HYS : Hid (showsP T Y = true) := by
      rw [HT.out]
      obtain ⟨a1, a2, a3, a4, a5, a6, a7, a8, a9, a10, a11⟩ := HXF.out
      refine shows_like ?_ ?_ ?_ ?_ ?_
      · rw [HYE.out, HY1.out, HY0.out]; exact a1.trans HL2.out
      · rw [HYE.out, HY1.out, HY0.out]; exact a2
      · rw [HYE.out, HY1.out, HY0.out]; exact ⟨a5, a6, a7, a8, a9, a10, a11⟩
      · rw [HYE.out]; show (X.d.take 8 ++ [7]).take _ = _
        rw [a3, List.take_append_of_le_length (Nat.le_refl _), List.take_of_length_le (Nat.le_refl _)]
      · rw [HYE.out]; show _ ≤ (X.d.take 8 ++ [7]).length
        rw [a3, List.length_append]; omega
  have K12 := Lib.hid (KM.out w24 HVX2.out.aw Y _ _ HVY.out.pkt HYS.out)
  have HYA := Lib.hid HVY.out.wf.ad
  have HBY := Lib.hid HVY.out.box
  clear HVY HYS HYE HSX
  go_wp2_with (refine wpList_load28 rfl _ rfl _ rfl Y _ _ (by exact HBY.out) HYA.out ?_)
  refine K12.out.mono ?_
  rintro E w25 ⟨rfl, haw⟩
  have HVX3 := Lib.hid (HVX2.out.on haw)
  clear haw K12 HVX2 HBY HYA HVX
  have HVX := HVX3
  clear HVX3

  obtain rfl | rfl | rfl | rfl | rfl | rfl | rfl | rfl : k = 0 ∨ k = 1 ∨ k = 2 ∨ k = 3 ∨ k = 4 ∨ k = 5 ∨ k = 6 ∨ k = 7 := by omega
  · clear hk7
    have f43 := (HVX.out.box.cells HXW.out.ad).off
    have t43 := HVX.out.box.free 43
    have HV2 : Hid (Va w8 (w25.setCell ⟨g15, 43, none⟩ (.int .i64 8)) g15 { X with off := 8 } ox dx) := HVX.out.put 43 (.int .i64 8) ((csP_set HXW.out.ad _ _).2.2.2.2.2.2.2.2.2.2.2.1 (8)) (wf_off HXW.out (by simp [i64ok])) rfl rfl
    go_upto_region 43 with fail
    clear f43 t43 HVX
    generalize w25.setCell ⟨g15, 43, none⟩ (.int .i64 8) = w26 at *
    have HVX := HV2
    clear HV2
    have HNO : Hid (showsP T { X with off := 8 } = false) := by
      rw [Bool.eq_false_iff]
      intro e
      obtain ⟨b1, b2, b3, b4, b5⟩ := shows_parts e
      have b1 : (8 : Int) = 0 := b1
      omega
    have HBZ := Lib.hid HVX.out.box
    have HZA := Lib.hid HVX.out.wf.ad
    have K12 := Lib.hid (KN.out w26 HVX.out.aw { X with off := 8 } ox dx HVX.out.pkt HNO.out)
    go_wp2_with (refine wpList_load28 rfl _ rfl _ rfl _ _ _ (by exact HBZ.out) HZA.out ?_)
    refine K12.out.mono ?_
    rintro E y1 ⟨rfl, haw⟩
    have HV8 := Lib.hid (HVX.out.on haw)
    have HBQ8 := Lib.hid (HBQ.out.on HV8.out.aw)
    clear haw K12 HVX HBZ
    go_wp2_with (refine wpList_load28 rfl _ rfl _ rfl Q _ _ (by exact HBQ8.out) HQA.out ?_)
    refine (K14.out _ HV8.out.aw).mono ?_
    rintro E y2 ⟨rfl, haw⟩
    have HFA := Lib.hid ((HA.out.trans HV8.out.aw).trans haw)
    clear haw HBQ8
    go_wp2_with fail
    go_ret
    exact ⟨rfl, HFA.out.to_below⟩
  · clear hk7
    obtain ⟨i, hi⟩ : ∃ i, bits .and .i64 kk 3 = i := ⟨_, rfl⟩
    have hi3 := and3 kk
    rw [hi] at hi3
    obtain rfl | rfl | rfl | rfl : i = 0 ∨ i = 1 ∨ i = 2 ∨ i = 3 := by omega
    · clear hi3
      obtain ⟨x, hx⟩ : ∃ x, X.sb[0]? = some x := ⟨X.sb[0]'(by rw [HXW.out.sl]; omega), List.getElem?_eq_getElem _⟩
      have hxb : 0 ≤ x ∧ x ≤ 255 := HXW.out.sb x (List.mem_of_getElem? hx)
      obtain ⟨⟨x0, x1, x2⟩, -⟩ := xor8 hxb.1 hxb.2
      obtain ⟨y, hy⟩ : ∃ y, bits .xor .u8 x 1 = y := ⟨_, rfl⟩
      rw [hy] at x0 x1 x2
      have HXX := Lib.hid hx
      have HX2 := Lib.hid x2
      clear hx x2
      have f4 := range_cell HVX.out.box.srow 0 x HXX.out
      have t4 := HVX.out.box.free 4
      have HV2 : Hid (Va w8 (w25.setCell ⟨g15, 4, none⟩ (.int .u8 y)) g15 { X with sb := X.sb.set 0 y } ox dx) := HVX.out.put 4 (.int .u8 y) (csP_sb ox dx 0 (by rw [HXW.out.sl]; omega) y) (wf_sb HXW.out (by rw [List.length_set]; exact HXW.out.sl) (set_bytes HXW.out.sb ⟨x0, x1⟩)) rfl rfl
      go_upto_region 43 with fail
      clear f4 t4 HVX
      generalize w25.setCell ⟨g15, 4, none⟩ (.int .u8 y) = w26 at *
      have HVX := HV2
      clear HV2
      have HNO : Hid (showsP T { X with sb := X.sb.set 0 y } = false) := by
        rw [Bool.eq_false_iff]
        intro e
        obtain ⟨b1, b2, b3, b4, b5⟩ := shows_parts e
        obtain ⟨a1, a2, a3, a4, a5, a6⟩ := key_here Q in6 id
        rw [HT.out] at b3
        have c3 := key_parts b3
        have e2 : X.sb.set 0 y = Q.sb := c3.2.2.1.trans a3
        have e3 : Q.sb = X.sb := HXF.out.2.2.2.2.2.2.1.symm
        rw [e3] at e2
        exact set_ne HXX.out HX2.out e2
      have HBZ := Lib.hid HVX.out.box
      have HZA := Lib.hid HVX.out.wf.ad
      have K12 := Lib.hid (KN.out w26 HVX.out.aw { X with sb := X.sb.set 0 y } ox dx HVX.out.pkt HNO.out)
      go_wp2_with (refine wpList_load28 rfl _ rfl _ rfl _ _ _ (by exact HBZ.out) HZA.out ?_)
      refine K12.out.mono ?_
      rintro E y1 ⟨rfl, haw⟩
      have HV8 := Lib.hid (HVX.out.on haw)
      have HBQ8 := Lib.hid (HBQ.out.on HV8.out.aw)
      clear haw K12 HVX HBZ
      go_wp2_with (refine wpList_load28 rfl _ rfl _ rfl Q _ _ (by exact HBQ8.out) HQA.out ?_)
      refine (K14.out _ HV8.out.aw).mono ?_
      rintro E y2 ⟨rfl, haw⟩
      have HFA := Lib.hid ((HA.out.trans HV8.out.aw).trans haw)
      clear haw HBQ8
      go_wp2_with fail
      go_ret
      exact ⟨rfl, HFA.out.to_below⟩
    · clear hi3
      obtain ⟨x, hx⟩ : ∃ x, X.sb[1]? = some x := ⟨X.sb[1]'(by rw [HXW.out.sl]; omega), List.getElem?_eq_getElem _⟩
      have hxb : 0 ≤ x ∧ x ≤ 255 := HXW.out.sb x (List.mem_of_getElem? hx)
      obtain ⟨⟨x0, x1, x2⟩, -⟩ := xor8 hxb.1 hxb.2
      obtain ⟨y, hy⟩ : ∃ y, bits .xor .u8 x 1 = y := ⟨_, rfl⟩
      rw [hy] at x0 x1 x2
      have HXX := Lib.hid hx
      have HX2 := Lib.hid x2
      clear hx x2
      have f5 := range_cell HVX.out.box.srow 1 x HXX.out
      have t5 := HVX.out.box.free 5
      have HV2 : Hid (Va w8 (w25.setCell ⟨g15, 5, none⟩ (.int .u8 y)) g15 { X with sb := X.sb.set 1 y } ox dx) := HVX.out.put 5 (.int .u8 y) (csP_sb ox dx 1 (by rw [HXW.out.sl]; omega) y) (wf_sb HXW.out (by rw [List.length_set]; exact HXW.out.sl) (set_bytes HXW.out.sb ⟨x0, x1⟩)) rfl rfl
      go_upto_region 43 with fail
      clear f5 t5 HVX
      generalize w25.setCell ⟨g15, 5, none⟩ (.int .u8 y) = w26 at *
      have HVX := HV2
      clear HV2
      have HNO : Hid (showsP T { X with sb := X.sb.set 1 y } = false) := by
        rw [Bool.eq_false_iff]
        intro e
        obtain ⟨b1, b2, b3, b4, b5⟩ := shows_parts e
        obtain ⟨a1, a2, a3, a4, a5, a6⟩ := key_here Q in6 id
        rw [HT.out] at b3
        have c3 := key_parts b3
        have e2 : X.sb.set 1 y = Q.sb := c3.2.2.1.trans a3
        have e3 : Q.sb = X.sb := HXF.out.2.2.2.2.2.2.1.symm
        rw [e3] at e2
        exact set_ne HXX.out HX2.out e2
      have HBZ := Lib.hid HVX.out.box
      have HZA := Lib.hid HVX.out.wf.ad
      have K12 := Lib.hid (KN.out w26 HVX.out.aw { X with sb := X.sb.set 1 y } ox dx HVX.out.pkt HNO.out)
      go_wp2_with (refine wpList_load28 rfl _ rfl _ rfl _ _ _ (by exact HBZ.out) HZA.out ?_)
      refine K12.out.mono ?_
      rintro E y1 ⟨rfl, haw⟩
      have HV8 := Lib.hid (HVX.out.on haw)
      have HBQ8 := Lib.hid (HBQ.out.on HV8.out.aw)
      clear haw K12 HVX HBZ
      go_wp2_with (refine wpList_load28 rfl _ rfl _ rfl Q _ _ (by exact HBQ8.out) HQA.out ?_)
      refine (K14.out _ HV8.out.aw).mono ?_
      rintro E y2 ⟨rfl, haw⟩
      have HFA := Lib.hid ((HA.out.trans HV8.out.aw).trans haw)
      clear haw HBQ8
      go_wp2_with fail
      go_ret
      exact ⟨rfl, HFA.out.to_below⟩
    · clear hi3
      obtain ⟨x, hx⟩ : ∃ x, X.sb[2]? = some x := ⟨X.sb[2]'(by rw [HXW.out.sl]; omega), List.getElem?_eq_getElem _⟩
      have hxb : 0 ≤ x ∧ x ≤ 255 := HXW.out.sb x (List.mem_of_getElem? hx)
      obtain ⟨⟨x0, x1, x2⟩, -⟩ := xor8 hxb.1 hxb.2
      obtain ⟨y, hy⟩ : ∃ y, bits .xor .u8 x 1 = y := ⟨_, rfl⟩
      rw [hy] at x0 x1 x2
      have HXX := Lib.hid hx
      have HX2 := Lib.hid x2
      clear hx x2
      have f6 := range_cell HVX.out.box.srow 2 x HXX.out
      have t6 := HVX.out.box.free 6
      have HV2 : Hid (Va w8 (w25.setCell ⟨g15, 6, none⟩ (.int .u8 y)) g15 { X with sb := X.sb.set 2 y } ox dx) := HVX.out.put 6 (.int .u8 y) (csP_sb ox dx 2 (by rw [HXW.out.sl]; omega) y) (wf_sb HXW.out (by rw [List.length_set]; exact HXW.out.sl) (set_bytes HXW.out.sb ⟨x0, x1⟩)) rfl rfl
      go_upto_region 43 with fail
      clear f6 t6 HVX
      generalize w25.setCell ⟨g15, 6, none⟩ (.int .u8 y) = w26 at *
      have HVX := HV2
      clear HV2
      have HNO : Hid (showsP T { X with sb := X.sb.set 2 y } = false) := by
        rw [Bool.eq_false_iff]
        intro e
        obtain ⟨b1, b2, b3, b4, b5⟩ := shows_parts e
        obtain ⟨a1, a2, a3, a4, a5, a6⟩ := key_here Q in6 id
        rw [HT.out] at b3
        have c3 := key_parts b3
        have e2 : X.sb.set 2 y = Q.sb := c3.2.2.1.trans a3
        have e3 : Q.sb = X.sb := HXF.out.2.2.2.2.2.2.1.symm
        rw [e3] at e2
        exact set_ne HXX.out HX2.out e2
      have HBZ := Lib.hid HVX.out.box
      have HZA := Lib.hid HVX.out.wf.ad
      have K12 := Lib.hid (KN.out w26 HVX.out.aw { X with sb := X.sb.set 2 y } ox dx HVX.out.pkt HNO.out)
      go_wp2_with (refine wpList_load28 rfl _ rfl _ rfl _ _ _ (by exact HBZ.out) HZA.out ?_)
      refine K12.out.mono ?_
      rintro E y1 ⟨rfl, haw⟩
      have HV8 := Lib.hid (HVX.out.on haw)
      have HBQ8 := Lib.hid (HBQ.out.on HV8.out.aw)
      clear haw K12 HVX HBZ
      go_wp2_with (refine wpList_load28 rfl _ rfl _ rfl Q _ _ (by exact HBQ8.out) HQA.out ?_)
      refine (K14.out _ HV8.out.aw).mono ?_
      rintro E y2 ⟨rfl, haw⟩
      have HFA := Lib.hid ((HA.out.trans HV8.out.aw).trans haw)
      clear haw HBQ8
      go_wp2_with fail
      go_ret
      exact ⟨rfl, HFA.out.to_below⟩
    · clear hi3
      obtain ⟨x, hx⟩ : ∃ x, X.sb[3]? = some x := ⟨X.sb[3]'(by rw [HXW.out.sl]; omega), List.getElem?_eq_getElem _⟩
      have hxb : 0 ≤ x ∧ x ≤ 255 := HXW.out.sb x (List.mem_of_getElem? hx)
      obtain ⟨⟨x0, x1, x2⟩, -⟩ := xor8 hxb.1 hxb.2
      obtain ⟨y, hy⟩ : ∃ y, bits .xor .u8 x 1 = y := ⟨_, rfl⟩
      rw [hy] at x0 x1 x2
      have HXX := Lib.hid hx
      have HX2 := Lib.hid x2
      clear hx x2
      have f7 := range_cell HVX.out.box.srow 3 x HXX.out
      have t7 := HVX.out.box.free 7
      have HV2 : Hid (Va w8 (w25.setCell ⟨g15, 7, none⟩ (.int .u8 y)) g15 { X with sb := X.sb.set 3 y } ox dx) := HVX.out.put 7 (.int .u8 y) (csP_sb ox dx 3 (by rw [HXW.out.sl]; omega) y) (wf_sb HXW.out (by rw [List.length_set]; exact HXW.out.sl) (set_bytes HXW.out.sb ⟨x0, x1⟩)) rfl rfl
      go_upto_region 43 with fail
      clear f7 t7 HVX
      generalize w25.setCell ⟨g15, 7, none⟩ (.int .u8 y) = w26 at *
      have HVX := HV2
      clear HV2
      have HNO : Hid (showsP T { X with sb := X.sb.set 3 y } = false) := by
        rw [Bool.eq_false_iff]
        intro e
        obtain ⟨b1, b2, b3, b4, b5⟩ := shows_parts e
        obtain ⟨a1, a2, a3, a4, a5, a6⟩ := key_here Q in6 id
        rw [HT.out] at b3
        have c3 := key_parts b3
        have e2 : X.sb.set 3 y = Q.sb := c3.2.2.1.trans a3
        have e3 : Q.sb = X.sb := HXF.out.2.2.2.2.2.2.1.symm
        rw [e3] at e2
        exact set_ne HXX.out HX2.out e2
      have HBZ := Lib.hid HVX.out.box
      have HZA := Lib.hid HVX.out.wf.ad
      have K12 := Lib.hid (KN.out w26 HVX.out.aw { X with sb := X.sb.set 3 y } ox dx HVX.out.pkt HNO.out)
      go_wp2_with (refine wpList_load28 rfl _ rfl _ rfl _ _ _ (by exact HBZ.out) HZA.out ?_)
      refine K12.out.mono ?_
      rintro E y1 ⟨rfl, haw⟩
      have HV8 := Lib.hid (HVX.out.on haw)
      have HBQ8 := Lib.hid (HBQ.out.on HV8.out.aw)
      clear haw K12 HVX HBZ
      go_wp2_with (refine wpList_load28 rfl _ rfl _ rfl Q _ _ (by exact HBQ8.out) HQA.out ?_)
      refine (K14.out _ HV8.out.aw).mono ?_
      rintro E y2 ⟨rfl, haw⟩
      have HFA := Lib.hid ((HA.out.trans HV8.out.aw).trans haw)
      clear haw HBQ8
      go_wp2_with fail
      go_ret
      exact ⟨rfl, HFA.out.to_below⟩
  · clear hk7
    obtain ⟨i, hi⟩ : ∃ i, bits .and .i64 kk 3 = i := ⟨_, rfl⟩
    have hi3 := and3 kk
    rw [hi] at hi3
    obtain rfl | rfl | rfl | rfl : i = 0 ∨ i = 1 ∨ i = 2 ∨ i = 3 := by omega
    · clear hi3
      obtain ⟨x, hx⟩ : ∃ x, X.db[0]? = some x := ⟨X.db[0]'(by rw [HXW.out.dl]; omega), List.getElem?_eq_getElem _⟩
      have hxb : 0 ≤ x ∧ x ≤ 255 := HXW.out.db x (List.mem_of_getElem? hx)
      obtain ⟨⟨x0, x1, x2⟩, -⟩ := xor8 hxb.1 hxb.2
      obtain ⟨y, hy⟩ : ∃ y, bits .xor .u8 x 1 = y := ⟨_, rfl⟩
      rw [hy] at x0 x1 x2
      have HXX := Lib.hid hx
      have HX2 := Lib.hid x2
      clear hx x2
      have f21 := range_cell (HVX.out.box.drow HXW.out.ad) 0 x HXX.out
      have t21 := HVX.out.box.free 21
      have HV2 : Hid (Va w8 (w25.setCell ⟨g15, 21, none⟩ (.int .u8 y)) g15 { X with db := X.db.set 0 y } ox dx) := HVX.out.put 21 (.int .u8 y) (csP_db HXW.out.sl ox dx 0 (by rw [HXW.out.dl]; omega) y) (wf_db HXW.out (by rw [List.length_set]; exact HXW.out.dl) (set_bytes HXW.out.db ⟨x0, x1⟩)) rfl rfl
      go_upto_region 43 with fail
      clear f21 t21 HVX
      generalize w25.setCell ⟨g15, 21, none⟩ (.int .u8 y) = w26 at *
      have HVX := HV2
      clear HV2
      have HNO : Hid (showsP T { X with db := X.db.set 0 y } = false) := by
        rw [Bool.eq_false_iff]
        intro e
        obtain ⟨b1, b2, b3, b4, b5⟩ := shows_parts e
        obtain ⟨a1, a2, a3, a4, a5, a6⟩ := key_here Q in6 id
        rw [HT.out] at b3
        have c3 := key_parts b3
        have e2 : X.db.set 0 y = Q.db := c3.2.2.2.2.1.trans a5
        have e3 : Q.db = X.db := HXF.out.2.2.2.2.2.2.2.2.1.symm
        rw [e3] at e2
        exact set_ne HXX.out HX2.out e2
      have HBZ := Lib.hid HVX.out.box
      have HZA := Lib.hid HVX.out.wf.ad
      have K12 := Lib.hid (KN.out w26 HVX.out.aw { X with db := X.db.set 0 y } ox dx HVX.out.pkt HNO.out)
      go_wp2_with (refine wpList_load28 rfl _ rfl _ rfl _ _ _ (by exact HBZ.out) HZA.out ?_)
      refine K12.out.mono ?_
      rintro E y1 ⟨rfl, haw⟩
      have HV8 := Lib.hid (HVX.out.on haw)
      have HBQ8 := Lib.hid (HBQ.out.on HV8.out.aw)
      clear haw K12 HVX HBZ
      go_wp2_with (refine wpList_load28 rfl _ rfl _ rfl Q _ _ (by exact HBQ8.out) HQA.out ?_)
      refine (K14.out _ HV8.out.aw).mono ?_
      rintro E y2 ⟨rfl, haw⟩
      have HFA := Lib.hid ((HA.out.trans HV8.out.aw).trans haw)
      clear haw HBQ8
      go_wp2_with fail
      go_ret
      exact ⟨rfl, HFA.out.to_below⟩
    · clear hi3
      obtain ⟨x, hx⟩ : ∃ x, X.db[1]? = some x := ⟨X.db[1]'(by rw [HXW.out.dl]; omega), List.getElem?_eq_getElem _⟩
      have hxb : 0 ≤ x ∧ x ≤ 255 := HXW.out.db x (List.mem_of_getElem? hx)
      obtain ⟨⟨x0, x1, x2⟩, -⟩ := xor8 hxb.1 hxb.2
      obtain ⟨y, hy⟩ : ∃ y, bits .xor .u8 x 1 = y := ⟨_, rfl⟩
      rw [hy] at x0 x1 x2
      have HXX := Lib.hid hx
      have HX2 := Lib.hid x2
      clear hx x2
      have f22 := range_cell (HVX.out.box.drow HXW.out.ad) 1 x HXX.out
      have t22 := HVX.out.box.free 22
      have HV2 : Hid (Va w8 (w25.setCell ⟨g15, 22, none⟩ (.int .u8 y)) g15 { X with db := X.db.set 1 y } ox dx) := HVX.out.put 22 (.int .u8 y) (csP_db HXW.out.sl ox dx 1 (by rw [HXW.out.dl]; omega) y) (wf_db HXW.out (by rw [List.length_set]; exact HXW.out.dl) (set_bytes HXW.out.db ⟨x0, x1⟩)) rfl rfl
      go_upto_region 43 with fail
      clear f22 t22 HVX
      generalize w25.setCell ⟨g15, 22, none⟩ (.int .u8 y) = w26 at *
      have HVX := HV2
      clear HV2
      have HNO : Hid (showsP T { X with db := X.db.set 1 y } = false) := by
        rw [Bool.eq_false_iff]
        intro e
        obtain ⟨b1, b2, b3, b4, b5⟩ := shows_parts e
        obtain ⟨a1, a2, a3, a4, a5, a6⟩ := key_here Q in6 id
        rw [HT.out] at b3
        have c3 := key_parts b3
        have e2 : X.db.set 1 y = Q.db := c3.2.2.2.2.1.trans a5
        have e3 : Q.db = X.db := HXF.out.2.2.2.2.2.2.2.2.1.symm
        rw [e3] at e2
        exact set_ne HXX.out HX2.out e2
      have HBZ := Lib.hid HVX.out.box
      have HZA := Lib.hid HVX.out.wf.ad
      have K12 := Lib.hid (KN.out w26 HVX.out.aw { X with db := X.db.set 1 y } ox dx HVX.out.pkt HNO.out)
      go_wp2_with (refine wpList_load28 rfl _ rfl _ rfl _ _ _ (by exact HBZ.out) HZA.out ?_)
      refine K12.out.mono ?_
      rintro E y1 ⟨rfl, haw⟩
      have HV8 := Lib.hid (HVX.out.on haw)
      have HBQ8 := Lib.hid (HBQ.out.on HV8.out.aw)
      clear haw K12 HVX HBZ
      go_wp2_with (refine wpList_load28 rfl _ rfl _ rfl Q _ _ (by exact HBQ8.out) HQA.out ?_)
      refine (K14.out _ HV8.out.aw).mono ?_
      rintro E y2 ⟨rfl, haw⟩
      have HFA := Lib.hid ((HA.out.trans HV8.out.aw).trans haw)
      clear haw HBQ8
      go_wp2_with fail
      go_ret
      exact ⟨rfl, HFA.out.to_below⟩
    · clear hi3
      obtain ⟨x, hx⟩ : ∃ x, X.db[2]? = some x := ⟨X.db[2]'(by rw [HXW.out.dl]; omega), List.getElem?_eq_getElem _⟩
      have hxb : 0 ≤ x ∧ x ≤ 255 := HXW.out.db x (List.mem_of_getElem? hx)
      obtain ⟨⟨x0, x1, x2⟩, -⟩ := xor8 hxb.1 hxb.2
      obtain ⟨y, hy⟩ : ∃ y, bits .xor .u8 x 1 = y := ⟨_, rfl⟩
      rw [hy] at x0 x1 x2
      have HXX := Lib.hid hx
      have HX2 := Lib.hid x2
      clear hx x2
      have f23 := range_cell (HVX.out.box.drow HXW.out.ad) 2 x HXX.out
      have t23 := HVX.out.box.free 23
      have HV2 : Hid (Va w8 (w25.setCell ⟨g15, 23, none⟩ (.int .u8 y)) g15 { X with db := X.db.set 2 y } ox dx) := HVX.out.put 23 (.int .u8 y) (csP_db HXW.out.sl ox dx 2 (by rw [HXW.out.dl]; omega) y) (wf_db HXW.out (by rw [List.length_set]; exact HXW.out.dl) (set_bytes HXW.out.db ⟨x0, x1⟩)) rfl rfl
      go_upto_region 43 with fail
      clear f23 t23 HVX
      generalize w25.setCell ⟨g15, 23, none⟩ (.int .u8 y) = w26 at *
      have HVX := HV2
      clear HV2
      have HNO : Hid (showsP T { X with db := X.db.set 2 y } = false) := by
        rw [Bool.eq_false_iff]
        intro e
        obtain ⟨b1, b2, b3, b4, b5⟩ := shows_parts e
        obtain ⟨a1, a2, a3, a4, a5, a6⟩ := key_here Q in6 id
        rw [HT.out] at b3
        have c3 := key_parts b3
        have e2 : X.db.set 2 y = Q.db := c3.2.2.2.2.1.trans a5
        have e3 : Q.db = X.db := HXF.out.2.2.2.2.2.2.2.2.1.symm
        rw [e3] at e2
        exact set_ne HXX.out HX2.out e2
      have HBZ := Lib.hid HVX.out.box
      have HZA := Lib.hid HVX.out.wf.ad
      have K12 := Lib.hid (KN.out w26 HVX.out.aw { X with db := X.db.set 2 y } ox dx HVX.out.pkt HNO.out)
      go_wp2_with (refine wpList_load28 rfl _ rfl _ rfl _ _ _ (by exact HBZ.out) HZA.out ?_)
      refine K12.out.mono ?_
      rintro E y1 ⟨rfl, haw⟩
      have HV8 := Lib.hid (HVX.out.on haw)
      have HBQ8 := Lib.hid (HBQ.out.on HV8.out.aw)
      clear haw K12 HVX HBZ
      go_wp2_with (refine wpList_load28 rfl _ rfl _ rfl Q _ _ (by exact HBQ8.out) HQA.out ?_)
      refine (K14.out _ HV8.out.aw).mono ?_
      rintro E y2 ⟨rfl, haw⟩
      have HFA := Lib.hid ((HA.out.trans HV8.out.aw).trans haw)
      clear haw HBQ8
      go_wp2_with fail
      go_ret
      exact ⟨rfl, HFA.out.to_below⟩
    · clear hi3
      obtain ⟨x, hx⟩ : ∃ x, X.db[3]? = some x := ⟨X.db[3]'(by rw [HXW.out.dl]; omega), List.getElem?_eq_getElem _⟩
      have hxb : 0 ≤ x ∧ x ≤ 255 := HXW.out.db x (List.mem_of_getElem? hx)
      obtain ⟨⟨x0, x1, x2⟩, -⟩ := xor8 hxb.1 hxb.2
      obtain ⟨y, hy⟩ : ∃ y, bits .xor .u8 x 1 = y := ⟨_, rfl⟩
      rw [hy] at x0 x1 x2
      have HXX := Lib.hid hx
      have HX2 := Lib.hid x2
      clear hx x2
      have f24 := range_cell (HVX.out.box.drow HXW.out.ad) 3 x HXX.out
      have t24 := HVX.out.box.free 24
      have HV2 : Hid (Va w8 (w25.setCell ⟨g15, 24, none⟩ (.int .u8 y)) g15 { X with db := X.db.set 3 y } ox dx) := HVX.out.put 24 (.int .u8 y) (csP_db HXW.out.sl ox dx 3 (by rw [HXW.out.dl]; omega) y) (wf_db HXW.out (by rw [List.length_set]; exact HXW.out.dl) (set_bytes HXW.out.db ⟨x0, x1⟩)) rfl rfl
      go_upto_region 43 with fail
      clear f24 t24 HVX
      generalize w25.setCell ⟨g15, 24, none⟩ (.int .u8 y) = w26 at *
      have HVX := HV2
      clear HV2
      have HNO : Hid (showsP T { X with db := X.db.set 3 y } = false) := by
        rw [Bool.eq_false_iff]
        intro e
        obtain ⟨b1, b2, b3, b4, b5⟩ := shows_parts e
        obtain ⟨a1, a2, a3, a4, a5, a6⟩ := key_here Q in6 id
        rw [HT.out] at b3
        have c3 := key_parts b3
        have e2 : X.db.set 3 y = Q.db := c3.2.2.2.2.1.trans a5
        have e3 : Q.db = X.db := HXF.out.2.2.2.2.2.2.2.2.1.symm
        rw [e3] at e2
        exact set_ne HXX.out HX2.out e2
      have HBZ := Lib.hid HVX.out.box
      have HZA := Lib.hid HVX.out.wf.ad
      have K12 := Lib.hid (KN.out w26 HVX.out.aw { X with db := X.db.set 3 y } ox dx HVX.out.pkt HNO.out)
      go_wp2_with (refine wpList_load28 rfl _ rfl _ rfl _ _ _ (by exact HBZ.out) HZA.out ?_)
      refine K12.out.mono ?_
      rintro E y1 ⟨rfl, haw⟩
      have HV8 := Lib.hid (HVX.out.on haw)
      have HBQ8 := Lib.hid (HBQ.out.on HV8.out.aw)
      clear haw K12 HVX HBZ
      go_wp2_with (refine wpList_load28 rfl _ rfl _ rfl Q _ _ (by exact HBQ8.out) HQA.out ?_)
      refine (K14.out _ HV8.out.aw).mono ?_
      rintro E y2 ⟨rfl, haw⟩
      have HFA := Lib.hid ((HA.out.trans HV8.out.aw).trans haw)
      clear haw HBQ8
      go_wp2_with fail
      go_ret
      exact ⟨rfl, HFA.out.to_below⟩
  · clear hk7
    have hxp : 0 ≤ X.proto ∧ X.proto ≤ 255 := by rw [HXF.out.2.2.2.2.2.2.2.2.2.1]; exact HQP.out
    obtain ⟨-, x0, x1, x2⟩ := xor8 hxp.1 hxp.2
    obtain ⟨y, hy⟩ : ∃ y, bits .xor .i64 X.proto 1 = y := ⟨_, rfl⟩
    rw [hy] at x0 x1 x2
    have HX2 := Lib.hid x2
    clear x2
    have f37 := (HVX.out.box.cells HXW.out.ad).proto
    have t37 := HVX.out.box.free 37
    have HV2 : Hid (Va w8 (w25.setCell ⟨g15, 37, none⟩ (.int .i64 y)) g15 { X with proto := y } ox dx) := HVX.out.put 37 (.int .i64 y) ((csP_set HXW.out.ad _ _).2.2.2.2.2.1 (y)) (wf_proto HXW.out (by simp only [i64ok]; omega)) rfl rfl
    go_upto_region 43 with fail
    clear f37 t37 HVX
    generalize w25.setCell ⟨g15, 37, none⟩ (.int .i64 y) = w26 at *
    have HVX := HV2
    clear HV2
    have HNO : Hid (showsP T { X with proto := y } = false) := by
      rw [Bool.eq_false_iff]
      intro e
      obtain ⟨b1, b2, b3, b4, b5⟩ := shows_parts e
      obtain ⟨a1, a2, a3, a4, a5, a6⟩ := key_here Q in6 id
      rw [HT.out] at b3
      have c3 := key_parts b3
      have e2 : y = Q.proto := c3.2.2.2.2.2.1.trans a6
      exact HX2.out (e2.trans HXF.out.2.2.2.2.2.2.2.2.2.1.symm)
    have HBZ := Lib.hid HVX.out.box
    have HZA := Lib.hid HVX.out.wf.ad
    have K12 := Lib.hid (KN.out w26 HVX.out.aw { X with proto := y } ox dx HVX.out.pkt HNO.out)
    go_wp2_with (refine wpList_load28 rfl _ rfl _ rfl _ _ _ (by exact HBZ.out) HZA.out ?_)
    refine K12.out.mono ?_
    rintro E y1 ⟨rfl, haw⟩
    have HV8 := Lib.hid (HVX.out.on haw)
    have HBQ8 := Lib.hid (HBQ.out.on HV8.out.aw)
    clear haw K12 HVX HBZ
    go_wp2_with (refine wpList_load28 rfl _ rfl _ rfl Q _ _ (by exact HBQ8.out) HQA.out ?_)
    refine (K14.out _ HV8.out.aw).mono ?_
    rintro E y2 ⟨rfl, haw⟩
    have HFA := Lib.hid ((HA.out.trans HV8.out.aw).trans haw)
    clear haw HBQ8
    go_wp2_with fail
    go_ret
    exact ⟨rfl, HFA.out.to_below⟩
  · clear hk7
    obtain ⟨x0, x1, x2⟩ := xor32 HXW.out.id0 HXW.out.id1
    obtain ⟨y, hy⟩ : ∃ y, bits .xor .u32 X.id 1 = y := ⟨_, rfl⟩
    rw [hy] at x0 x1 x2
    have HX2 := Lib.hid x2
    clear x2
    have f39 := (HVX.out.box.cells HXW.out.ad).id
    have t39 := HVX.out.box.free 39
    have HV2 : Hid (Va w8 (w25.setCell ⟨g15, 39, none⟩ (.int .u32 y)) g15 { X with id := y } ox dx) := HVX.out.put 39 (.int .u32 y) ((csP_set HXW.out.ad _ _).2.2.2.2.2.2.2.1 (y)) (wf_id HXW.out x0 x1) rfl rfl
    go_upto_region 43 with fail
    clear f39 t39 HVX
    generalize w25.setCell ⟨g15, 39, none⟩ (.int .u32 y) = w26 at *
    have HVX := HV2
    clear HV2
    have HNO : Hid (showsP T { X with id := y } = false) := by
      rw [Bool.eq_false_iff]
      intro e
      obtain ⟨b1, b2, b3, b4, b5⟩ := shows_parts e
      obtain ⟨a1, a2, a3, a4, a5, a6⟩ := key_here Q in6 id
      rw [HT.out] at b3
      have c3 := key_parts b3
      have e2 : y = (mkN Q in6 id).k.id := c3.2.2.2.2.2.2
      exact HX2.out (e2.trans HXF.out.2.2.2.2.2.2.2.2.2.2.symm)
    have HBZ := Lib.hid HVX.out.box
    have HZA := Lib.hid HVX.out.wf.ad
    have K12 := Lib.hid (KN.out w26 HVX.out.aw { X with id := y } ox dx HVX.out.pkt HNO.out)
    go_wp2_with (refine wpList_load28 rfl _ rfl _ rfl _ _ _ (by exact HBZ.out) HZA.out ?_)
    refine K12.out.mono ?_
    rintro E y1 ⟨rfl, haw⟩
    have HV8 := Lib.hid (HVX.out.on haw)
    have HBQ8 := Lib.hid (HBQ.out.on HV8.out.aw)
    clear haw K12 HVX HBZ
    go_wp2_with (refine wpList_load28 rfl _ rfl _ rfl Q _ _ (by exact HBQ8.out) HQA.out ?_)
    refine (K14.out _ HV8.out.aw).mono ?_
    rintro E y2 ⟨rfl, haw⟩
    have HFA := Lib.hid ((HA.out.trans HV8.out.aw).trans haw)
    clear haw HBQ8
    go_wp2_with fail
    go_ret
    exact ⟨rfl, HFA.out.to_below⟩
  · clear hk7
    have f42 := (HVX.out.box.cells HXW.out.ad).frag
    have t42 := HVX.out.box.free 42
    have HV2 : Hid (Va w8 (w25.setCell ⟨g15, 42, none⟩ (.bool (!X.frag))) g15 { X with frag := !X.frag } ox dx) := HVX.out.put 42 (.bool (!X.frag)) ((csP_set HXW.out.ad _ _).2.2.2.2.2.2.2.2.2.2.1 (!X.frag)) (wf_frag HXW.out _) rfl rfl
    go_upto_region 43 with fail
    clear f42 t42 HVX
    generalize w25.setCell ⟨g15, 42, none⟩ (.bool (!X.frag)) = w26 at *
    have HVX := HV2
    clear HV2
    have HNO : Hid (showsP T { X with frag := !X.frag } = false) := by
      rw [Bool.eq_false_iff]
      intro e
      obtain ⟨b1, b2, b3, b4, b5⟩ := shows_parts e
      rw [HT.out] at b2
      have e2 : (!X.frag) = in6 := b2
      rw [HXF.out.2.1] at e2
      cases in6 <;> simp at e2
    have HBZ := Lib.hid HVX.out.box
    have HZA := Lib.hid HVX.out.wf.ad
    have K12 := Lib.hid (KN.out w26 HVX.out.aw { X with frag := !X.frag } ox dx HVX.out.pkt HNO.out)
    go_wp2_with (refine wpList_load28 rfl _ rfl _ rfl _ _ _ (by exact HBZ.out) HZA.out ?_)
    refine K12.out.mono ?_
    rintro E y1 ⟨rfl, haw⟩
    have HV8 := Lib.hid (HVX.out.on haw)
    have HBQ8 := Lib.hid (HBQ.out.on HV8.out.aw)
    clear haw K12 HVX HBZ
    go_wp2_with (refine wpList_load28 rfl _ rfl _ rfl Q _ _ (by exact HBQ8.out) HQA.out ?_)
    refine (K14.out _ HV8.out.aw).mono ?_
    rintro E y2 ⟨rfl, haw⟩
    have HFA := Lib.hid ((HA.out.trans HV8.out.aw).trans haw)
    clear haw HBQ8
    go_wp2_with fail
    go_ret
    exact ⟨rfl, HFA.out.to_below⟩
  · clear hk7
    obtain ⟨xb, xc, rfl⟩ := HVX.out.d.shape' HXL.out
    obtain ⟨m, hm⟩ : ∃ m, m = X.d.length := ⟨_, rfl⟩
    rw [← hm] at HVX
    have HMM := Lib.hid hm
    have hmb : m ≤ 140737488355328 := by rw [hm]; exact HXW.out.dn
    have hm0 : 0 < m := by rw [hm]; exact List.length_pos_iff.2 HXL.out
    clear hm
    have f45 := (HVX.out.box.cells HXW.out.ad).d
    obtain ⟨j7, hj7⟩ : ∃ z, bits .and .i64 kk 7 = z := ⟨_, rfl⟩
    have hb7 := and7 kk
    rw [hj7] at hb7
    obtain ⟨k8, hk8⟩ : ∃ k8 : Nat, k8 = min 8 m := ⟨_, rfl⟩
    have hmin : min 8 (m : Int) = (k8 : Int) := by omega
    have hk0 : 0 < k8 := by omega
    have hk8b : k8 ≤ 8 ∧ k8 ≤ m := by omega
    obtain ⟨a, ha⟩ : ∃ a : Nat, j7.tmod (k8 : Int) = (a : Int) ∧ a < k8 := by
      have h1 := Int.emod_nonneg j7 (show (k8 : Int) ≠ 0 by omega)
      have h2 := Int.emod_lt_of_pos j7 (show (0 : Int) < k8 by omega)
      exact ⟨(j7 % k8).toNat, by rw [Int.tmod_eq_emod_of_nonneg hb7.1]; omega, by omega⟩
    obtain ⟨ha1, ha2⟩ := ha
    have HKM : Hid (k8 = min 8 m) := hk8
    clear hk8
    have z0 : ((k8 : Int) == 0) = false := by simp; omega
    have z0b : decide ((k8 : Int) = 0) = false := by simp; omega
    go_upto_region 42 with fail
    obtain ⟨x, hx⟩ : ∃ x, X.d[a]? = some x := ⟨X.d[a]'(by rw [← HMM.out]; omega), List.getElem?_eq_getElem _⟩
    have hxb : 0 ≤ x ∧ x ≤ 255 := HXW.out.d x (List.mem_of_getElem? hx)
    obtain ⟨⟨x0, x1, x2⟩, -⟩ := xor8 hxb.1 hxb.2
    obtain ⟨y, hy⟩ : ∃ y, bits .xor .u8 x 1 = y := ⟨_, rfl⟩
    rw [hy] at x0 x1 x2
    have HXX := Lib.hid hx
    have HX2 := Lib.hid x2
    have HCC := Lib.hid (HVX.out.d.cells a (by rw [← HMM.out]; omega))
    have cx : w25.cell? ⟨xb, a, none⟩ = some (.int .u8 x) := by rw [HCC.out.1, hx]; rfl
    have fx : w25.frozen? ⟨xb, a, none⟩ = false := HCC.out.2
    clear hx x2
    have i2 : 0 ≤ (a : Int) := by omega
    have i3 : (a : Int) < (m : Int) := by omega
    have i4 : ((a : Int)).toNat = a := by omega
    have HV2 : Hid (Va w8 (w25.setCell ⟨xb, a, none⟩ (.int .u8 y)) g15 { X with d := X.d.set a y } ox (.slice (some ⟨xb, 0, none⟩) m xc)) := by
      have h := HVX.out
      have hnb := h.nd xb rfl
      have hA := away_put (w := w25) (g := xb) a (.int .u8 y)
      refine ⟨h.aw.setCell (.inr hnb.1) _, ?_, wf_d HXW.out (set_bytes HXW.out.d ⟨x0, x1⟩) (by rw [List.length_set]; exact HXW.out.dn), h.o.away hA (fun k hk => ?_), h.d.set (HMM.out.symm) a y, h.ng, h.no, h.nd, h.ap⟩
      · exact h.box.away hA (by simp; exact fun e => hnb.2 e.symm)
      · have := h.ap k hk
        simp [Value.ownBlock] at this
        simp; exact fun e => this e.symm
    have HV3 := Lib.hid (HV2.out.on ((Away.refl [] _).drew))
    clear HV2
    go_region
    clear cx fx HVX f45
    generalize (w25.setCell ⟨xb, a, none⟩ (.int .u8 y)).drew = w26 at *
    have HVX := HV3
    clear HV3
    have HNO : Hid (showsP T { X with d := X.d.set a y } = false) := by
      rw [Bool.eq_false_iff]
      intro e
      obtain ⟨b1, b2, b3, b4, b5⟩ := shows_parts e
      rw [HT.out] at b5
      have e5 : (X.d.set a y).take (Q.d.take 8).length = Q.d.take 8 := b5
      rw [← HXF.out.2.2.1] at e5
      exact take_set_ne HXX.out HX2.out (by rw [List.length_take, ← HMM.out]; have := HKM.out; omega) e5
    have HBZ := Lib.hid HVX.out.box
    have HZA := Lib.hid HVX.out.wf.ad
    have K12 := Lib.hid (KN.out w26 HVX.out.aw { X with d := X.d.set a y } ox _ HVX.out.pkt HNO.out)
    go_wp2_with (refine wpList_load28 rfl _ rfl _ rfl _ _ _ (by exact HBZ.out) HZA.out ?_)
    refine K12.out.mono ?_
    rintro E y1 ⟨rfl, haw⟩
    have HV8 := Lib.hid (HVX.out.on haw)
    have HBQ8 := Lib.hid (HBQ.out.on HV8.out.aw)
    clear haw K12 HVX HBZ
    go_wp2_with (refine wpList_load28 rfl _ rfl _ rfl Q _ _ (by exact HBQ8.out) HQA.out ?_)
    refine (K14.out _ HV8.out.aw).mono ?_
    rintro E y2 ⟨rfl, haw⟩
    have HFA := Lib.hid ((HA.out.trans HV8.out.aw).trans haw)
    clear haw HBQ8
    go_wp2_with fail
    go_ret
    exact ⟨rfl, HFA.out.to_below⟩
  · clear hk7
    obtain ⟨xb, xc, rfl⟩ := HVX.out.d.shape' HXL.out
    obtain ⟨m, hm⟩ : ∃ m, m = X.d.length := ⟨_, rfl⟩
    rw [← hm] at HVX
    have HMM := Lib.hid hm
    have hmb : m ≤ 140737488355328 := by rw [hm]; exact HXW.out.dn
    have hm0 : 0 < m := by rw [hm]; exact List.length_pos_iff.2 HXL.out
    clear hm
    have f45 := (HVX.out.box.cells HXW.out.ad).d
    obtain ⟨k8, hk8⟩ : ∃ k8 : Nat, k8 + 1 = min 8 m := ⟨min 8 m - 1, by omega⟩
    have hmin : min 8 (m : Int) = ((k8 : Int) + 1) := by omega
    have ew : IntKind.i64.wrap ((k8 : Int) + 1 - 1) = (k8 : Int) := by rw [IntKind.wrap_i64]; omega
    have ew2 : wrap64 ((k8 : Int) + 1 - 1) = (k8 : Int) := by unfold wrap64; omega
    have HKM : Hid (k8 + 1 = min 8 m) := hk8
    have hk8m : k8 ≤ m := by omega
    clear hk8
    have HOC : Hid (m ≤ xc) := by
      rcases HVX.out.d.2 with ⟨h2, -⟩ | ⟨g, cap, cur, he, hg, hh, hn', hc, hs, ht⟩
      · simp at h2
      · simp only [Value.slice.injEq] at he
        rw [he.2.2]; show m ≤ cap
        have h3 := he.2.1
        omega
    have hs8 := slice_h (some ⟨xb, 0, none⟩) m xc k8 (k8 : Int) rfl (by have := HOC.out; omega)
    have t45 := HVX.out.box.free 45
    have HV2 : Hid (Va w8 (w25.setCell ⟨g15, 45, none⟩ (.slice (some ⟨xb, 0, none⟩) k8 xc)) g15 { X with d := X.d.take k8 } ox (.slice (some ⟨xb, 0, none⟩) k8 xc)) := HVX.out.data (.slice (some ⟨xb, 0, none⟩) k8 xc) (X.d.take k8) (HVX.out.d.head k8 (by rw [← HMM.out]; exact hk8m)) (fun k hk => by
      simp [Value.ownBlock] at hk
      subst hk
      exact ⟨(HVX.out.nd _ rfl).1, (HVX.out.nd _ rfl).2, fun e => HVX.out.ap _ e rfl⟩) (wf_d HXW.out (HXW.out.d.take k8) (by rw [List.length_take]; have := HXW.out.dn; omega))
    go_upto_region 43 with fail
    clear f45 t45 HVX
    generalize w25.setCell ⟨g15, 45, none⟩ (.slice (some ⟨xb, 0, none⟩) k8 xc) = w26 at *
    have HVX := HV2
    clear HV2
    have HNO : Hid (showsP T { X with d := X.d.take k8 } = false) := by
      rw [Bool.eq_false_iff]
      intro e
      obtain ⟨b1, b2, b3, b4, b5⟩ := shows_parts e
      rw [HT.out] at b4
      have e4 : (Q.d.take 8).length ≤ (X.d.take k8).length := b4
      rw [← HXF.out.2.2.1, List.length_take, List.length_take, ← HMM.out] at e4
      have := HKM.out
      omega
    have HBZ := Lib.hid HVX.out.box
    have HZA := Lib.hid HVX.out.wf.ad
    have K12 := Lib.hid (KN.out w26 HVX.out.aw { X with d := X.d.take k8 } ox _ HVX.out.pkt HNO.out)
    go_wp2_with (refine wpList_load28 rfl _ rfl _ rfl _ _ _ (by exact HBZ.out) HZA.out ?_)
    refine K12.out.mono ?_
    rintro E y1 ⟨rfl, haw⟩
    have HV8 := Lib.hid (HVX.out.on haw)
    have HBQ8 := Lib.hid (HBQ.out.on HV8.out.aw)
    clear haw K12 HVX HBZ
    go_wp2_with (refine wpList_load28 rfl _ rfl _ rfl Q _ _ (by exact HBQ8.out) HQA.out ?_)
    refine (K14.out _ HV8.out.aw).mono ?_
    rintro E y2 ⟨rfl, haw⟩
    have HFA := Lib.hid ((HA.out.trans HV8.out.aw).trans haw)
    clear haw HBQ8
    go_wp2_with fail
    go_ret
    exact ⟨rfl, HFA.out.to_below⟩
end sentNone
namespace sentNone
theorem contract (H : Type) (enc : TypeId × Value → H) (W : World) (base : Nat) (args : Array Value) (ds gs : List (DataW H)) (before : List MemPlace)
    (hval0 : ∀ (j : Nat) t v, Tryd.f4.params[j]? = some t → args[j]? = some v → Value.okWide Tryd.prog W .any base t v)
    (hW : DataW.Whole enc Tryd.prog Tryd.f4.params.toList Rows.sentNoneSpec.vars false W args.toList ds gs before)
    (hsz0 : (DataW.weightsEach Tryd.prog (Tryd.f4.params.toList ++ Rows.sentNoneSpec.plain.varTypes Tryd.prog) (ds ++ gs)).all (· ≤ reachBytes) = true)
    (hL : laidMetH Tryd.prog Rows.sentNoneRow.laid W) :
    Calls Tryd.prog 4 args W fun e W' => ∃ v, e = .returned v ∧ Rows.sentNoneSpec.post enc Tryd.prog Tryd.f4 false true false false W args v W' := by
  have hval := hval0
  have hsz := hsz0
  have hW' := hW
  obtain ⟨p, q, hA0, hV, rfl, hfz, hnd⟩ := hW
  have hA : DataW.TrodAll enc Tryd.prog W 0 (fun _ => true) true Tryd.f4.params.toList args.toList ds p := hA0
  rw [Tryd.params4] at hA hval hsz
  obtain ⟨v0, vs0, d0, ds0, p0, q0, hargs, rfl, rfl, h0, r0⟩ := trodAll_cons hA
  obtain ⟨v1, vs1, d1, ds1, p1, q1, rfl, rfl, rfl, h1, r1⟩ := trodAll_cons r0
  obtain ⟨v2, vs2, d2, ds2, p2, q2, rfl, rfl, rfl, h2, r2⟩ := trodAll_cons r1
  obtain ⟨v3, vs3, d3, ds3, p3, q3, rfl, rfl, rfl, h3, r3⟩ := trodAll_cons r2
  obtain ⟨v4, vs4, d4, ds4, p4, q4, rfl, rfl, rfl, h4, r4⟩ := trodAll_cons r3
  obtain ⟨rfl, rfl, rfl⟩ := trodAll_nil r4
  obtain rfl : args = #[v0, v1, v2, v3, v4] := by cases args; simp_all
  obtain ⟨rfl, rfl⟩ := trodVars_none hV
  have k0 := h0
  have lt0 : ∀ x ∈ p0, x.block < W.heap.size := by obtain ⟨m, hm⟩ := k0; exact DataW.trod_lt m _ _ _ hm
  have z0 : ∀ m ∈ d0.weights Tryd.prog 28, m ≤ reachBytes := fun m hm => by
    have := List.all_eq_true.1 hsz m (DataW.weights_mem_each (j := 0) (t := 28) rfl rfl m hm)
    simpa using this
  obtain ⟨x0, ov0, dv0, rfl, w0, ol0, dl0⟩ := open_pkt (hval 0 28 v0 rfl rfl) h0 z0
  obtain ⟨a1, rfl, rfl, rfl⟩ := open_bool Tryd.underlying4 (hval 1 4 v1 rfl rfl) h1
  obtain ⟨a2, rfl, rfl, rfl, w2⟩ := open_int Tryd.underlying25 (hval 2 25 v2 rfl rfl) h2
  obtain ⟨a3, rfl, rfl, rfl, w3⟩ := open_int Tryd.underlying3 (hval 3 3 v3 rfl rfl) h3
  obtain ⟨a4, rfl, rfl, rfl, w4⟩ := open_int Tryd.underlying3 (hval 4 3 v4 rfl rfl) h4
  clear hA0 hval0
  refine (walk x0 ov0 dv0 a1 a2 a3 a4 W (glob_of hL) w0 ol0 dl0 (wf32 w2).1 (wf32 w2).2 w3 w4).mono fun e W' ⟨he, bel⟩ => ?_
  subst he
  exact ⟨_, rfl, _, _, _, [], _, [], hW', trodAll_mk1 (shut_bool Tryd.underlying4 _), (trodAll_cons_mk (Below.trod laidOut (by kernel_rfl) (of_decide_eq_true (by kernel_rfl)) k0 bel lt0) (trodAll_cons_mk (shut_bool Tryd.underlying4 _) (trodAll_cons_mk (shut_int Tryd.underlying25 w2) (trodAll_cons_mk (shut_int Tryd.underlying3 w3) (trodAll_cons_mk (shut_int Tryd.underlying3 w4) trodAll_mk0))))), rfl, bel.frame _, fun h => by cases h⟩
theorem laid_met (os : Os) : laidMet Tryd.prog Rows.sentNoneRow.laid ((laidWorld Tryd.prog os).forCall (fun _ _ => 0) ⟨#[], #[.agg (csP zeroPk (.slice none 0 0) (.slice none 0 0)), .bool false, .int .u32 0, .int .i64 0, .int .i64 0], []⟩).memory :=
  laidMet_of_run' 8 (by kernel_rfl) (by kernel_rfl)
theorem reads (os : Os) {H : Type} (enc : TypeId × Value → H) : ∃ places, DataW.whole enc Tryd.prog ((laidWorld Tryd.prog os).forCall (fun _ _ => 0) ⟨#[], #[.agg (csP zeroPk (.slice none 0 0) (.slice none 0 0)), .bool false, .int .u32 0, .int .i64 0, .int .i64 0], []⟩).memory Tryd.f4.params.toList Rows.sentNoneSpec.vars false #[.agg (csP zeroPk (.slice none 0 0) (.slice none 0 0)), .bool false, .int .u32 0, .int .i64 0, .int .i64 0].toList 8 = some ([.agg [.lit (.int .i64 0), .lit (.int .i64 0), .lit (.int .i64 0), .agg [.lit (.int .i64 0), .agg [.lit (.int .u8 0), .lit (.int .u8 0), .lit (.int .u8 0), .lit (.int .u8 0), .lit (.int .u8 0), .lit (.int .u8 0), .lit (.int .u8 0), .lit (.int .u8 0), .lit (.int .u8 0), .lit (.int .u8 0), .lit (.int .u8 0), .lit (.int .u8 0), .lit (.int .u8 0), .lit (.int .u8 0), .lit (.int .u8 0), .lit (.int .u8 0)]], .agg [.lit (.int .i64 0), .agg [.lit (.int .u8 0), .lit (.int .u8 0), .lit (.int .u8 0), .lit (.int .u8 0), .lit (.int .u8 0), .lit (.int .u8 0), .lit (.int .u8 0), .lit (.int .u8 0), .lit (.int .u8 0), .lit (.int .u8 0), .lit (.int .u8 0), .lit (.int .u8 0), .lit (.int .u8 0), .lit (.int .u8 0), .lit (.int .u8 0), .lit (.int .u8 0)]], .lit (.int .i64 0), .lit (.int .i64 0), .lit (.int .u32 0), .lit (.bool false), .lit (.bool false), .lit (.bool false), .lit (.int .i64 0), .nil, .nil], .lit (.bool false), .lit (.int .u32 0), .lit (.int .i64 0), .lit (.int .i64 0)], [], places) :=
  ⟨[], by kernel_rfl⟩
theorem lifted (os : Os) (started : os.Started) (H : Type) (enc : TypeId × Value → H) (F : Stop.Interp) :
    ReturnsInHanded {} Tryd.checked os 4 .any ((OpenSpec.ofChange Rows.sentNoneSpec).preRow enc Tryd.prog Tryd.f4 Rows.sentNoneRow.domain false Rows.sentNoneRow.laid) (((OpenSpec.ofChange Rows.sentNoneSpec).at F).post enc Tryd.prog Tryd.f4 false true false false) := by
  obtain ⟨places, hx⟩ := reads os enc
  refine returnsInHanded_of_row (C := Tryd.checked) (s := OpenSpec.ofChange Rows.sentNoneSpec) ownKn started (by kernel_rfl) Tryd.func4
    (witness_row_at (enc := enc) (C := Tryd.checked) false (laidWorld Tryd.prog os) #[.agg (csP zeroPk (.slice none 0 0) (.slice none 0 0)), .bool false, .int .u32 0, .int .i64 0, .int .i64 0] rfl (by kernel_rfl) (by kernel_rfl) (by kernel_rfl)
      (OpenSpec.preRow_of_cond 8 hx (by kernel_rfl) (fun k hk => by cases hk) (by kernel_rfl) (laid_met os))) ?_
  intro W base args ds gs before hval hW _ hcond hsz hL hS _
  exact contract H enc W base args ds gs before hval hW hsz hL
theorem said : Rows.SentNoneSaid :=
  OpenClaim.holds_of_cond 4 Tryd.f4 rfl rfl rfl rfl rfl rfl rfl ⟨rfl, rfl, rfl, rfl, rfl⟩ rfl rfl rfl rfl rfl (by kernel_rfl) Tryd.func4 (by kernel_rfl)
    (of_decide_eq_true (by kernel_rfl)) (by unfold Func.isWrapper; first | (rw [if_pos (by decide +kernel)]; kernel_rfl) | (rw [if_neg (by decide +kernel)]; exact ⟨rfl, rfl⟩))
    (fun os started H enc _ F => by rw [OpenClaim.pre_eq_preRow]; exact lifted os started H enc F)
theorem plain (f : FuncId) (fn : Func) (hf : Tryd.pinned.checked.prog.funcNamed "mosaic/mosaiclaw17.SentNone" = some f) (hfn : Tryd.pinned.checked.prog.funcs[f]? = some fn) :
    false = Tryd.pinned.checked.prog.looks [] ∧ ∀ (j : Nat) t, fn.params[j]? = some t → Tryd.pinned.checked.prog.wantsStandIn t = false := by
  obtain rfl : f = 4 := Option.some.inj ((show Tryd.prog.funcNamed "mosaic/mosaiclaw17.SentNone" = some 4 by kernel_rfl).symm.trans hf) |>.symm
  obtain rfl : fn = Tryd.f4 := (Option.some.inj (Tryd.func4.symm.trans hfn)).symm
  refine ⟨by kernel_rfl, fun j t ht => ?_⟩
  rw [Tryd.params4] at ht
  have hm := Array.mem_of_getElem? ht
  simp only [List.mem_toArray, List.mem_cons, List.not_mem_nil, or_false] at hm
  have h28 : Tryd.prog.wantsStandIn 28 = false := by kernel_rfl
  have h26 : Tryd.prog.wantsStandIn 26 = false := by kernel_rfl
  have h3 : Tryd.prog.wantsStandIn 3 = false := by kernel_rfl
  have h25 : Tryd.prog.wantsStandIn 25 = false := by kernel_rfl
  have h4 : Tryd.prog.wantsStandIn 4 = false := by kernel_rfl

  rcases hm with rfl | rfl | rfl | rfl | rfl
  all_goals first | exact h28 | exact h26 | exact h3 | exact h25 | exact h4
theorem card : Rows.SentNoneCardSaid :=
  Claim7.holds_tied_plain_at .later [] _ _ _ _ said (fun _ h => by cases h) (by kernel_rfl) (fun _ h => by cases h) sentNone_row_tie rfl ⟨rfl, rfl⟩ (by kernel_rfl) rfl plain (by kernel_rfl)
end sentNone
theorem sentNone_holds : Rows.SentNoneCardSaid := sentNone.card
#print axioms sentNone_holds
end Go.Proofs.YtpmkmldcgiodgaaDoor
