/-
  SentRefuses.
-/
import Derived.Test.YtpmkmldcgiodgaaDoorKit
import Derived.Deep.CutBlock
import Derived.Deep.DeepCutAuto
namespace Go.Proofs.YtpmkmldcgiodgaaDoor
open Go.ChangeShapes Go.WideShapes Go.ChangeAt Go.RowKit Go.Deep
open S6 (wp_region_cls quiet_val quiet_call quiet_ld ld3 ld4 ld5 ld25 ld26 load28_run load24m_run)
set_option linter.unusedVariables false
set_option linter.unusedSimpArgs false
set_option maxRecDepth 100000

set_option maxHeartbeats 4000000
namespace sentRefuses
open W
theorem head_zero {p : Pk} (h4 : ¬ rightP p = true) (h6 : ¬ S6.rightP p = true) : lenQ p = 0 := by
  unfold lenQ headP S6.headP
  rw [if_neg h4, if_neg h6]; simp
theorem ok_len {p : Pk} {b : Bool} (h : lenQ p = 0) : okN p b = false := by unfold okN; simp [h]
theorem len_more {p : Pk} (h : p.more = true) : lenQ p = 0 := by unfold lenQ; rw [if_pos (.inr (.inr (.inl h)))]
theorem len_frag {p : Pk} (h : p.frag = true) : lenQ p = 0 := by unfold lenQ; rw [if_pos (.inr (.inr (.inr h)))]
theorem len_off {p : Pk} (h : p.off ≠ 0) : lenQ p = 0 := by unfold lenQ; rw [if_pos (.inr (.inl h))]
theorem len_ttl {p : Pk} (h : p.ttl = 256) : lenQ p = 0 := head_zero (fun e => by have := ((right_iff p).1 e).1.l1; omega) (fun e => by have := ((S6.right_iff p).1 e).l1; omega)
theorem len_sv {p : Pk} (h : p.sv = 0) : lenQ p = 0 := head_zero (fun e => by have := ((right_iff p).1 e).1.sv; omega) (fun e => by have := ((S6.right_iff p).1 e).sv; omega)
theorem len_v {p : Pk} (h : p.v = 5) : lenQ p = 0 := head_zero (fun e => by have := ((right_iff p).1 e).1.v; omega) (fun e => by have := ((S6.right_iff p).1 e).v; omega)
theorem ex_no : okN (mendP exP) true = false := by kernel_rfl
theorem mend_len {p : Pk} (h : Wf p) : lenQ (mendP p) = longQ (mendP p) ∧ (mendP p).off = 0 ∧ (mendP p).more = false ∧ (mendP p).frag = false ∧ ((mendP p).v = 4 ∨ (mendP p).v = 6) ∧ lenQ (mendP p) ≠ 0 := by
  cases hs : sixB p with
  | true =>
    have h1 := mend_right6 h hs
    have h2 : rightP (mendP p) = false := by
      rw [Bool.eq_false_iff]; intro e
      have h3 := ((right_iff _).1 e).1.v
      rw [mend6 hs] at h3
      simp at h3
    have e1 : (mendP p).v = 6 := by rw [mend6 hs]
    have e2 : (mendP p).off = 0 := by rw [mend6 hs]
    have e3 : (mendP p).more = false := by rw [mend6 hs]
    have e4 : (mendP p).frag = false := by rw [mend6 hs]
    have hh : headP (mendP p) = 0 := by unfold headP; rw [if_neg (by rw [h2]; simp)]
    have h6 : S6.headP (mendP p) = 40 := by unfold S6.headP S6.hofP; rw [if_pos h1, e4]; rfl
    have e5 : lenQ (mendP p) = 40 + (mendP p).d.length := by
      unfold lenQ
      rw [hh, h6, if_neg (by simp [e2, e3, e4])]
      omega
    refine ⟨by rw [e5, longQ, if_neg (by rw [e1]; decide)], e2, e3, e4, .inr e1, by rw [e5]; omega⟩
  | false =>
    have h1 := mend_right4 h hs
    have h2 : S6.rightP (mendP p) = false := by
      rw [Bool.eq_false_iff]; intro e
      have h3 := ((S6.right_iff _).1 e).v
      rw [mend4 hs] at h3
      simp at h3
    have e1 : (mendP p).v = 4 := by rw [mend4 hs]
    have e2 : (mendP p).off = 0 := by rw [mend4 hs]
    have e3 : (mendP p).more = false := by rw [mend4 hs]
    have e4 : (mendP p).frag = false := by rw [mend4 hs]
    have e6 : (mendP p).o = [] := by rw [mend4 hs]
    have hh : headP (mendP p) = 20 := by unfold headP; rw [if_pos h1, e6]; rfl
    have h6 : S6.headP (mendP p) = 0 := by unfold S6.headP; rw [if_neg (by rw [h2]; simp)]
    have e5 : lenQ (mendP p) = 20 + (mendP p).d.length := by
      unfold lenQ
      rw [hh, h6, if_neg (by simp [e2, e3, e4])]
      omega
    refine ⟨by rw [e5, longQ, if_pos e1], e2, e3, e4, .inl e1, by rw [e5]; omega⟩
theorem mend_ok {p : Pk} (h : Wf p) : okN (mendP p) false = true := by
  unfold okN; simp [(mend_len h).2.2.2.2.2]
theorem and7 (n : Int) : 0 ≤ bits .and .i64 n 7 ∧ bits .and .i64 n 7 ≤ 7 := by
  have h : (BitVec.ofInt 64 7).toNat = 7 := by decide
  have key : (BitVec.ofInt 64 n &&& BitVec.ofInt 64 7).toNat ≤ 7 := by rw [BitVec.toNat_and, h]; exact Nat.and_le_right
  have e : bits .and .i64 n 7 = IntKind.i64.wrap ((BitVec.ofInt 64 n &&& BitVec.ofInt 64 7).toNat : Nat) := rfl
  rw [e, IntKind.wrap_i64]
  generalize (BitVec.ofInt 64 n &&& BitVec.ofInt 64 7).toNat = m at *
  omega
/-- What the law holds: the packet q in its variable, and a window that remembers none. -/
structure Rf (w0 w : World) (g5 g6 : Nat) (Q : Pk) (ou du : Value) : Prop where
  box : BoxP w g5 Q ou du
  pk : Pkt w Q ou du
  fo : Q.o ≠ [] → ∀ k, ou.ownBlock = some k → k ≠ g5
  fd : Q.d ≠ [] → ∀ k, du.ownBlock = some k → k ≠ g5
  win : Win w g6 (.slice none 0 0) 2 []
  ne : g6 ≠ g5
  n5 : w0.heap.size ≤ g5
  n6 : w0.heap.size ≤ g6
  aw : Away [] w0 w
  gl : Glob w0
section
variable {w0 w w' : World} {g5 g6 : Nat} {Q Q' : Pk} {ou du : Value}
theorem Rf.on (h : Rf w0 w g5 g6 Q ou du) (hw : Away [] w w') : Rf w0 w' g5 g6 Q ou du := ⟨h.box.on hw, h.pk.on hw, h.fo, h.fd, h.win.on hw, h.ne, h.n5, h.n6, h.aw.trans hw, h.gl⟩
theorem fp_nil {k g : Nat} : ¬ fpW g (.slice none 0 0) [] k ∨ k = g := by
  by_cases h : k = g
  · exact .inr h
  · left
    rintro (h1 | h1 | ⟨x, hx, -⟩)
    · exact h h1
    · simp [Value.ownBlock] at h1
    · simp at hx
theorem Rf.away5 (h : Rf w0 w g5 g6 Q ou du) (hw : Away [g5] w w') : Win w' g6 (.slice none 0 0) 2 [] ∧ Sl w' ou Q.o ∧ Sl w' du Q.d ∧ Away [] w0 w' :=
  ⟨h.win.away hw (fun k hk => by
    simp only [List.mem_cons, List.not_mem_nil, or_false] at hk
    rcases fp_nil (k := k) (g := g6) with h1 | h1
    · exact h1
    · exact absurd (h1.symm.trans hk) h.ne), h.pk.o.away hw (fun hb k hk => by simpa using h.fo hb k hk), h.pk.d.away hw (fun hb k hk => by simpa using h.fd hb k hk), h.aw.next hw (fun x hx => .inr (by simp at hx; have := h.n5; omega))⟩
theorem Rf.put (h : Rf w0 w g5 g6 Q ou du) (i : Nat) (x : Value) (hx : (csP Q ou du).setIfInBounds i x = csP Q' ou du) (hq : Wf Q') (ho : Q'.o = Q.o) (hd : Q'.d = Q.d) : Rf w0 (w.setCell ⟨g5, i, none⟩ x) g5 g6 Q' ou du := by
  obtain ⟨h1, h2, h3, h4⟩ := h.away5 (away_put i x)
  exact ⟨h.box.put i x hx, ⟨hq, by rw [ho]; exact h2, by rw [hd]; exact h3⟩, by rw [ho]; exact h.fo, by rw [hd]; exact h.fd, h1, h.ne, h.n5, h.n6, h4, h.gl⟩
theorem Rf.data (h : Rf w0 w g5 g6 Q ou du) (v : Value) (l : List Int) (hv : Sl w v l) (hf : ∀ k, v.ownBlock = some k → k ≠ g5) (hq : Wf { Q with d := l }) : Rf w0 (w.setCell ⟨g5, 45, none⟩ v) g5 g6 { Q with d := l } ou v := by
  obtain ⟨h1, h2, h3, h4⟩ := h.away5 (away_put 45 v)
  exact ⟨h.box.put 45 v ((csP_set h.pk.wf.ad _ _).2.2.2.2.2.2.2.2.2.2.2.2.2 l v), ⟨hq, h2, hv.away (away_put (g := g5) 45 v) (fun _ k hk => by simpa using hf k hk)⟩, h.fo, fun _ => hf, h1, h.ne, h.n5, h.n6, h4, h.gl⟩
/-- Another packet in its place. -/
theorem Rf.all (h : Rf w0 w g5 g6 Q ou du) (hb : BoxP w' g5 Q' (.slice none 0 0) (.slice none 0 0)) : True := trivial
end
section
variable {Q : Pk}
theorem wf_more (h : Wf Q) (b : Bool) : Wf { Q with more := b } := ⟨h.v, h.tos, h.flow, h.sv, h.sl, h.sb, h.dv, h.dl, h.db, h.proto, h.ttl, h.id0, h.id1, h.off, h.o, h.ol, h.d, h.dn⟩
theorem wf_frag (h : Wf Q) (b : Bool) : Wf { Q with frag := b } := ⟨h.v, h.tos, h.flow, h.sv, h.sl, h.sb, h.dv, h.dl, h.db, h.proto, h.ttl, h.id0, h.id1, h.off, h.o, h.ol, h.d, h.dn⟩
theorem wf_off (h : Wf Q) {n : Int} (hn : i64ok n) : Wf { Q with off := n } := ⟨h.v, h.tos, h.flow, h.sv, h.sl, h.sb, h.dv, h.dl, h.db, h.proto, h.ttl, h.id0, h.id1, hn, h.o, h.ol, h.d, h.dn⟩
theorem wf_ttl (h : Wf Q) {n : Int} (hn : i64ok n) : Wf { Q with ttl := n } := ⟨h.v, h.tos, h.flow, h.sv, h.sl, h.sb, h.dv, h.dl, h.db, h.proto, hn, h.id0, h.id1, h.off, h.o, h.ol, h.d, h.dn⟩
theorem wf_sv (h : Wf Q) {n : Int} (hn : i64ok n) : Wf { Q with sv := n } := ⟨h.v, h.tos, h.flow, hn, h.sl, h.sb, h.dv, h.dl, h.db, h.proto, h.ttl, h.id0, h.id1, h.off, h.o, h.ol, h.d, h.dn⟩
theorem wf_v (h : Wf Q) {n : Int} (hn : i64ok n) : Wf { Q with v := n } := ⟨hn, h.tos, h.flow, h.sv, h.sl, h.sb, h.dv, h.dl, h.db, h.proto, h.ttl, h.id0, h.id1, h.off, h.o, h.ol, h.d, h.dn⟩
theorem wf_d (h : Wf Q) {l : List Int} (hb : Bytes l) (hl : l.length ≤ 140737488355328) : Wf { Q with d := l } := ⟨h.v, h.tos, h.flow, h.sv, h.sl, h.sb, h.dv, h.dl, h.db, h.proto, h.ttl, h.id0, h.id1, h.off, h.o, h.ol, hb, hl⟩
end
set_option maxHeartbeats 16000000 in
theorem walk (p : Pk) (ov dv : Value) (which : Int) (w : World) (hg : Glob w) (hp : Pkt w p ov dv) (hol : p.o.length ≤ 140737488351232) (hdl : p.d.length ≤ 140737488351232) (h1 : (Lit.int .i64 which).wf = true) :
    Calls Tryd.prog 3 #[.agg (csP p ov dv), .int .i64 which] w fun E w' => E = .returned (.bool true) ∧ Below w.heap.size w w' := by
  have HG := Lib.hid hg
  have HP := Lib.hid hp
  have HAD := Lib.hid hp.wf.ad
  obtain ⟨k, hk⟩ : ∃ k, bits .and .i64 which 7 = k := ⟨_, rfl⟩
  have hk7 := and7 which
  rw [hk] at hk7
  clear hg hp hol hdl h1
  go_enter Tryd.func3, Tryd.ntmps3
  go_wp2_with (refine wpList_box28 rfl _ rfl p _ _ rfl ?_; refine Hid.out ?_)
  refine Lib.hid ?_
  intro g2 w1 hg2 hb haw
  have HB := Lib.hid hb
  have HA := Lib.hid haw
  clear hb haw hg2
  go_wp2_with fail
  refine (alive_c w1 (HG.out.on HA.out)).mono ?_
  rintro E w2 ⟨rfl, haw⟩
  replace HB := Lib.hid (HB.out.on haw)
  replace HA := Lib.hid (HA.out.trans haw)
  clear haw
  have K7 : Hid (Calls Tryd.prog 7 #[.agg (csP p ov dv)] w2 (MendOut w2 p)) := mended_c p ov dv w2 (HP.out.on HA.out)
  go_wp2_with (refine wpList_load28 rfl _ rfl _ rfl p _ _ (by exact HB.out) HAD.out ?_)
  refine K7.out.mono ?_
  rintro E w3 ⟨ou, du, rfl, hm, haw⟩
  obtain ⟨Q, hQ⟩ : ∃ Q, Q = mendP p := ⟨_, rfl⟩
  rw [← hQ] at hm ⊢
  have HQW : Hid (Wf Q) := by rw [hQ]; exact mend_wf HP.out.wf
  have HQO : Hid (okN Q false = true) := by rw [hQ]; exact mend_ok HP.out.wf
  have HQV : Hid (Q.v = 4 ∨ Q.v = 6) := by rw [hQ]; exact (mend_len HP.out.wf).2.2.2.2.1
  have HM := Lib.hid hm
  replace HA := Lib.hid (HA.out.trans haw)
  have o1 : ou.oneCell' = true := by obtain ⟨a, n, c, e⟩ := hm.o.shp; rw [e]; rfl
  have o2 : du.oneCell' = true := by obtain ⟨a, n, c, e⟩ := hm.d.shp; rw [e]; rfl
  clear hm haw hQ K7 HB HP HAD
  go_wp2_with (first | (refine wpList_alloc28 rfl rfl ?_; refine Hid.out ?_))
  refine Lib.hid ?_
  intro g5 w4 hg5 hb haw
  have HB := Lib.hid hb
  have hlm : ∀ k, ou.ownBlock = some k ∨ du.ownBlock = some k → k < w3.heap.size := fun k hk => by
    rcases hk with hk | hk
    · exact HM.out.o.lt k hk
    · exact HM.out.d.lt k hk
  have HLM := Lib.hid hlm
  have hs3 := HA.out.size
  replace HM := Lib.hid (HM.out.on haw)
  replace HA := Lib.hid (HA.out.trans haw)
  have hs4 := haw.size
  clear hb haw hlm
  go_wp2_with (first | (refine wpList_store28 rfl _ _ rfl _ rfl Q ou du rfl zeroPk (.slice none 0 0) (.slice none 0 0) (by exact HB.out) (by exact HQW.out.ad) ⟨rfl, rfl⟩ o1 o2 ?_; refine Hid.out ?_))
  refine Lib.hid ?_
  intro w5 hb haw
  replace HB := Lib.hid hb
  have HFO : Hid (∀ k, ou.ownBlock = some k ∨ du.ownBlock = some k → k ≠ g5) := fun k hk => by have := HLM.out k hk; omega
  have HPK : Hid (Pkt w5 Q ou du) := ⟨HQW.out, (HM.out.pkt HQW.out).o.away haw (fun _ k hk => by simpa using HFO.out k (.inl hk)), (HM.out.pkt HQW.out).d.away haw (fun _ k hk => by simpa using HFO.out k (.inr hk))⟩
  replace HA := Lib.hid (HA.out.next haw (fun x hx => .inr (by simp at hx; omega)))
  have hb5 := HB.out.lt
  have hs5 := haw.size
  clear hb haw HM
  go_wp2_with fail
  refine (wnew_c 2 w5).mono ?_
  rintro E w6 (⟨h, -⟩ | ⟨-, g6, rfl, hg6, hwin, haw⟩)
  · omega
  have HR : Hid (Rf w w6 g5 g6 Q ou du) := ⟨HB.out.on haw, HPK.out.on haw, fun _ k hk => HFO.out k (.inl hk), fun _ k hk => HFO.out k (.inr hk), hwin, by omega, by omega, by have := HA.out.size; omega, HA.out.trans haw, HG.out⟩
  have hb6 : g6 < w6.heap.size := lt_of_block hwin.box
  have hs6 := haw.size
  have HLN : Hid (∀ k, ou.ownBlock = some k ∨ du.ownBlock = some k → k < w6.heap.size) := fun k hk => by have := HLM.out k hk; omega
  clear hwin haw HB HPK HA HFO HLM
  go_wp2_with fail
  refine (wnew_c 0 w6).mono ?_
  rintro E w7 (⟨h, -⟩ | ⟨-, g8, rfl, hg8, hwin, haw⟩)
  · omega
  replace HR := Lib.hid (HR.out.on haw)
  have HZ := Lib.hid hwin
  have h65 := HR.out.ne
  clear hwin haw
  have K10 : Hid (∀ W, Away [] w7 W → Calls Tryd.prog 10 #[.agg (csP Q ou du)] W (OwnOut W Q)) := fun W hW => ownP_c Q ou du W (HR.out.pk.on hW)
  go_wp2_with (refine wpList_load28 rfl _ rfl _ rfl Q _ _ (by exact HR.out.box) (by exact HQW.out.ad) ?_)
  refine (K10.out _ (Away.refl _ _)).mono ?_
  rintro E w8 ⟨ow, dw, rfl, hmi, haw⟩
  have HMI := Lib.hid hmi
  replace HR := Lib.hid (HR.out.on haw)
  replace HZ := Lib.hid (HZ.out.on haw)
  clear hmi haw K10
  have K9 : Hid (Calls Tryd.prog 9 #[.pointer (some ⟨g8, 0, none⟩), .agg (csP Q ow dw), .bool false, .int .u32 0] w8 (NoteOut w8 g8 (.slice none 0 0) 0 [] Q false 0)) := note_c HZ.out Q ow dw (HMI.out.pkt HQW.out) (HG.out.on HR.out.aw) false 0
  go_wp2_with fail
  refine K9.out.mono ?_
  rintro E w9 (⟨h, -⟩ | ⟨-, lv, ds, rfl, hwin, hds, -, haw⟩)
  · rw [HQO.out] at h; simp at h
  obtain rfl : ds = [] := by
    have h1 : ds.map (·.t) = [] := hds
    simpa using h1
  have haw8 : Away [g8] w8 w9 := haw.mono (fun x hx => by simpa [Value.ownBlock] using hx)
  have HR9 : Hid (Rf w w9 g5 g6 Q ou du) := by
    have h := HR.out
    have f8 : g8 ∉ [g5] := by simp; omega
    refine ⟨h.box.away haw8 (by simp; omega), ⟨h.pk.wf, h.pk.o.away haw8 (fun _ k hk => ?_), h.pk.d.away haw8 (fun _ k hk => ?_)⟩, h.fo, h.fd, h.win.away haw8 (fun k hk => ?_), h.ne, h.n5, h.n6, h.aw.next haw8 (fun x hx => .inr ?_), h.gl⟩
    · have := HLN.out k (.inl hk); simp; omega
    · have := HLN.out k (.inr hk); simp; omega
    · simp only [List.mem_cons, List.not_mem_nil, or_false] at hk
      rcases fp_nil (k := k) (g := g6) with h1 | h1
      · exact h1
      · omega
    · simp only [List.mem_cons, List.not_mem_nil, or_false] at hx
      have := h.n6
      omega
  have HZ9 := Lib.hid hwin
  clear hwin hds haw haw8 HR HZ K9 HMI
  have K11 : Hid (Calls Tryd.prog 11 #[.pointer (some ⟨g8, 0, none⟩)] w9 fun E w' => E = .returned (.int .i64 0) ∧ w' = w9) := wlen_c HZ9.out
  go_wp2_with fail
  refine K11.out.mono ?_
  rintro E w10 ⟨rfl, hw10⟩
  obtain rfl := hw10.symm
  clear hw10 K11
  have K10 : Hid (Calls Tryd.prog 10 #[.agg (csP Q ou du)] w9 (OwnOut w9 Q)) := ownP_c Q ou du w9 HR9.out.pk
  go_wp2_with (refine wpList_load28 rfl _ rfl _ rfl Q _ _ (by exact HR9.out.box) (by exact HQW.out.ad) ?_)
  refine K10.out.mono ?_
  rintro E w11 ⟨ow, dw, rfl, hmi, haw⟩
  have HMI := Lib.hid hmi
  have HR := Lib.hid (HR9.out.on haw)
  have HZ := Lib.hid (HZ9.out.on haw)
  clear hmi haw K10 HR9 HZ9
  have K12 : Hid (Calls Tryd.prog 12 #[.pointer (some ⟨g8, 0, none⟩), .agg (csP Q ow dw)] w11 fun E w' => E = .returned (.tuple #[.int .i64 0, .bool false]) ∧ Away [] w11 w') := match_c HZ.out Q ow dw (HMI.out.pkt HQW.out)
  go_wp2_with fail
  refine K12.out.mono ?_
  rintro E w12 ⟨rfl, haw⟩
  replace HR := Lib.hid (HR.out.on haw)
  clear haw K12 HZ HMI HQO hs3 hs4 hs5 hs6 hb5 hb6 hg5 hg6 hg8 h65 HLN o1 o2
  have hcv := fun (w : World) (C : Array Value) (n c : Nat) => Lib.run_convert_bytes_const (P := Tryd.prog) w 26 5 C n c Tryd.underlying26 Tryd.underlying5
  obtain rfl | rfl | rfl | rfl | rfl | rfl | rfl | rfl : k = 0 ∨ k = 1 ∨ k = 2 ∨ k = 3 ∨ k = 4 ∨ k = 5 ∨ k = 6 ∨ k = 7 := by omega
  · clear hk7
    rcases HQV.out with hv | hv
    · have e6 : (Q.v == 6) = false := by rw [hv]; rfl
      have HV := Lib.hid hv
      clear hv
      have f41 := (HR.out.box.cells HR.out.pk.wf.ad).more
      have t41 := HR.out.box.free 41
      have HR2 : Hid (Rf w (w12.setCell ⟨g5, 41, none⟩ (.bool true)) g5 g6 { Q with more := true } ou du) := HR.out.put 41 _ ((csP_set HR.out.pk.wf.ad _ _).2.2.2.2.2.2.2.2.2.1 true) (wf_more HR.out.pk.wf true) rfl rfl
      go_upto_region 15 with fail
      clear f41 t41 HR
      generalize w12.setCell ⟨g5, 41, none⟩ (.bool true) = w13 at *
      have HR := HR2
      clear HR2
      have c0 := (HR.out.box.cells HR.out.pk.wf.ad).v
      have f42 := (HR.out.box.cells HR.out.pk.wf.ad).frag
      have t42 := HR.out.box.free 42
      have HR2 : Hid (Rf w (w13.setCell ⟨g5, 42, none⟩ (.bool false)) g5 g6 { Q with more := true, frag := false } ou du) := HR.out.put 42 _ ((csP_set HR.out.pk.wf.ad _ _).2.2.2.2.2.2.2.2.2.2.1 false) (wf_frag HR.out.pk.wf false) rfl rfl
      go_upto_region 16 with fail
      clear f42 t42 HR
      generalize w13.setCell ⟨g5, 42, none⟩ (.bool false) = w14 at *
      have HR := HR2
      clear HR2
      clear c0
      have hA := (Away.refl [] w14).alloc (.cells #[.int .u8 97, .int .u8 98, .int .u8 99, .int .u8 100, .int .u8 101, .int .u8 102, .int .u8 103, .int .u8 104] 5 (8, 9))
      have HRD := Lib.hid ((HR.out.on hA).data (.slice (some ⟨w14.heap.size, 0, none⟩) 8 8) [97, 98, 99, 100, 101, 102, 103, 104] ⟨_, _, rfl, by simp, by simp, Row.lit' w14 [97, 98, 99, 100, 101, 102, 103, 104] (8, 9) (by unfold Bytes; decide) (by simp)⟩ (fun k hk => by simp [Value.ownBlock] at hk; have := HR.out.box.lt; omega) (wf_d HR.out.pk.wf (by unfold Bytes; decide) (by simp)))
      have f45 := ((HR.out.on hA).box.cells HR.out.pk.wf.ad).d
      have t45 := (HR.out.on hA).box.free 45
      clear hA
      go_upto_region 31 with fail
      clear f45 t45 HR
      generalize w14.heap.size = n1 at *
      generalize (w14.alloc (.cells #[.int .u8 97, .int .u8 98, .int .u8 99, .int .u8 100, .int .u8 101, .int .u8 102, .int .u8 103, .int .u8 104] 5 (8, 9))).setCell ⟨g5, 45, none⟩ (.slice (some ⟨n1, 0, none⟩) 8 8) = w15 at *
      have HR := HRD
      clear HRD
      have HNO : Hid (okN _ false = false) := ok_len (p := { Q with more := true, frag := false, d := [97, 98, 99, 100, 101, 102, 103, 104] }) (len_more rfl)
      have K10 : Hid (Calls Tryd.prog 10 #[.agg (csP _ _ _)] w15 (OwnOut w15 _)) := ownP_c _ _ _ w15 HR.out.pk
      go_wp2_with (refine wpList_load28 rfl _ rfl _ rfl _ _ _ (by exact HR.out.box) (by exact HR.out.pk.wf.ad) ?_)
      refine K10.out.mono ?_
      rintro E y1 ⟨ow, dw, rfl, hmi, haw⟩
      have HMI := Lib.hid hmi
      have HWF := Lib.hid HR.out.pk.wf
      have HR3 := Lib.hid (HR.out.on haw)
      clear hmi haw K10 HR
      have K9 := Lib.hid (note_c HR3.out.win _ ow dw (HMI.out.pkt HWF.out) (HG.out.on HR3.out.aw) false 0)
      go_wp2_with fail
      refine K9.out.mono ?_
      rintro E y2 (⟨-, rfl, haw⟩ | ⟨h, -⟩)
      rotate_left
      · rw [HNO.out] at h; simp at h
      have HR4 := Lib.hid (HR3.out.on haw)
      clear haw K9 HR3
      have K11 : Hid (Calls Tryd.prog 11 #[.pointer (some ⟨g6, 0, none⟩)] y2 fun E w' => E = .returned (.int .i64 0) ∧ w' = y2) := wlen_c HR4.out.win
      go_wp2_with fail
      refine K11.out.mono ?_
      rintro E y3 ⟨rfl, hy3⟩
      obtain rfl := hy3.symm
      go_wp2_with fail
      go_ret
      exact ⟨rfl, HR4.out.aw.to_below⟩
    · have e6 : (Q.v == 6) = true := by rw [hv]; rfl
      have HV := Lib.hid hv
      clear hv
      have f41 := (HR.out.box.cells HR.out.pk.wf.ad).more
      have t41 := HR.out.box.free 41
      have HR2 : Hid (Rf w (w12.setCell ⟨g5, 41, none⟩ (.bool true)) g5 g6 { Q with more := true } ou du) := HR.out.put 41 _ ((csP_set HR.out.pk.wf.ad _ _).2.2.2.2.2.2.2.2.2.1 true) (wf_more HR.out.pk.wf true) rfl rfl
      go_upto_region 15 with fail
      clear f41 t41 HR
      generalize w12.setCell ⟨g5, 41, none⟩ (.bool true) = w13 at *
      have HR := HR2
      clear HR2
      have c0 := (HR.out.box.cells HR.out.pk.wf.ad).v
      have f42 := (HR.out.box.cells HR.out.pk.wf.ad).frag
      have t42 := HR.out.box.free 42
      have HR2 : Hid (Rf w (w13.setCell ⟨g5, 42, none⟩ (.bool true)) g5 g6 { Q with more := true, frag := true } ou du) := HR.out.put 42 _ ((csP_set HR.out.pk.wf.ad _ _).2.2.2.2.2.2.2.2.2.2.1 true) (wf_frag HR.out.pk.wf true) rfl rfl
      go_upto_region 16 with fail
      clear f42 t42 HR
      generalize w13.setCell ⟨g5, 42, none⟩ (.bool true) = w14 at *
      have HR := HR2
      clear HR2
      clear c0
      have hA := (Away.refl [] w14).alloc (.cells #[.int .u8 97, .int .u8 98, .int .u8 99, .int .u8 100, .int .u8 101, .int .u8 102, .int .u8 103, .int .u8 104] 5 (8, 9))
      have HRD := Lib.hid ((HR.out.on hA).data (.slice (some ⟨w14.heap.size, 0, none⟩) 8 8) [97, 98, 99, 100, 101, 102, 103, 104] ⟨_, _, rfl, by simp, by simp, Row.lit' w14 [97, 98, 99, 100, 101, 102, 103, 104] (8, 9) (by unfold Bytes; decide) (by simp)⟩ (fun k hk => by simp [Value.ownBlock] at hk; have := HR.out.box.lt; omega) (wf_d HR.out.pk.wf (by unfold Bytes; decide) (by simp)))
      have f45 := ((HR.out.on hA).box.cells HR.out.pk.wf.ad).d
      have t45 := (HR.out.on hA).box.free 45
      clear hA
      go_upto_region 31 with fail
      clear f45 t45 HR
      generalize w14.heap.size = n1 at *
      generalize (w14.alloc (.cells #[.int .u8 97, .int .u8 98, .int .u8 99, .int .u8 100, .int .u8 101, .int .u8 102, .int .u8 103, .int .u8 104] 5 (8, 9))).setCell ⟨g5, 45, none⟩ (.slice (some ⟨n1, 0, none⟩) 8 8) = w15 at *
      have HR := HRD
      clear HRD
      have HNO : Hid (okN _ false = false) := ok_len (p := { Q with more := true, frag := true, d := [97, 98, 99, 100, 101, 102, 103, 104] }) (len_more rfl)
      have K10 : Hid (Calls Tryd.prog 10 #[.agg (csP _ _ _)] w15 (OwnOut w15 _)) := ownP_c _ _ _ w15 HR.out.pk
      go_wp2_with (refine wpList_load28 rfl _ rfl _ rfl _ _ _ (by exact HR.out.box) (by exact HR.out.pk.wf.ad) ?_)
      refine K10.out.mono ?_
      rintro E y1 ⟨ow, dw, rfl, hmi, haw⟩
      have HMI := Lib.hid hmi
      have HWF := Lib.hid HR.out.pk.wf
      have HR3 := Lib.hid (HR.out.on haw)
      clear hmi haw K10 HR
      have K9 := Lib.hid (note_c HR3.out.win _ ow dw (HMI.out.pkt HWF.out) (HG.out.on HR3.out.aw) false 0)
      go_wp2_with fail
      refine K9.out.mono ?_
      rintro E y2 (⟨-, rfl, haw⟩ | ⟨h, -⟩)
      rotate_left
      · rw [HNO.out] at h; simp at h
      have HR4 := Lib.hid (HR3.out.on haw)
      clear haw K9 HR3
      have K11 : Hid (Calls Tryd.prog 11 #[.pointer (some ⟨g6, 0, none⟩)] y2 fun E w' => E = .returned (.int .i64 0) ∧ w' = y2) := wlen_c HR4.out.win
      go_wp2_with fail
      refine K11.out.mono ?_
      rintro E y3 ⟨rfl, hy3⟩
      obtain rfl := hy3.symm
      go_wp2_with fail
      go_ret
      exact ⟨rfl, HR4.out.aw.to_below⟩
  · clear hk7
    rcases HQV.out with hv | hv
    · have e6 : (Q.v == 6) = false := by rw [hv]; rfl
      have HV := Lib.hid hv
      clear hv
      have f43 := (HR.out.box.cells HR.out.pk.wf.ad).off
      have t43 := HR.out.box.free 43
      have HR2 : Hid (Rf w (w12.setCell ⟨g5, 43, none⟩ (.int .i64 8)) g5 g6 { Q with off := 8 } ou du) := HR.out.put 43 _ ((csP_set HR.out.pk.wf.ad _ _).2.2.2.2.2.2.2.2.2.2.2.1 8) (wf_off HR.out.pk.wf (by simp [i64ok])) rfl rfl
      go_upto_region 19 with fail
      clear f43 t43 HR
      generalize w12.setCell ⟨g5, 43, none⟩ (.int .i64 8) = w13 at *
      have HR := HR2
      clear HR2
      have c0 := (HR.out.box.cells HR.out.pk.wf.ad).v
      have f42 := (HR.out.box.cells HR.out.pk.wf.ad).frag
      have t42 := HR.out.box.free 42
      have HR2 : Hid (Rf w (w13.setCell ⟨g5, 42, none⟩ (.bool false)) g5 g6 { Q with off := 8, frag := false } ou du) := HR.out.put 42 _ ((csP_set HR.out.pk.wf.ad _ _).2.2.2.2.2.2.2.2.2.2.1 false) (wf_frag HR.out.pk.wf false) rfl rfl
      go_upto_region 20 with fail
      clear f42 t42 HR
      generalize w13.setCell ⟨g5, 42, none⟩ (.bool false) = w14 at *
      have HR := HR2
      clear HR2
      clear c0
      have hA := (Away.refl [] w14).alloc (.cells #[.int .u8 97] 5 (1, 2))
      have HRD := Lib.hid ((HR.out.on hA).data (.slice (some ⟨w14.heap.size, 0, none⟩) 1 1) [97] ⟨_, _, rfl, by simp, by simp, Row.lit' w14 [97] (1, 2) (by unfold Bytes; decide) (by simp)⟩ (fun k hk => by simp [Value.ownBlock] at hk; have := HR.out.box.lt; omega) (wf_d HR.out.pk.wf (by unfold Bytes; decide) (by simp)))
      have f45 := ((HR.out.on hA).box.cells HR.out.pk.wf.ad).d
      have t45 := (HR.out.on hA).box.free 45
      clear hA
      go_upto_region 31 with fail
      clear f45 t45 HR
      generalize w14.heap.size = n1 at *
      generalize (w14.alloc (.cells #[.int .u8 97] 5 (1, 2))).setCell ⟨g5, 45, none⟩ (.slice (some ⟨n1, 0, none⟩) 1 1) = w15 at *
      have HR := HRD
      clear HRD
      have HNO : Hid (okN _ false = false) := ok_len (p := { Q with off := 8, frag := false, d := [97] }) (len_off (show (8 : Int) ≠ 0 by decide))
      have K10 : Hid (Calls Tryd.prog 10 #[.agg (csP _ _ _)] w15 (OwnOut w15 _)) := ownP_c _ _ _ w15 HR.out.pk
      go_wp2_with (refine wpList_load28 rfl _ rfl _ rfl _ _ _ (by exact HR.out.box) (by exact HR.out.pk.wf.ad) ?_)
      refine K10.out.mono ?_
      rintro E y1 ⟨ow, dw, rfl, hmi, haw⟩
      have HMI := Lib.hid hmi
      have HWF := Lib.hid HR.out.pk.wf
      have HR3 := Lib.hid (HR.out.on haw)
      clear hmi haw K10 HR
      have K9 := Lib.hid (note_c HR3.out.win _ ow dw (HMI.out.pkt HWF.out) (HG.out.on HR3.out.aw) false 0)
      go_wp2_with fail
      refine K9.out.mono ?_
      rintro E y2 (⟨-, rfl, haw⟩ | ⟨h, -⟩)
      rotate_left
      · rw [HNO.out] at h; simp at h
      have HR4 := Lib.hid (HR3.out.on haw)
      clear haw K9 HR3
      have K11 : Hid (Calls Tryd.prog 11 #[.pointer (some ⟨g6, 0, none⟩)] y2 fun E w' => E = .returned (.int .i64 0) ∧ w' = y2) := wlen_c HR4.out.win
      go_wp2_with fail
      refine K11.out.mono ?_
      rintro E y3 ⟨rfl, hy3⟩
      obtain rfl := hy3.symm
      go_wp2_with fail
      go_ret
      exact ⟨rfl, HR4.out.aw.to_below⟩
    · have e6 : (Q.v == 6) = true := by rw [hv]; rfl
      have HV := Lib.hid hv
      clear hv
      have f43 := (HR.out.box.cells HR.out.pk.wf.ad).off
      have t43 := HR.out.box.free 43
      have HR2 : Hid (Rf w (w12.setCell ⟨g5, 43, none⟩ (.int .i64 8)) g5 g6 { Q with off := 8 } ou du) := HR.out.put 43 _ ((csP_set HR.out.pk.wf.ad _ _).2.2.2.2.2.2.2.2.2.2.2.1 8) (wf_off HR.out.pk.wf (by simp [i64ok])) rfl rfl
      go_upto_region 19 with fail
      clear f43 t43 HR
      generalize w12.setCell ⟨g5, 43, none⟩ (.int .i64 8) = w13 at *
      have HR := HR2
      clear HR2
      have c0 := (HR.out.box.cells HR.out.pk.wf.ad).v
      have f42 := (HR.out.box.cells HR.out.pk.wf.ad).frag
      have t42 := HR.out.box.free 42
      have HR2 : Hid (Rf w (w13.setCell ⟨g5, 42, none⟩ (.bool true)) g5 g6 { Q with off := 8, frag := true } ou du) := HR.out.put 42 _ ((csP_set HR.out.pk.wf.ad _ _).2.2.2.2.2.2.2.2.2.2.1 true) (wf_frag HR.out.pk.wf true) rfl rfl
      go_upto_region 20 with fail
      clear f42 t42 HR
      generalize w13.setCell ⟨g5, 42, none⟩ (.bool true) = w14 at *
      have HR := HR2
      clear HR2
      clear c0
      have hA := (Away.refl [] w14).alloc (.cells #[.int .u8 97] 5 (1, 2))
      have HRD := Lib.hid ((HR.out.on hA).data (.slice (some ⟨w14.heap.size, 0, none⟩) 1 1) [97] ⟨_, _, rfl, by simp, by simp, Row.lit' w14 [97] (1, 2) (by unfold Bytes; decide) (by simp)⟩ (fun k hk => by simp [Value.ownBlock] at hk; have := HR.out.box.lt; omega) (wf_d HR.out.pk.wf (by unfold Bytes; decide) (by simp)))
      have f45 := ((HR.out.on hA).box.cells HR.out.pk.wf.ad).d
      have t45 := (HR.out.on hA).box.free 45
      clear hA
      go_upto_region 31 with fail
      clear f45 t45 HR
      generalize w14.heap.size = n1 at *
      generalize (w14.alloc (.cells #[.int .u8 97] 5 (1, 2))).setCell ⟨g5, 45, none⟩ (.slice (some ⟨n1, 0, none⟩) 1 1) = w15 at *
      have HR := HRD
      clear HRD
      have HNO : Hid (okN _ false = false) := ok_len (p := { Q with off := 8, frag := true, d := [97] }) (len_off (show (8 : Int) ≠ 0 by decide))
      have K10 : Hid (Calls Tryd.prog 10 #[.agg (csP _ _ _)] w15 (OwnOut w15 _)) := ownP_c _ _ _ w15 HR.out.pk
      go_wp2_with (refine wpList_load28 rfl _ rfl _ rfl _ _ _ (by exact HR.out.box) (by exact HR.out.pk.wf.ad) ?_)
      refine K10.out.mono ?_
      rintro E y1 ⟨ow, dw, rfl, hmi, haw⟩
      have HMI := Lib.hid hmi
      have HWF := Lib.hid HR.out.pk.wf
      have HR3 := Lib.hid (HR.out.on haw)
      clear hmi haw K10 HR
      have K9 := Lib.hid (note_c HR3.out.win _ ow dw (HMI.out.pkt HWF.out) (HG.out.on HR3.out.aw) false 0)
      go_wp2_with fail
      refine K9.out.mono ?_
      rintro E y2 (⟨-, rfl, haw⟩ | ⟨h, -⟩)
      rotate_left
      · rw [HNO.out] at h; simp at h
      have HR4 := Lib.hid (HR3.out.on haw)
      clear haw K9 HR3
      have K11 : Hid (Calls Tryd.prog 11 #[.pointer (some ⟨g6, 0, none⟩)] y2 fun E w' => E = .returned (.int .i64 0) ∧ w' = y2) := wlen_c HR4.out.win
      go_wp2_with fail
      refine K11.out.mono ?_
      rintro E y3 ⟨rfl, hy3⟩
      obtain rfl := hy3.symm
      go_wp2_with fail
      go_ret
      exact ⟨rfl, HR4.out.aw.to_below⟩
  · clear hk7
    have f42 := (HR.out.box.cells HR.out.pk.wf.ad).frag
    have t42 := HR.out.box.free 42
    have HR2 : Hid (Rf w (w12.setCell ⟨g5, 42, none⟩ (.bool true)) g5 g6 { Q with frag := true } ou du) := HR.out.put 42 _ ((csP_set HR.out.pk.wf.ad _ _).2.2.2.2.2.2.2.2.2.2.1 true) (wf_frag HR.out.pk.wf true) rfl rfl
    go_upto_region 31 with fail
    clear f42 t42 HR
    generalize w12.setCell ⟨g5, 42, none⟩ (.bool true) = w13 at *
    have HR := HR2
    clear HR2
    have HNO : Hid (okN _ false = false) := ok_len (p := { Q with frag := true }) (len_frag rfl)
    have K10 : Hid (Calls Tryd.prog 10 #[.agg (csP _ _ _)] w13 (OwnOut w13 _)) := ownP_c _ _ _ w13 HR.out.pk
    go_wp2_with (refine wpList_load28 rfl _ rfl _ rfl _ _ _ (by exact HR.out.box) (by exact HR.out.pk.wf.ad) ?_)
    refine K10.out.mono ?_
    rintro E y1 ⟨ow, dw, rfl, hmi, haw⟩
    have HMI := Lib.hid hmi
    have HWF := Lib.hid HR.out.pk.wf
    have HR3 := Lib.hid (HR.out.on haw)
    clear hmi haw K10 HR
    have K9 := Lib.hid (note_c HR3.out.win _ ow dw (HMI.out.pkt HWF.out) (HG.out.on HR3.out.aw) false 0)
    go_wp2_with fail
    refine K9.out.mono ?_
    rintro E y2 (⟨-, rfl, haw⟩ | ⟨h, -⟩)
    rotate_left
    · rw [HNO.out] at h; simp at h
    have HR4 := Lib.hid (HR3.out.on haw)
    clear haw K9 HR3
    have K11 : Hid (Calls Tryd.prog 11 #[.pointer (some ⟨g6, 0, none⟩)] y2 fun E w' => E = .returned (.int .i64 0) ∧ w' = y2) := wlen_c HR4.out.win
    go_wp2_with fail
    refine K11.out.mono ?_
    rintro E y3 ⟨rfl, hy3⟩
    obtain rfl := hy3.symm
    go_wp2_with fail
    go_ret
    exact ⟨rfl, HR4.out.aw.to_below⟩
  · clear hk7
    have f38 := (HR.out.box.cells HR.out.pk.wf.ad).ttl
    have t38 := HR.out.box.free 38
    have HR2 : Hid (Rf w (w12.setCell ⟨g5, 38, none⟩ (.int .i64 256)) g5 g6 { Q with ttl := 256 } ou du) := HR.out.put 38 _ ((csP_set HR.out.pk.wf.ad _ _).2.2.2.2.2.2.1 256) (wf_ttl HR.out.pk.wf (by simp [i64ok])) rfl rfl
    go_upto_region 31 with fail
    clear f38 t38 HR
    generalize w12.setCell ⟨g5, 38, none⟩ (.int .i64 256) = w13 at *
    have HR := HR2
    clear HR2
    have HNO : Hid (okN _ false = false) := ok_len (p := { Q with ttl := 256 }) (len_ttl rfl)
    have K10 : Hid (Calls Tryd.prog 10 #[.agg (csP _ _ _)] w13 (OwnOut w13 _)) := ownP_c _ _ _ w13 HR.out.pk
    go_wp2_with (refine wpList_load28 rfl _ rfl _ rfl _ _ _ (by exact HR.out.box) (by exact HR.out.pk.wf.ad) ?_)
    refine K10.out.mono ?_
    rintro E y1 ⟨ow, dw, rfl, hmi, haw⟩
    have HMI := Lib.hid hmi
    have HWF := Lib.hid HR.out.pk.wf
    have HR3 := Lib.hid (HR.out.on haw)
    clear hmi haw K10 HR
    have K9 := Lib.hid (note_c HR3.out.win _ ow dw (HMI.out.pkt HWF.out) (HG.out.on HR3.out.aw) false 0)
    go_wp2_with fail
    refine K9.out.mono ?_
    rintro E y2 (⟨-, rfl, haw⟩ | ⟨h, -⟩)
    rotate_left
    · rw [HNO.out] at h; simp at h
    have HR4 := Lib.hid (HR3.out.on haw)
    clear haw K9 HR3
    have K11 : Hid (Calls Tryd.prog 11 #[.pointer (some ⟨g6, 0, none⟩)] y2 fun E w' => E = .returned (.int .i64 0) ∧ w' = y2) := wlen_c HR4.out.win
    go_wp2_with fail
    refine K11.out.mono ?_
    rintro E y3 ⟨rfl, hy3⟩
    obtain rfl := hy3.symm
    go_wp2_with fail
    go_ret
    exact ⟨rfl, HR4.out.aw.to_below⟩
  · clear hk7
    have f3 := (HR.out.box.cells HR.out.pk.wf.ad).sv
    have t3 := HR.out.box.free 3
    have HR2 : Hid (Rf w (w12.setCell ⟨g5, 3, none⟩ (.int .i64 0)) g5 g6 { Q with sv := 0 } ou du) := HR.out.put 3 _ ((csP_set HR.out.pk.wf.ad _ _).2.2.2.1 0) (wf_sv HR.out.pk.wf (by simp [i64ok])) rfl rfl
    go_upto_region 31 with fail
    clear f3 t3 HR
    generalize w12.setCell ⟨g5, 3, none⟩ (.int .i64 0) = w13 at *
    have HR := HR2
    clear HR2
    have HNO : Hid (okN _ false = false) := ok_len (p := { Q with sv := 0 }) (len_sv rfl)
    have K10 : Hid (Calls Tryd.prog 10 #[.agg (csP _ _ _)] w13 (OwnOut w13 _)) := ownP_c _ _ _ w13 HR.out.pk
    go_wp2_with (refine wpList_load28 rfl _ rfl _ rfl _ _ _ (by exact HR.out.box) (by exact HR.out.pk.wf.ad) ?_)
    refine K10.out.mono ?_
    rintro E y1 ⟨ow, dw, rfl, hmi, haw⟩
    have HMI := Lib.hid hmi
    have HWF := Lib.hid HR.out.pk.wf
    have HR3 := Lib.hid (HR.out.on haw)
    clear hmi haw K10 HR
    have K9 := Lib.hid (note_c HR3.out.win _ ow dw (HMI.out.pkt HWF.out) (HG.out.on HR3.out.aw) false 0)
    go_wp2_with fail
    refine K9.out.mono ?_
    rintro E y2 (⟨-, rfl, haw⟩ | ⟨h, -⟩)
    rotate_left
    · rw [HNO.out] at h; simp at h
    have HR4 := Lib.hid (HR3.out.on haw)
    clear haw K9 HR3
    have K11 : Hid (Calls Tryd.prog 11 #[.pointer (some ⟨g6, 0, none⟩)] y2 fun E w' => E = .returned (.int .i64 0) ∧ w' = y2) := wlen_c HR4.out.win
    go_wp2_with fail
    refine K11.out.mono ?_
    rintro E y3 ⟨rfl, hy3⟩
    obtain rfl := hy3.symm
    go_wp2_with fail
    go_ret
    exact ⟨rfl, HR4.out.aw.to_below⟩
  · clear hk7
    have f0 := (HR.out.box.cells HR.out.pk.wf.ad).v
    have t0 := HR.out.box.free 0
    have HR2 : Hid (Rf w (w12.setCell ⟨g5, 0, none⟩ (.int .i64 5)) g5 g6 { Q with v := 5 } ou du) := HR.out.put 0 _ ((csP_set HR.out.pk.wf.ad _ _).1 5) (wf_v HR.out.pk.wf (by simp [i64ok])) rfl rfl
    go_upto_region 31 with fail
    clear f0 t0 HR
    generalize w12.setCell ⟨g5, 0, none⟩ (.int .i64 5) = w13 at *
    have HR := HR2
    clear HR2
    have HNO : Hid (okN _ false = false) := ok_len (p := { Q with v := 5 }) (len_v rfl)
    have K10 : Hid (Calls Tryd.prog 10 #[.agg (csP _ _ _)] w13 (OwnOut w13 _)) := ownP_c _ _ _ w13 HR.out.pk
    go_wp2_with (refine wpList_load28 rfl _ rfl _ rfl _ _ _ (by exact HR.out.box) (by exact HR.out.pk.wf.ad) ?_)
    refine K10.out.mono ?_
    rintro E y1 ⟨ow, dw, rfl, hmi, haw⟩
    have HMI := Lib.hid hmi
    have HWF := Lib.hid HR.out.pk.wf
    have HR3 := Lib.hid (HR.out.on haw)
    clear hmi haw K10 HR
    have K9 := Lib.hid (note_c HR3.out.win _ ow dw (HMI.out.pkt HWF.out) (HG.out.on HR3.out.aw) false 0)
    go_wp2_with fail
    refine K9.out.mono ?_
    rintro E y2 (⟨-, rfl, haw⟩ | ⟨h, -⟩)
    rotate_left
    · rw [HNO.out] at h; simp at h
    have HR4 := Lib.hid (HR3.out.on haw)
    clear haw K9 HR3
    have K11 : Hid (Calls Tryd.prog 11 #[.pointer (some ⟨g6, 0, none⟩)] y2 fun E w' => E = .returned (.int .i64 0) ∧ w' = y2) := wlen_c HR4.out.win
    go_wp2_with fail
    refine K11.out.mono ?_
    rintro E y3 ⟨rfl, hy3⟩
    obtain rfl := hy3.symm
    go_wp2_with fail
    go_ret
    exact ⟨rfl, HR4.out.aw.to_below⟩
  · clear hk7
    have f43 := (HR.out.box.cells HR.out.pk.wf.ad).off
    have t43 := HR.out.box.free 43
    have HR2 : Hid (Rf w (w12.setCell ⟨g5, 43, none⟩ (.int .i64 (-8))) g5 g6 { Q with off := -8 } ou du) := HR.out.put 43 _ ((csP_set HR.out.pk.wf.ad _ _).2.2.2.2.2.2.2.2.2.2.2.1 (-8)) (wf_off HR.out.pk.wf (by simp [i64ok])) rfl rfl
    go_upto_region 31 with fail
    clear f43 t43 HR
    generalize w12.setCell ⟨g5, 43, none⟩ (.int .i64 (-8)) = w13 at *
    have HR := HR2
    clear HR2
    have HNO : Hid (okN _ false = false) := ok_len (p := { Q with off := -8 }) (len_off (show (-8 : Int) ≠ 0 by decide))
    have K10 : Hid (Calls Tryd.prog 10 #[.agg (csP _ _ _)] w13 (OwnOut w13 _)) := ownP_c _ _ _ w13 HR.out.pk
    go_wp2_with (refine wpList_load28 rfl _ rfl _ rfl _ _ _ (by exact HR.out.box) (by exact HR.out.pk.wf.ad) ?_)
    refine K10.out.mono ?_
    rintro E y1 ⟨ow, dw, rfl, hmi, haw⟩
    have HMI := Lib.hid hmi
    have HWF := Lib.hid HR.out.pk.wf
    have HR3 := Lib.hid (HR.out.on haw)
    clear hmi haw K10 HR
    have K9 := Lib.hid (note_c HR3.out.win _ ow dw (HMI.out.pkt HWF.out) (HG.out.on HR3.out.aw) false 0)
    go_wp2_with fail
    refine K9.out.mono ?_
    rintro E y2 (⟨-, rfl, haw⟩ | ⟨h, -⟩)
    rotate_left
    · rw [HNO.out] at h; simp at h
    have HR4 := Lib.hid (HR3.out.on haw)
    clear haw K9 HR3
    have K11 : Hid (Calls Tryd.prog 11 #[.pointer (some ⟨g6, 0, none⟩)] y2 fun E w' => E = .returned (.int .i64 0) ∧ w' = y2) := wlen_c HR4.out.win
    go_wp2_with fail
    refine K11.out.mono ?_
    rintro E y3 ⟨rfl, hy3⟩
    obtain rfl := hy3.symm
    go_wp2_with fail
    go_ret
    exact ⟨rfl, HR4.out.aw.to_below⟩
  · clear hk7
    go_wp2_with fail
    refine (first_c w12).mono ?_
    rintro E w13 ⟨b, rfl, hb1, hb2, hsl, haw⟩
    have HPX : Hid (Pkt w13 exP (.slice none 0 0) (.slice (some ⟨b, 0, none⟩) 3 3)) := ⟨ex_wf, Sl.nil _, hsl⟩
    replace HR := Lib.hid (HR.out.on haw)
    clear hb1 hb2 hsl haw
    have K7 : Hid (Calls Tryd.prog 7 #[.agg (csP exP (.slice none 0 0) (.slice (some ⟨b, 0, none⟩) 3 3))] w13 (MendOut w13 exP)) := mended_c exP _ _ w13 HPX.out
    go_wp2_with fail
    refine K7.out.mono ?_
    rintro E w14 ⟨oe, de, rfl, hm, haw⟩
    have HNO : Hid (okN (mendP exP) true = false) := ex_no
    have HXW : Hid (Wf (mendP exP)) := mend_wf ex_wf
    generalize mendP exP = X at *
    have o1 : oe.oneCell' = true := by obtain ⟨a, n, c, e⟩ := hm.o.shp; rw [e]; rfl
    have o2 : de.oneCell' = true := by obtain ⟨a, n, c, e⟩ := hm.d.shp; rw [e]; rfl
    have HLX : Hid (∀ k, oe.ownBlock = some k ∨ de.ownBlock = some k → k ≠ g5) := fun k hk => by
      have h1 := HR.out.box.lt
      rcases hk with hk | hk
      · have := hm.no k hk; omega
      · have := hm.nd k hk; omega
    have HMX := Lib.hid hm
    replace HR := Lib.hid (HR.out.on haw)
    clear haw hm K7 HPX
    go_wp2_with (refine wpList_store28 rfl _ _ rfl g5 rfl X oe de rfl Q ou du (by exact HR.out.box) (by exact HXW.out.ad) (by exact HQW.out.ad) o1 o2 ?_; refine Hid.out ?_)
    refine Lib.hid ?_
    intro w15 hb haw
    have HR2 : Hid (Rf w w15 g5 g6 X oe de) := by
      obtain ⟨h1, h2, h3, h4⟩ := HR.out.away5 haw
      have h := HR.out
      exact ⟨hb, ⟨HXW.out, (HMX.out.pkt HXW.out).o.away haw (fun _ k hk => by simpa using HLX.out k (.inl hk)), (HMX.out.pkt HXW.out).d.away haw (fun _ k hk => by simpa using HLX.out k (.inr hk))⟩, fun _ k hk => HLX.out k (.inl hk), fun _ k hk => HLX.out k (.inr hk), h1, h.ne, h.n5, h.n6, h4, h.gl⟩
    clear hb haw HR HMX HLX o1 o2
    have HR := HR2
    clear HR2
    have K10 : Hid (Calls Tryd.prog 10 #[.agg (csP _ _ _)] w15 (OwnOut w15 _)) := ownP_c _ _ _ w15 HR.out.pk
    go_wp2_with (refine wpList_load28 rfl _ rfl _ rfl _ _ _ (by exact HR.out.box) (by exact HR.out.pk.wf.ad) ?_)
    refine K10.out.mono ?_
    rintro E y1 ⟨ow, dw, rfl, hmi, haw⟩
    have HMI := Lib.hid hmi
    have HWF := Lib.hid HR.out.pk.wf
    have HR3 := Lib.hid (HR.out.on haw)
    clear hmi haw K10 HR
    have K9 := Lib.hid (note_c HR3.out.win _ ow dw (HMI.out.pkt HWF.out) (HG.out.on HR3.out.aw) true 0)
    go_wp2_with fail
    refine K9.out.mono ?_
    rintro E y2 (⟨-, rfl, haw⟩ | ⟨h, -⟩)
    rotate_left
    · rw [HNO.out] at h; simp at h
    have HR4 := Lib.hid (HR3.out.on haw)
    clear haw K9 HR3
    have K11 : Hid (Calls Tryd.prog 11 #[.pointer (some ⟨g6, 0, none⟩)] y2 fun E w' => E = .returned (.int .i64 0) ∧ w' = y2) := wlen_c HR4.out.win
    go_wp2_with fail
    refine K11.out.mono ?_
    rintro E y3 ⟨rfl, hy3⟩
    obtain rfl := hy3.symm
    go_wp2_with fail
    go_ret
    exact ⟨rfl, HR4.out.aw.to_below⟩
end sentRefuses
namespace sentRefuses
theorem contract (H : Type) (enc : TypeId × Value → H) (W : World) (base : Nat) (args : Array Value) (ds gs : List (DataW H)) (before : List MemPlace)
    (hval0 : ∀ (j : Nat) t v, Tryd.f3.params[j]? = some t → args[j]? = some v → Value.okWide Tryd.prog W .any base t v)
    (hW : DataW.Whole enc Tryd.prog Tryd.f3.params.toList Rows.sentRefusesSpec.vars false W args.toList ds gs before)
    (hsz0 : (DataW.weightsEach Tryd.prog (Tryd.f3.params.toList ++ Rows.sentRefusesSpec.plain.varTypes Tryd.prog) (ds ++ gs)).all (· ≤ reachBytes) = true)
    (hL : laidMetH Tryd.prog Rows.sentRefusesRow.laid W) :
    Calls Tryd.prog 3 args W fun e W' => ∃ v, e = .returned v ∧ Rows.sentRefusesSpec.post enc Tryd.prog Tryd.f3 false true false false W args v W' := by
  have hval := hval0
  have hsz := hsz0
  have hW' := hW
  obtain ⟨p, q, hA0, hV, rfl, hfz, hnd⟩ := hW
  have hA : DataW.TrodAll enc Tryd.prog W 0 (fun _ => true) true Tryd.f3.params.toList args.toList ds p := hA0
  rw [Tryd.params3] at hA hval hsz
  obtain ⟨v0, vs0, d0, ds0, p0, q0, hargs, rfl, rfl, h0, r0⟩ := trodAll_cons hA
  obtain ⟨v1, vs1, d1, ds1, p1, q1, rfl, rfl, rfl, h1, r1⟩ := trodAll_cons r0
  obtain ⟨rfl, rfl, rfl⟩ := trodAll_nil r1
  obtain rfl : args = #[v0, v1] := by cases args; simp_all
  obtain ⟨rfl, rfl⟩ := trodVars_none hV
  have k0 := h0
  have lt0 : ∀ x ∈ p0, x.block < W.heap.size := by obtain ⟨m, hm⟩ := k0; exact DataW.trod_lt m _ _ _ hm
  have z0 : ∀ m ∈ d0.weights Tryd.prog 28, m ≤ reachBytes := fun m hm => by
    have := List.all_eq_true.1 hsz m (DataW.weights_mem_each (j := 0) (t := 28) rfl rfl m hm)
    simpa using this
  obtain ⟨x0, ov0, dv0, rfl, w0, ol0, dl0⟩ := open_pkt (hval 0 28 v0 rfl rfl) h0 z0
  obtain ⟨a1, rfl, rfl, rfl, w1⟩ := open_int Tryd.underlying3 (hval 1 3 v1 rfl rfl) h1
  clear hA0 hval0
  refine (walk x0 ov0 dv0 a1 W (glob_of hL) w0 ol0 dl0 w1).mono fun e W' ⟨he, bel⟩ => ?_
  subst he
  exact ⟨_, rfl, _, _, _, [], _, [], hW', trodAll_mk1 (shut_bool Tryd.underlying4 _), (trodAll_cons_mk (Below.trod laidOut (by kernel_rfl) (of_decide_eq_true (by kernel_rfl)) k0 bel lt0) (trodAll_cons_mk (shut_int Tryd.underlying3 w1) trodAll_mk0)), rfl, bel.frame _, fun h => by cases h⟩
theorem laid_met (os : Os) : laidMet Tryd.prog Rows.sentRefusesRow.laid ((laidWorld Tryd.prog os).forCall (fun _ _ => 0) ⟨#[], #[.agg (csP zeroPk (.slice none 0 0) (.slice none 0 0)), .int .i64 0], []⟩).memory :=
  laidMet_of_run' 8 (by kernel_rfl) (by kernel_rfl)
theorem reads (os : Os) {H : Type} (enc : TypeId × Value → H) : ∃ places, DataW.whole enc Tryd.prog ((laidWorld Tryd.prog os).forCall (fun _ _ => 0) ⟨#[], #[.agg (csP zeroPk (.slice none 0 0) (.slice none 0 0)), .int .i64 0], []⟩).memory Tryd.f3.params.toList Rows.sentRefusesSpec.vars false #[.agg (csP zeroPk (.slice none 0 0) (.slice none 0 0)), .int .i64 0].toList 8 = some ([.agg [.lit (.int .i64 0), .lit (.int .i64 0), .lit (.int .i64 0), .agg [.lit (.int .i64 0), .agg [.lit (.int .u8 0), .lit (.int .u8 0), .lit (.int .u8 0), .lit (.int .u8 0), .lit (.int .u8 0), .lit (.int .u8 0), .lit (.int .u8 0), .lit (.int .u8 0), .lit (.int .u8 0), .lit (.int .u8 0), .lit (.int .u8 0), .lit (.int .u8 0), .lit (.int .u8 0), .lit (.int .u8 0), .lit (.int .u8 0), .lit (.int .u8 0)]], .agg [.lit (.int .i64 0), .agg [.lit (.int .u8 0), .lit (.int .u8 0), .lit (.int .u8 0), .lit (.int .u8 0), .lit (.int .u8 0), .lit (.int .u8 0), .lit (.int .u8 0), .lit (.int .u8 0), .lit (.int .u8 0), .lit (.int .u8 0), .lit (.int .u8 0), .lit (.int .u8 0), .lit (.int .u8 0), .lit (.int .u8 0), .lit (.int .u8 0), .lit (.int .u8 0)]], .lit (.int .i64 0), .lit (.int .i64 0), .lit (.int .u32 0), .lit (.bool false), .lit (.bool false), .lit (.bool false), .lit (.int .i64 0), .nil, .nil], .lit (.int .i64 0)], [], places) :=
  ⟨[], by kernel_rfl⟩
theorem lifted (os : Os) (started : os.Started) (H : Type) (enc : TypeId × Value → H) (F : Stop.Interp) :
    ReturnsInHanded {} Tryd.checked os 3 .any ((OpenSpec.ofChange Rows.sentRefusesSpec).preRow enc Tryd.prog Tryd.f3 Rows.sentRefusesRow.domain false Rows.sentRefusesRow.laid) (((OpenSpec.ofChange Rows.sentRefusesSpec).at F).post enc Tryd.prog Tryd.f3 false true false false) := by
  obtain ⟨places, hx⟩ := reads os enc
  refine returnsInHanded_of_row (C := Tryd.checked) (s := OpenSpec.ofChange Rows.sentRefusesSpec) ownKn started (by kernel_rfl) Tryd.func3
    (witness_row_at (enc := enc) (C := Tryd.checked) false (laidWorld Tryd.prog os) #[.agg (csP zeroPk (.slice none 0 0) (.slice none 0 0)), .int .i64 0] rfl (by kernel_rfl) (by kernel_rfl) (by kernel_rfl)
      (OpenSpec.preRow_of_cond 8 hx (by kernel_rfl) (fun k hk => by cases hk) (by kernel_rfl) (laid_met os))) ?_
  intro W base args ds gs before hval hW _ hcond hsz hL hS _
  exact contract H enc W base args ds gs before hval hW hsz hL
theorem said : Rows.SentRefusesSaid :=
  OpenClaim.holds_of_cond 3 Tryd.f3 rfl rfl rfl rfl rfl rfl rfl ⟨rfl, rfl, rfl, rfl, rfl⟩ rfl rfl rfl rfl rfl (by kernel_rfl) Tryd.func3 (by kernel_rfl)
    (of_decide_eq_true (by kernel_rfl)) (by unfold Func.isWrapper; first | (rw [if_pos (by decide +kernel)]; kernel_rfl) | (rw [if_neg (by decide +kernel)]; exact ⟨rfl, rfl⟩))
    (fun os started H enc _ F => by rw [OpenClaim.pre_eq_preRow]; exact lifted os started H enc F)
theorem plain (f : FuncId) (fn : Func) (hf : Tryd.pinned.checked.prog.funcNamed "mosaic/mosaiclaw17.SentRefuses" = some f) (hfn : Tryd.pinned.checked.prog.funcs[f]? = some fn) :
    false = Tryd.pinned.checked.prog.looks [] ∧ ∀ (j : Nat) t, fn.params[j]? = some t → Tryd.pinned.checked.prog.wantsStandIn t = false := by
  obtain rfl : f = 3 := Option.some.inj ((show Tryd.prog.funcNamed "mosaic/mosaiclaw17.SentRefuses" = some 3 by kernel_rfl).symm.trans hf) |>.symm
  obtain rfl : fn = Tryd.f3 := (Option.some.inj (Tryd.func3.symm.trans hfn)).symm
  refine ⟨by kernel_rfl, fun j t ht => ?_⟩
  rw [Tryd.params3] at ht
  have hm := Array.mem_of_getElem? ht
  simp only [List.mem_toArray, List.mem_cons, List.not_mem_nil, or_false] at hm
  have h28 : Tryd.prog.wantsStandIn 28 = false := by kernel_rfl
  have h26 : Tryd.prog.wantsStandIn 26 = false := by kernel_rfl
  have h3 : Tryd.prog.wantsStandIn 3 = false := by kernel_rfl
  have h25 : Tryd.prog.wantsStandIn 25 = false := by kernel_rfl
  have h4 : Tryd.prog.wantsStandIn 4 = false := by kernel_rfl

  rcases hm with rfl | rfl
  all_goals first | exact h28 | exact h26 | exact h3 | exact h25 | exact h4
theorem card : Rows.SentRefusesCardSaid :=
  Claim7.holds_tied_plain_at .later [] _ _ _ _ said (fun _ h => by cases h) (by kernel_rfl) (fun _ h => by cases h) sentRefuses_row_tie rfl ⟨rfl, rfl⟩ (by kernel_rfl) rfl plain (by kernel_rfl)
end sentRefuses
theorem sentRefuses_holds : Rows.SentRefusesCardSaid := sentRefuses.card
#print axioms sentRefuses_holds
end Go.Proofs.YtpmkmldcgiodgaaDoor
