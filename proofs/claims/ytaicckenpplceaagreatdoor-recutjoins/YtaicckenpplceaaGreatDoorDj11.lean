/-
  The document: Join.
-/
import Derived.Test.YtaicckenpplceaaGreatDoorDf11
import Derived.Test.YtaicckenpplceaaGreatDoorFs
import Derived.Test.YtaicckenpplceaaGreatDoorOw
namespace Go.Proofs.YtaicckenpplceaaGreatDoor
open Go.ChangeShapes Go.WideShapes Go.ChangeAt Go.RowKit Num
open S6 (wp_region_cls quiet_val quiet_call quiet_ld ld3 ld4 ld5 ld25 ld26 load28_run load24m_run)
set_option linter.unusedVariables false
set_option linter.unusedSimpArgs false
set_option maxHeartbeats 16000000
set_option maxRecDepth 100000

namespace R
/-- A variable of the call's own, its two lists of its own too: J holds it. -/
structure JV (w0 w : World) (g2 g7 : Nat) (q : Pk) (ou du : Value) : Prop where
  b2 : BoxP w g2 zeroPk (.slice none 0 0) (.slice none 0 0)
  b7 : BoxP w g7 q ou du
  m : Mine w w0.heap.size q ou du
  ne : g2 ≠ g7 ∧ w0.heap.size ≤ g2 ∧ w0.heap.size ≤ g7
  no : ∀ k, ou.ownBlock = some k ∨ du.ownBlock = some k → k ≠ g2 ∧ k ≠ g7
  aw : Away [] w0 w
theorem JV.on {w0 w w' : World} {g2 g7 : Nat} {q : Pk} {ou du : Value} (h : JV w0 w g2 g7 q ou du) (hw : Away [] w w') : JV w0 w' g2 g7 q ou du := ⟨h.b2.on hw, h.b7.on hw, h.m.on hw, h.ne, h.no, h.aw.trans hw⟩
/-- A field of it that is no list, stored. -/
theorem JV.put {w0 w w1 : World} {g2 g7 : Nat} {q q' : Pk} {ou du : Value} (h : JV w0 w g2 g7 q ou du) (hb : BoxP w1 g7 q' ou du) (hw : Away [g7] w w1) (ho : q'.o = q.o) (hd : q'.d = q.d) : JV w0 w1 g2 g7 q' ou du :=
  ⟨h.b2.away hw (by simp; exact h.ne.1), hb, by
    have hm := h.m.away hw (fun k hk => by simp; exact (h.no k hk).2)
    exact ⟨by rw [ho]; exact hm.o, by rw [hd]; exact hm.d, hm.no, hm.nd, hm.ap⟩, h.ne, h.no, h.aw.next hw (fun x hx => .inr (by simp at hx; subst hx; exact h.ne.2.2))⟩
def dlen (w : World) (g : Nat) : Nat := match w.cell? ⟨g, 45, none⟩ with | some (.slice _ n _) => n | _ => 0
theorem JV.dlen {w0 w : World} {g2 g7 : Nat} {q : Pk} {ou : Value} {a : Option Addr} {n c : Nat} (h : JV w0 w g2 g7 q ou (.slice a n c)) (ha : Ad q) : R.dlen w g7 = n := by
  unfold R.dlen; rw [(h.b7.cells ha).d]
theorem yields_ix {ops : Array Oper} {S : World → Prop} {op : Oper} {a : Act} {gb go n cap i : Nat} {z : Int} (hw : Region.wanted op (yielded ops a.tmps) = true) (x ix : Operand) (ho : op.op = .indexAddr 22 x ix) (hx : a.eval x = .slice (some ⟨gb, go, none⟩) n cap) (hix : a.eval ix = .int .i64 z) (hz : z = (i : Int)) (hi : i < n) :
    YieldsIf Tryz.prog ops S op (.pointer (some ⟨gb, go + i * 46, none⟩)) a :=
  .inl ⟨hw, fun w hw' => by
    unfold execOp
    simp only [ho, hx, hix, Sem.run_bind, ix32_run w gb go n cap i z hz hi, Result.andThen_ok, Sem.run_pure]⟩
theorem JV.grow {w0 w w' : World} {g2 g7 : Nat} {q : Pk} {ou du v' : Value} {l : List Int} (h : JV w0 w g2 g7 q ou du) (ho : Owns w' v' (q.d ++ l)) (hgr : w.grownBy w' du.ownBlock) (hmv : Moved w du v') (hn : ∀ k, du.ownBlock = some k → w0.heap.size ≤ k) :
    BoxP w' g2 zeroPk (.slice none 0 0) (.slice none 0 0) ∧ BoxP w' g7 q ou du ∧ Owns w' ou q.o ∧ New w0.heap.size v' ∧ (∀ k, ou.ownBlock = some k → v'.ownBlock ≠ some k) ∧ (∀ k, v'.ownBlock = some k → k ≠ g2 ∧ k ≠ g7) ∧ Away [] w0 w' := by
  have hsz := h.aw.size
  have h2 := h.b2.lt; have h7 := h.b7.lt
  have hdn : ∀ k, du.ownBlock = some k → k ≠ g2 ∧ k ≠ g7 := fun k hk => h.no k (.inr hk)
  have hb : ∀ g (o : Obj), g < w.heap.size → (∀ k, du.ownBlock = some k → k ≠ g) → w.heap[g]? = some o → w'.heap[g]? = some o := fun g o hg hk ho => (hgr.block g hg (fun e => hk g e.symm rfl)).trans ho
  refine ⟨hb g2 _ h2 (fun k hk => (hdn k hk).1) h.b2, hb g7 _ h7 (fun k hk => (hdn k hk).2) h.b7, ?_, ?_, ?_, ?_, h.aw.grown hgr (fun k hk => .inr (hn k hk))⟩
  · obtain ⟨h1, h2⟩ := h.m.o
    refine ⟨h1, ?_⟩
    rcases h2 with h2 | ⟨g, cap, cur, rfl, hg, hh, r⟩
    · exact .inl h2
    · exact .inr ⟨g, cap, cur, rfl, hg, hb g _ (lt_of_block hh) (fun k hk e => h.m.ap g rfl (by rw [hk, e])) hh, r⟩
  · intro k hk
    rcases hmv k hk with h1 | h1
    · exact hn k h1
    · omega
  · intro k hk hk'
    rcases hmv k hk' with h1 | h1
    · exact h.m.ap k hk h1
    · have := h.m.o.lt k hk; omega
  · intro k hk
    rcases hmv k hk with h1 | h1
    · exact hdn k h1
    · exact ⟨by omega, by omega⟩
theorem pk_ad {p : Pk} (h : Ad p) (o d : List Int) (m : Bool) : Ad { p with o := o, d := d, more := m } := h
/-- What Join tells of packets l whose order is s. -/
def DJoin (l s : List Pk) : Pk × Int := if akinL l = true then joinS s else (zeroPk, 1)
theorem good_iff {l s : List Pk} (hp : s.Perm l) (hs : Srt s) (ha : akinL l = true) : Good l ↔ clashL s = false := by
  have hr : ∀ p ∈ s, rgtP p = true := fun p h => akin_right ha p (hp.mem_iff.1 h)
  exact ⟨fun g => good_clash s hr hs (g.perm hp), fun c => (clash_good s hr hs c).perm hp.symm⟩
theorem datas_pos {s : List Pk} {pre : List Pk} {z : Pk} {t : List Pk} (u : Upto s pre (z :: t)) (h : Ordd s) (hz : z.off = ((datas pre).length : Int)) {e : Int} (he : EndIs s e) (h0 : 0 ≤ e) (hlt : ((datas pre).length : Int) < e) : 0 < z.d.length := by
  cases t with
  | cons y r =>
    have heq := u.eq
    have hc := h.c; have hs := h.so
    rw [heq] at hc hs
    have := ((clash_app pre hc hs).2 y (by simp)).1
    exact rgt_more (h.r z (by rw [heq]; simp)) (.inl this)
  | nil =>
    obtain ⟨q, x, hs, hm, hex⟩ := h.last he h0
    have heq := u.eq
    have : z = x := by
      have := congrArg List.getLast? (heq.symm.trans hs)
      simpa using this
    subst this
    omega
theorem djoin_wf {s : List Pk} {pre : List Pk} {x0 : Pk} (h : Ordd s) (hw : ∀ p ∈ s, Wf p) (hx : x0 ∈ s) (hsub : ∀ p ∈ pre, p ∈ s) (hb : (datas pre).length ≤ 140737488355328) (m : Bool) : Wf { x0 with more := m, d := datas pre } := by
  have h0 := hw x0 hx
  refine ⟨h0.v, h0.tos, h0.flow, h0.sv, h0.sl, h0.sb, h0.dv, h0.dl, h0.db, h0.proto, h0.ttl, h0.id0, h0.id1, h0.off, h0.o, h0.ol, ?_, hb⟩
  intro y hy
  obtain ⟨q, hq, hyq⟩ := List.mem_flatMap.1 hy
  exact (hw q (hsub q hq)).d y hyq
theorem djoin_c (a : Option Addr) (xs : List X) (n cap : Nat) (w : World) (hn : xs.length = n) (hx : Pks w a xs) (s : List Pk) (hsp : s.Perm (xs.map X.p)) (hss : Srt s) :
    Calls Tryz.prog 6 #[.slice a n cap] w fun E w' => ∃ ov dv, E = .returned (.tuple #[.agg (csP (DJoin (xs.map X.p) s).1 ov dv), .int .i64 (DJoin (xs.map X.p) s).2]) ∧ Mine w' w.heap.size (DJoin (xs.map X.p) s).1 ov dv ∧ Away [] w w' := by
  have HX := Lib.hid hx; have HL := Lib.hid hn
  have HSP := Lib.hid hsp; have HSS := Lib.hid hss
  have hNb : n ≤ 925904528640 := by rw [← hn]; exact hx.1
  have HWS : Hid (∀ p ∈ s, Wf p) := fun p hp => by
    obtain ⟨x, hxm, rfl⟩ := List.mem_map.1 (hsp.mem_iff.1 hp)
    exact (hx.2.1 x hxm).wf
  clear hx hn hsp hss
  go_enter Tryz.func6, Tryz.ntmps6
  go_wp2_with (refine wpList_alloc28 rfl rfl ?_; refine Hid.out ?_)
  refine Lib.hid ?_
  intro g2 w1 hg2 hb2 haw
  have HB2 := Lib.hid hb2; have HA := Lib.hid haw
  have HG2 := Lib.hid hg2
  clear hb2 haw hg2
  have KF := Lib.hid (fits_c' a xs n cap w1 HL.out (HX.out.on HA.out))
  go_wp2_with (go_at_call 19; refine KF.out.mono ?_; refine Hid.out ?_)
  refine Lib.hid ?_
  first
    | rintro E w2 e b rfl haw hyes hno
    | rintro E w2 ⟨e, b, rfl, haw, hyes, hno⟩
  have HYES := Lib.hid hyes; have HNO := Lib.hid hno
  replace HA := Lib.hid (HA.out.trans haw)
  replace HB2 := Lib.hid (HB2.out.on haw)
  clear hyes hno haw KF
  cases b
  · have HD : Hid (DJoin (xs.map X.p) s = (zeroPk, 1)) := by
      show _ = _
      unfold DJoin
      by_cases ha : akinL (xs.map X.p) = true
      · rw [if_pos ha]
        refine join_clash ?_
        cases hc : clashL s
        · exact absurd ⟨ha, (good_iff HSP.out HSS.out ha).2 hc⟩ (HNO.out rfl)
        · rfl
      · rw [if_neg ha]
    go_wp2_with (first
      | (refine wpList_buildz rfl rfl ?_)
      | (refine wpList_store28 rfl _ _ rfl g2 rfl zeroPk (.slice none 0 0) (.slice none 0 0) rfl zeroPk (.slice none 0 0) (.slice none 0 0) (by exact HB2.out) ⟨rfl, rfl⟩ ⟨rfl, rfl⟩ rfl rfl ?_; refine Hid.out ?_))
    refine Lib.hid ?_
    intro wz hbz haw
    have HBZ := Lib.hid hbz
    have HAZ : Hid (Away [] w wz) := HA.out.next haw (fun x hx => .inr (by simp at hx; subst hx; exact HG2.out))
    clear hbz haw
    go_wp2_with fail
    exact bodyPost_ret (result28t rfl _ _ _ _ _ _ _ rfl rfl HBZ.out ⟨rfl, rfl⟩) rfl ⟨_, _, by rw [HD.out]; rfl, by rw [HD.out]; exact mine_zero _ _, HAZ.out⟩
  obtain ⟨hak, hgd, hen⟩ := HYES.out rfl
  have HAK := Lib.hid hak
  have HOR : Hid (Ordd s) := ⟨fun p h => akin_right hak p (HSP.out.mem_iff.1 h), HSS.out, (good_iff HSP.out HSS.out hak).1 hgd⟩
  have HEN : Hid (EndIs s e) := hen.perm HSP.out
  have HDJ : Hid (DJoin (xs.map X.p) s = joinS s) := by show _ = _; unfold DJoin; rw [if_pos hak]
  have he : -1 ≤ e ∧ e ≤ 65535 := by
    rcases HEN.out with ⟨h, _⟩ | ⟨p, hp, _, h⟩
    · omega
    · have := rgt_off (HOR.out.r p hp); omega
  clear hak hgd hen HYES HNO
  have KT0 := Lib.hid (at_c a xs n cap 0 w2 HL.out (HX.out.on HA.out))
  go_wp2_with (go_at_call 20; refine KT0.out.mono ?_; refine Hid.out ?_)
  refine Lib.hid ?_
  first
    | rintro E w3 zi rfl rfl hat
    | rintro E w3 ⟨zi, rfl, rfl, hat⟩
  clear KT0
  have HMEM : Hid (∀ x ∈ xs, x.p ∈ s) := fun x hx => HSP.out.mem_iff.2 (List.mem_map.2 ⟨x, hx, rfl⟩)
  have HGAP : Hid ((complL 0 s && (decide (0 < s.length) && !lastB s)) = false → DJoin (xs.map X.p) s = (zeroPk, 110)) := fun h => by rw [HDJ.out]; exact join_gap HOR.out h
  by_cases h0e : e < 0
  · have HD := Lib.hid (HGAP.out (by rw [HOR.out.noend HEN.out h0e]; simp))
    have HBz := HB2
    have HAz := HA
    go_wp2_with (first
      | (refine wpList_buildz rfl rfl ?_)
      | (refine wpList_store28 rfl _ _ rfl g2 rfl zeroPk (.slice none 0 0) (.slice none 0 0) rfl zeroPk (.slice none 0 0) (.slice none 0 0) (by exact HBz.out) ⟨rfl, rfl⟩ ⟨rfl, rfl⟩ rfl rfl ?_; refine Hid.out ?_))
    refine Lib.hid ?_
    intro wz hbz haw
    have HBZ := Lib.hid hbz
    have HAZ : Hid (Away [] w wz) := HAz.out.next haw (fun x hx => .inr (by simp at hx; subst hx; exact HG2.out))
    clear hbz haw
    go_wp2_with fail
    exact bodyPost_ret (result28t rfl _ _ _ _ _ _ _ rfl rfl HBZ.out ⟨rfl, rfl⟩) rfl ⟨_, _, by rw [HD.out]; rfl, by rw [HD.out]; exact mine_zero _ _, HAZ.out⟩
  rcases hat with ⟨i0, x0, hzi, hx0, hoff⟩ | ⟨hzi, hnone⟩
  rotate_left
  · have HD := Lib.hid (HGAP.out (HOR.out.nofirst (fun z hz => by
      obtain ⟨x, hxm, rfl⟩ := List.mem_map.1 (HSP.out.mem_iff.1 hz)
      exact hnone x hxm)))
    have hzl : zi < 0 := by omega
    have HBz := HB2
    have HAz := HA
    subst hzi
    go_wp2_with (first
      | (refine wpList_buildz rfl rfl ?_)
      | (refine wpList_store28 rfl _ _ rfl g2 rfl zeroPk (.slice none 0 0) (.slice none 0 0) rfl zeroPk (.slice none 0 0) (.slice none 0 0) (by exact HBz.out) ⟨rfl, rfl⟩ ⟨rfl, rfl⟩ rfl rfl ?_; refine Hid.out ?_))
    refine Lib.hid ?_
    intro wz hbz haw
    have HBZ := Lib.hid hbz
    have HAZ : Hid (Away [] w wz) := HAz.out.next haw (fun x hx => .inr (by simp at hx; subst hx; exact HG2.out))
    clear hbz haw
    go_wp2_with fail
    exact bodyPost_ret (result28t rfl _ _ _ _ _ _ _ rfl rfl HBZ.out ⟨rfl, rfl⟩) rfl ⟨_, _, by rw [HD.out]; rfl, by rw [HD.out]; exact mine_zero _ _, HAZ.out⟩
  subst hzi
  have hx0m := List.mem_of_getElem? hx0
  obtain ⟨t0, hst0, hup0⟩ := HOR.out.first (HMEM.out x0 hx0m) hoff
  have HUP0 := Lib.hid hup0
  have hi0 : i0 < n := by have := lt_of_get hx0; rw [HL.out] at this; exact this
  obtain ⟨b0, o0, ha0, r0, k0⟩ := HX.out.at hx0
  subst ha0
  have HR0 : Hid (w3.rangeAt b0 (o0 + i0 * 46) (listP x0.p x0.o x0.d)) := range_away HA.out (by simp) r0
  have HP0 : Hid (Pkt w x0.p x0.o x0.d) := k0
  have HAD := Lib.hid k0.wf.ad
  have HX0S := Lib.hid (HMEM.out x0 hx0m)
  obtain ⟨q, xo, xd⟩ := x0
  simp only at HR0 HP0 HAD hup0 hst0 HX0S HUP0
  have HQR := Lib.hid (HOR.out.r q HX0S.out)
  have hqo := rgt_off HQR.out
  have HQW := Lib.hid (HWS.out q HX0S.out)
  have m0 : 0 ≤ (i0 : Int) := by omega
  have m1 : (i0 : Int) < (n : Int) := by omega
  have m2 : ((i0 : Int)).toNat = i0 := by omega
  have m3 : ¬ ((i0 : Int) < 0) := by omega
  have KO : Hid (∀ W, Away [] w W → Calls Tryz.prog 21 #[xo] W fun E w' => ∃ v, E = .returned v ∧ Owns w' v q.o ∧ New W.heap.size v ∧ Away [] W w') := by
    obtain ⟨oa, oc, rfl, y1, y2, y3⟩ := HP0.out.o
    exact fun W h => down_c oa q.o _ oc W rfl y2 (y3.away h (by simp))
  have KD : Hid (∀ W, Away [] w W → Calls Tryz.prog 21 #[xd] W fun E w' => ∃ v, E = .returned v ∧ Owns w' v q.d ∧ New W.heap.size v ∧ Away [] W w') := by
    obtain ⟨oa, oc, rfl, y1, y2, y3⟩ := HP0.out.d
    exact fun W h => down_c oa q.d _ oc W rfl y2 (y3.away h (by simp))
  have HOV := Lib.hid HP0.out.ov; have HDV := Lib.hid HP0.out.dv
  clear hx0 hx0m hoff hst0 hup0 r0 k0
  go_wp2_with (refine wpList_pick28 rfl _ rfl rfl rfl rfl _ _ rfl b0 (o0 + i0 * 46) rfl q xo xd (by exact HR0.out) HAD.out HOV.out HDV.out (fun g => rfl) (fun g => rfl) ?_; refine Hid.out ?_)
  refine Lib.hid ?_
  intro g7 w4 hg7 hb7 haw
  have HB7 := Lib.hid hb7
  have hl2 := HB2.out.lt
  have HNE : Hid (g2 ≠ g7 ∧ w.heap.size ≤ g2 ∧ w.heap.size ≤ g7) := ⟨by omega, HG2.out, by have := HA.out.size; omega⟩
  replace HA := Lib.hid (HA.out.trans haw)
  replace HB2 := Lib.hid (HB2.out.on haw)
  clear hb7 haw hg7 hl2 HR0
  have c44 := (HB7.out.cells HAD.out).o
  obtain ⟨xoa, xon, xoc, hxo⟩ : ∃ a n c, xo = .slice a n c := by obtain ⟨a, c, h, -⟩ := HP0.out.o; exact ⟨_, _, _, h⟩
  obtain ⟨xda, xdn, xdc, hxd⟩ : ∃ a n c, xd = .slice a n c := by obtain ⟨a, c, h, -⟩ := HP0.out.d; exact ⟨_, _, _, h⟩
  subst hxo; subst hxd
  go_wp2_with fail
  refine (KO.out _ HA.out).mono ?_
  rintro E w5 ⟨vo, rfl, hov, hnv, haw⟩
  have HOO := Lib.hid hov
  have HNO : Hid (New w.heap.size vo) := hnv.mono HA.out.size
  have hl2 := HB2.out.lt; have hl7 := HB7.out.lt
  have HON : Hid (∀ k, vo.ownBlock = some k → k ≠ g2 ∧ k ≠ g7) := fun k hk => by have h1 := hnv k hk; exact ⟨by omega, by omega⟩
  replace HA := Lib.hid (HA.out.trans haw)
  replace HB2 := Lib.hid (HB2.out.on haw)
  replace HB7 := Lib.hid (HB7.out.on haw)
  clear hov hnv haw c44 KO hl2 hl7
  obtain ⟨voa, von, voc, rfl⟩ := HOO.out.shp
  go_wp2_with (refine wpList_putF rfl 27 _ _ rfl g7 44 rfl (.slice voa von voc) rfl (fun u h1 h2 => put26 _ _ _ _ _ u h1 h2) q q _ _ _ _ (by exact HB7.out) HAD.out (by omega) (by exact (csP_set (p := q) HAD.out _ _).2.2.2.2.2.2.2.2.2.2.2.2.1 q.o _) ?_; refine Hid.out ?_)
  refine Lib.hid ?_
  intro w6 hb7 haw
  replace HB7 := Lib.hid hb7
  replace HB2 := Lib.hid (HB2.out.away haw (by simp; exact HNE.out.1))
  replace HA := Lib.hid (HA.out.next haw (fun x hx => .inr (by simp at hx; subst hx; exact HNE.out.2.2)))
  replace HOO := Lib.hid (HOO.out.away haw (fun k hk => by simp; exact (HON.out k hk).2))
  clear hb7 haw
  have c45 := (HB7.out.cells HAD.out).d
  go_wp2_with fail
  refine (KD.out _ HA.out).mono ?_
  rintro E w7 ⟨vd, rfl, hov, hnv, haw⟩
  have HOD := Lib.hid hov
  have HND : Hid (New w.heap.size vd) := hnv.mono HA.out.size
  have hl2 := HB2.out.lt; have hl7 := HB7.out.lt
  have HDN : Hid (∀ k, vd.ownBlock = some k → k ≠ g2 ∧ k ≠ g7) := fun k hk => by have h1 := hnv k hk; exact ⟨by omega, by omega⟩
  have HAP : Hid (∀ k, (Value.slice voa von voc).ownBlock = some k → vd.ownBlock ≠ some k) := fun k hk hc => by have h1 := hnv k hc; have h2 := HOO.out.lt k hk; omega
  replace HA := Lib.hid (HA.out.trans haw)
  replace HB2 := Lib.hid (HB2.out.on haw)
  replace HB7 := Lib.hid (HB7.out.on haw)
  replace HOO := Lib.hid (HOO.out.on haw)
  clear hov hnv haw c45 KD hl2 hl7
  obtain ⟨vda, vdn, vdc, rfl⟩ := HOD.out.shp
  go_wp2_with (refine wpList_putF rfl 27 _ _ rfl g7 45 rfl (.slice vda vdn vdc) rfl (fun u h1 h2 => put26 _ _ _ _ _ u h1 h2) q q _ _ _ _ (by exact HB7.out) HAD.out (by omega) (by exact (csP_set (p := q) HAD.out _ _).2.2.2.2.2.2.2.2.2.2.2.2.2 q.d _) ?_; refine Hid.out ?_)
  refine Lib.hid ?_
  intro w8 hb7 haw
  replace HB7 := Lib.hid hb7
  replace HB2 := Lib.hid (HB2.out.away haw (by simp; exact HNE.out.1))
  replace HA := Lib.hid (HA.out.next haw (fun x hx => .inr (by simp at hx; subst hx; exact HNE.out.2.2)))
  replace HOO := Lib.hid (HOO.out.away haw (fun k hk => by simp; exact (HON.out k hk).2))
  replace HOD := Lib.hid (HOD.out.away haw (fun k hk => by simp; exact (HDN.out k hk).2))
  clear hb7 haw
  have HJ8 : Hid (JV w w8 g2 g7 q (.slice voa von voc) (.slice vda vdn vdc)) := ⟨HB2.out, HB7.out, ⟨HOO.out, HOD.out, HNO.out, HND.out, HAP.out⟩, HNE.out, fun k hk => by rcases hk with hk | hk; exact HON.out k hk; exact HDN.out k hk, HA.out⟩
  clear HB2 HB7 HOO HOD HNO HND HAP HON HDN HA
  go_wp2_with (refine wpList_putF rfl 4 _ _ rfl g7 41 rfl (.bool false) rfl (fun u h1 h2 => put4 _ _ _ u h1 h2) q ({ q with more := false }) _ _ _ _ (by exact HJ8.out.b7) HAD.out (by omega) (by exact (csP_set (p := q) HAD.out _ _).2.2.2.2.2.2.2.2.2.1 _) ?_; refine Hid.out ?_)
  refine Lib.hid ?_
  intro w9 hb7 haw
  have HJ : Hid (JV w w9 g2 g7 { q with more := false } (.slice voa von voc) (.slice vda vdn vdc)) := HJ8.out.put hb7 haw rfl rfl
  clear hb7 haw HJ8
  have HD1 : Hid (datas [q] = q.d) := by show _ = _; simp [datas]
  have HJ0 : Hid (JV w w9 g2 g7 { q with more := false, d := datas [q] } (.slice voa von voc) (.slice vda vdn vdc)) := by
    show JV _ _ _ _ _ _ _; rw [HD1.out]; exact HJ.out
  clear HJ
  have h0e' : 0 ≤ e := by omega
  go_wp2_with fail
  go_loopw [8] (fun _ wr => ∃ (pre r t : List Pk) (du : Value), Upto s pre r ∧ pre = q :: t ∧ JV w wr g2 g7 { q with more := false, d := datas pre } (.slice voa von voc) du) (fun _ wr => (e - (R.dlen wr g7 : Int)).toNat)
  case atStart => exact ⟨[q], t0, [], .slice vda vdn vdc, HUP0.out, rfl, HJ0.out⟩
  case round =>
    clear HJ0
    obtain ⟨pre, r, t, du, hup, hpre, hjv⟩ := hrel
    have HUP := Lib.hid hup; have HJ := Lib.hid hjv; have HPRE := Lib.hid hpre
    have HADQ : Hid (Ad { q with more := false, d := datas pre }) := HAD.out
    obtain ⟨L, hL⟩ : ∃ L, L = (datas pre).length := ⟨_, rfl⟩
    have HLD := Lib.hid hL
    have hLb : L ≤ 65535 := by
      obtain ⟨q', x', hp', hx'⟩ := hup.edge HOR.out
      have := rgt_off (HOR.out.r x' (by rw [hup.eq, hp']; simp))
      omega
    obtain ⟨da, dc, hdu⟩ := hjv.m.d.shape
    replace hdu : du = .slice da L dc := by rw [hL]; exact hdu
    subst hdu
    have c45 := (hjv.b7.cells HADQ.out).d
    have hdl := hjv.dlen HADQ.out
    have HDL := Lib.hid hdl
    clear hup hjv hpre hL hdl
    by_cases hlt : (L : Int) < e
    · have hrne : r ≠ [] := (HUP.out.rest HOR.out HEN.out h0e').1 (by rw [← HLD.out]; exact hlt)
      have HRNE := Lib.hid hrne
      clear hrne
      have KT := Lib.hid (at_c (some ⟨b0, o0, none⟩) xs n cap (L : Int) wr HL.out (HX.out.on HJ.out.aw))
      go_wp2_with (go_at_call 20; refine KT.out.mono ?_; refine Hid.out ?_)
      refine Lib.hid ?_
      first
        | rintro E wy zj rfl rfl hat
        | rintro E wy ⟨zj, rfl, rfl, hat⟩
      clear KT
      rcases hat with ⟨i1, x1, hzj, hx1, hoff⟩ | ⟨hzj, hnone⟩
      rotate_left
      · have HD := Lib.hid (HGAP.out (by
          rw [HUP.out.gap HOR.out HRNE.out (fun z hz => by
            obtain ⟨x, hxm, rfl⟩ := List.mem_map.1 (HSP.out.mem_iff.1 hz)
            rw [← HLD.out]; exact hnone x hxm)]; rfl))
        subst hzj
        have HBz := Lib.hid HJ.out.b2
        have HAz := Lib.hid HJ.out.aw
        go_wp2_with (first
          | (refine wpList_buildz rfl rfl ?_)
          | (refine wpList_store28 rfl _ _ rfl g2 rfl zeroPk (.slice none 0 0) (.slice none 0 0) rfl zeroPk (.slice none 0 0) (.slice none 0 0) (by exact HBz.out) ⟨rfl, rfl⟩ ⟨rfl, rfl⟩ rfl rfl ?_; refine Hid.out ?_))
        refine Lib.hid ?_
        intro wz hbz haw
        have HBZ := Lib.hid hbz
        have HAZ : Hid (Away [] w wz) := HAz.out.next haw (fun x hx => .inr (by simp at hx; subst hx; exact HG2.out))
        clear hbz haw
        go_wp2_with fail
        exact bodyPost_ret (result28t rfl _ _ _ _ _ _ _ rfl rfl HBZ.out ⟨rfl, rfl⟩) rfl ⟨_, _, by rw [HD.out]; rfl, by rw [HD.out]; exact mine_zero _ _, HAZ.out⟩
      subst hzj
      have hx1m := List.mem_of_getElem? hx1
      obtain ⟨t1, hr1, hup1⟩ := HUP.out.next HOR.out HRNE.out (HMEM.out x1 hx1m) (by rw [← HLD.out]; exact hoff)
      have HUP1 := Lib.hid hup1
      have hpos := datas_pos (hr1 ▸ HUP.out) HOR.out (by rw [← HLD.out]; exact hoff) HEN.out h0e' (by rw [← HLD.out]; exact hlt)
      have hi1 : i1 < n := by have := lt_of_get hx1; rw [HL.out] at this; exact this
      obtain ⟨b1, o1, ha1, r1, k1⟩ := HX.out.at hx1
      obtain ⟨rfl, rfl⟩ : b0 = b1 ∧ o0 = o1 := by simp only [Option.some.injEq, Addr.mk.injEq, and_true] at ha1; exact ha1
      have HR1 : Hid (wy.rangeAt b0 (o0 + i1 * 46) (listP x1.p x1.o x1.d)) := range_away HJ.out.aw (by simp) r1
      have hx1o := rgt_off (HOR.out.r x1.p (HMEM.out x1 hx1m))
      obtain ⟨z, zo, zd⟩ := x1
      simp only at HR1 hx1o HUP1 hpos hup1 hr1
      obtain ⟨za, zc, hzd, -, -, zrow⟩ := k1.d
      simp only at hzd zrow
      have HZA := Lib.hid k1.wf.ad
      have HZROW : Hid (Row wy za z.d) := zrow.away HJ.out.aw (by simp)
      obtain ⟨zad, hza⟩ : ∃ ad, za = some ad := by
        rcases zrow.2.2 with h | ⟨b, o, h, _⟩
        · rw [h] at hpos; simp at hpos
        · exact ⟨_, h⟩
      subst hza
      have cz : wy.cell? ⟨b0, o0 + i1 * 46 + 45, none⟩ = some (.slice (some zad) z.d.length zc) := by
        have h1 := HR1.out 45 _ (listP_fld HZA.out zo zd).2.2
        rw [hzd] at h1; exact h1
      have HB0 : Hid (b0 < w.heap.size) := block_lt_of_cell (r1 45 _ (listP_fld HZA.out zo zd).2.2)
      obtain ⟨nz, hnz⟩ : ∃ k, k = z.d.length := ⟨_, rfl⟩
      have HNZ := Lib.hid hnz
      rw [← hnz] at cz hpos
      have p0 : 0 ≤ (i1 : Int) := by omega
      have p1 : (i1 : Int) < (n : Int) := by omega
      have p2 : ((i1 : Int)).toNat = i1 := by omega
      have p3 : ¬ ((i1 : Int) < 0) := by omega
      have ck : wy.drew.cell? ⟨g7, 45, none⟩ = some (.slice da L dc) ∧ wy.drew.cell? ⟨b0, o0 + i1 * 46 + 45, none⟩ = some (.slice (some zad) nz zc) := ⟨c45, cz⟩
      clear hx1 hx1m hoff hr1 hup1 ha1 r1 k1 hzd zrow HR1 hnz cz c45
      go_wp2_with fail
      refine wp_region_U [9] (fun w' => w'.cell? ⟨g7, 45, none⟩ = some (.slice da L dc) ∧ w'.cell? ⟨b0, o0 + i1 * 46 + 45, none⟩ = some (.slice (some zad) nz zc)) (by kernel_rfl) ?_
      refine wpAnyU_take (i := 0) (v := ?_) (by simp only [List.getElem?_toArray, List.getElem?_cons_zero]; rfl) (by kernel_rfl) (by kernel_rfl) (by kernel_rfl) (by decide) (by decide) (by unfold Un; kernel_rfl) (by exact fun _ _ _ h => h) (Or.inl ⟨by rfl, ?_⟩) (by exact ck) ?_
      rotate_left
      · intro wq hSw
        (try dsimp only at hSw)
        go_simp
        all_goals (with_reducible rfl)
      try simp only [Act.put, List.setIfInBounds_toArray, List.set_cons_zero, List.set_cons_succ]
      refine wpAnyU_take (i := 1) (by simp only [List.getElem?_toArray, List.getElem?_cons_succ, List.getElem?_cons_zero]; rfl) (by kernel_rfl) (by kernel_rfl) (by kernel_rfl) (by decide) (by decide) (by unfold Un; kernel_rfl) (by exact fun _ _ _ h => h) (yields_ld (ad := ⟨g7, 45, none⟩) (by rfl) _ rfl rfl (fun w' h => S6.ld26 h.1)) (by exact ck) ?_
      try simp only [Act.put, List.setIfInBounds_toArray, List.set_cons_zero, List.set_cons_succ]
      refine wpAnyU_take (i := 2) (v := ?_) (by simp only [List.getElem?_toArray, List.getElem?_cons_succ, List.getElem?_cons_zero]; rfl) (by kernel_rfl) (by kernel_rfl) (by kernel_rfl) (by decide) (by decide) (by unfold Un; kernel_rfl) (by exact fun _ _ _ h => h) (Or.inl ⟨by rfl, ?_⟩) (by exact ck) ?_
      rotate_left
      · intro wq hSw
        (try dsimp only at hSw)
        go_simp
        all_goals (with_reducible rfl)
      try simp only [Act.put, List.setIfInBounds_toArray, List.set_cons_zero, List.set_cons_succ]
      refine wpAnyU_take (i := 3) (v := ?_) (by simp only [List.getElem?_toArray, List.getElem?_cons_succ, List.getElem?_cons_zero]; rfl) (by kernel_rfl) (by kernel_rfl) (by kernel_rfl) (by decide) (by decide) (by unfold Un; kernel_rfl) (by exact fun _ _ _ h => h) (Or.inl ⟨by rfl, ?_⟩) (by exact ck) ?_
      rotate_left
      · intro wq hSw
        (try dsimp only at hSw)
        go_simp
        all_goals (with_reducible rfl)
      try simp only [Act.put, List.setIfInBounds_toArray, List.set_cons_zero, List.set_cons_succ]
      refine wpAnyU_take (i := 4) (by simp only [List.getElem?_toArray, List.getElem?_cons_succ, List.getElem?_cons_zero]; rfl) (by kernel_rfl) (by kernel_rfl) (by kernel_rfl) (by decide) (by decide) (by unfold Un; kernel_rfl) (by exact fun _ _ _ h => h) (yields_ix (by rfl) _ _ rfl rfl rfl rfl hi1) (by exact ck) ?_
      try simp only [Act.put, List.setIfInBounds_toArray, List.set_cons_zero, List.set_cons_succ]
      refine wpAnyU_take (i := 5) (v := ?_) (by simp only [List.getElem?_toArray, List.getElem?_cons_succ, List.getElem?_cons_zero]; rfl) (by kernel_rfl) (by kernel_rfl) (by kernel_rfl) (by decide) (by decide) (by unfold Un; kernel_rfl) (by exact fun _ _ _ h => h) (Or.inl ⟨by rfl, ?_⟩) (by exact ck) ?_
      rotate_left
      · intro wq hSw
        (try dsimp only at hSw)
        go_simp
        all_goals (with_reducible rfl)
      try simp only [Act.put, List.setIfInBounds_toArray, List.set_cons_zero, List.set_cons_succ]
      refine wpAnyU_take (i := 6) (by simp only [List.getElem?_toArray, List.getElem?_cons_succ, List.getElem?_cons_zero]; rfl) (by kernel_rfl) (by kernel_rfl) (by kernel_rfl) (by decide) (by decide) (by unfold Un; kernel_rfl) (by exact fun _ _ _ h => h) (yields_ld (ad := ⟨b0, o0 + i1 * 46 + 45, none⟩) (by rfl) _ rfl rfl (fun w' h => S6.ld26 h.2)) (by exact ck) ?_
      try simp only [Act.put, List.setIfInBounds_toArray, List.set_cons_zero, List.set_cons_succ]
      refine wpAnyU_ready (rs := [7]) (by kernel_rfl) (by simp) ?_
      refine ReadyU.cons (by simp only [List.getElem?_toArray, List.getElem?_cons_succ, List.getElem?_cons_zero]; rfl) (fun K hK => ?_) ReadyU.nil
      refine step_app rfl _ _ rfl _ (datas pre) z.d rfl (by exact HJ.out.m.d) zad nz zc rfl HNZ.out.symm (by exact HZROW.out.src) (by rw [← HLD.out]; have := HNZ.out; omega) ?_
      intro v2 y2 hown hgr hmv
      replace hgr : wy.drew.grownBy y2 (Value.slice da L dc).ownBlock := hgr
      replace hmv : Moved wy.drew (Value.slice da L dc) v2 := hmv
      obtain ⟨q1, q2, q3, q4, q5, q6, q7⟩ := JV.grow (HJ.out.on ((Away.refl [] wy).drew)) hown hgr hmv (fun k hk => HJ.out.m.nd k hk)
      have Q1 := Lib.hid q1; have Q2 := Lib.hid q2; have Q3 := Lib.hid q3; have Q4 := Lib.hid q4; have Q5 := Lib.hid q5; have Q6 := Lib.hid q6; have Q7 := Lib.hid q7
      have HOW := Lib.hid hown
      obtain ⟨va, vn, vc, rfl⟩ := hown.shp
      have ck2 : y2.cell? ⟨g7, 45, none⟩ = some (.slice da L dc) ∧ y2.cell? ⟨b0, o0 + i1 * 46 + 45, none⟩ = some (.slice (some zad) nz zc) := ⟨(q2.cells HADQ.out).d, by
        refine (World.cell?_of_block (w := wy.drew) (a := ⟨b0, o0 + i1 * 46 + 45, none⟩) (hgr.block b0 (block_lt_of_cell ck.2) (fun e => ?_))).trans ck.2
        have h1 := HJ.out.m.nd b0 e.symm
        have h2 := HB0.out
        omega⟩
      clear q1 q2 q3 q4 q5 q6 q7 hown hgr hmv ck
      refine hK.out _ _ (fun _ => ck2) ?_
      clear hK K
      try simp only [Act.put, List.setIfInBounds_toArray, List.set_cons_zero, List.set_cons_succ]
      refine wpAnyU_take (i := 8) (v := ?_) (by simp only [List.getElem?_toArray, List.getElem?_cons_succ, List.getElem?_cons_zero]; rfl) (by kernel_rfl) (by kernel_rfl) (by kernel_rfl) (by decide) (by decide) (by unfold Un; kernel_rfl) (by exact fun _ _ _ h => h) (Or.inl ⟨by rfl, ?_⟩) (by exact ck2) ?_
      rotate_left
      · intro wq hSw
        (try dsimp only at hSw)
        go_simp
        all_goals (with_reducible rfl)
      try simp only [Act.put, List.setIfInBounds_toArray, List.set_cons_zero, List.set_cons_succ]
      refine wpAnyU_ready (rs := [9]) (by kernel_rfl) (by simp) ?_
      refine ReadyU.cons (by simp only [List.getElem?_toArray, List.getElem?_cons_succ, List.getElem?_cons_zero]; rfl) (fun K hK => ?_) ReadyU.nil
      refine step_store26 rfl 60 59 rfl g7 45 rfl va vn vc rfl _ (by exact (Q2.out.cells HADQ.out).d) (by exact Q2.out.free 45) ?_
      refine hK.out _ _ (by intro h; simp [Un] at h) ?_
      clear hK K ck2
      try simp only [Act.put]
      refine wpAnyU_done (by kernel_rfl) ?_ _
      have hA9 := away_put (w := y2) (g := g7) 45 (.slice va vn vc)
      have HB9 := Lib.hid (Q2.out.put 45 (.slice va vn vc) ((csP_set (p := { q with more := false, d := datas pre }) HADQ.out _ _).2.2.2.2.2.2.2.2.2.2.2.2.2 (datas pre ++ z.d) (.slice va vn vc)))
      have HDS : Hid (datas (pre ++ [z]) = datas pre ++ z.d) := datas_snoc pre z
      have HJ9 : Hid (JV w (y2.setCell ⟨g7, 45, none⟩ (.slice va vn vc)) g2 g7 { q with more := false, d := datas (pre ++ [z]) } (.slice voa von voc) (.slice va vn vc)) := by
        show JV _ _ _ _ _ _ _
        rw [HDS.out]
        refine ⟨Q1.out.away hA9 (by simp; exact HNE.out.1), HB9.out, ⟨Q3.out.away hA9 (fun k hk => by simp; exact (HJ.out.no k (.inl hk)).2), HOW.out.away hA9 (fun k hk => by simp; exact (Q6.out k hk).2), HJ.out.m.no, Q4.out, Q5.out⟩, HJ.out.ne, fun k hk => ?_, Q7.out.next hA9 (fun x hx => .inr (by simp at hx; subst hx; exact HNE.out.2.2))⟩
        rcases hk with hk | hk
        · exact HJ.out.no k (.inl hk)
        · exact Q6.out k hk
      clear hA9 HB9 Q1 Q2 Q3 Q4 Q5 Q6 Q7 HOW HJ
      generalize y2.setCell ⟨g7, 45, none⟩ (.slice va vn vc) = y3 at *
      have hdl3 : R.dlen y3 g7 = L + nz := by
        have h1 := HJ9.out.m.d.shape
        obtain ⟨a', c', h2⟩ := h1
        have h3 := HJ9.out.dlen HADQ.out
        simp only [Value.slice.injEq] at h2
        rw [h3, h2.2.1]
        show (datas (pre ++ [z])).length = L + nz
        rw [HDS.out, List.length_append, HLD.out, HNZ.out]
      go_wp2_with fail
      go_roundw
      case rel => exact ⟨pre ++ [z], t1, t ++ [z], _, HUP1.out, by rw [HPRE.out]; rfl, HJ9.out⟩
      case measure =>
        have h1 := HDL.out
        rw [hdl3, h1]
        omega
    · have hr0 : r = [] := by
        by_cases h : r = []
        · exact h
        · exact absurd ((HUP.out.rest HOR.out HEN.out h0e').2 h) (by rw [← HLD.out]; exact hlt)
      subst hr0
      have hsp : s = pre := by have := HUP.out.eq; rwa [List.append_nil] at this
      have HST : Hid (s = q :: t) := hsp.trans HPRE.out
      have HJS : Hid (DJoin (xs.map X.p) s = if rgtP (joinD s) = true then (joinD s, 0) else (zeroPk, 1)) := by
        show _ = _; rw [HDJ.out]; exact join_done HOR.out HUP.out HEN.out h0e'
      have HJD : Hid (joinD s = { q with more := false, d := datas pre, frag := if q.v = 6 then false else q.frag, id := if q.v = 6 then 0 else q.id }) := by
        show _ = _
        have : datas pre = datas (q :: t) := by rw [HPRE.out]
        rw [HST.out, this]; rfl
      have HJW : Hid (Wf (joinD s)) := join_wf (by rw [HST.out]; simp) HWS.out (by rw [hsp, ← HLD.out]; omega)
      have c0 := (HJ.out.b7.cells HADQ.out).v
      clear hsp
      by_cases h6 : q.v = 6
      · have HJX : Hid (joinD s = { q with more := false, d := datas pre, frag := false, id := 0 }) := by
          show _ = _; rw [HJD.out, if_pos h6, if_pos h6]
        rw [show ({ q with more := false, d := datas pre } : Pk).v = 6 from h6] at c0
        clear h6 HJD
        go_wp2_with (refine wpList_putF rfl 4 _ _ rfl g7 42 rfl (.bool false) rfl (fun u h1 h2 => put4 _ _ _ u h1 h2) ({ q with more := false, d := datas pre }) ({ q with more := false, d := datas pre, frag := false }) _ _ _ _ (by exact HJ.out.b7) HADQ.out (by omega) (by exact (csP_set (p := { q with more := false, d := datas pre }) HADQ.out _ _).2.2.2.2.2.2.2.2.2.2.1 _) ?_; refine Hid.out ?_)
        refine Lib.hid ?_
        intro w18 hb7 haw
        have HJ1 : Hid (JV w w18 g2 g7 ({ q with more := false, d := datas pre, frag := false }) (.slice voa von voc) (.slice da L dc)) := HJ.out.put hb7 haw rfl rfl
        clear hb7 haw HJ c0
        go_wp2_with (refine wpList_putF rfl 26 _ _ rfl g7 39 rfl (.int .u32 0) rfl (fun u h1 h2 => put25 _ _ _ u h1 h2) ({ q with more := false, d := datas pre, frag := false }) ({ q with more := false, d := datas pre, frag := false, id := 0 }) _ _ _ _ (by exact HJ1.out.b7) HADQ.out (by omega) (by exact (csP_set (p := { q with more := false, d := datas pre, frag := false }) HADQ.out _ _).2.2.2.2.2.2.2.1 _) ?_; refine Hid.out ?_)
        refine Lib.hid ?_
        intro w19 hb7 haw
        have HJE : Hid (JV w w19 g2 g7 ({ q with more := false, d := datas pre, frag := false, id := 0 }) (.slice voa von voc) (.slice da L dc)) := HJ1.out.put hb7 haw rfl rfl
        clear hb7 haw HJ1
        have KR := Lib.hid (dright_c (joinD s) (.slice voa von voc) (.slice da L dc) w19 (by have := HJE.out.m.pkt (by rw [← HJX.out]; exact HJW.out); rw [← HJX.out] at this; exact this))
        rw [HJX.out] at KR HJS
        obtain ⟨br, hbr⟩ : ∃ b, b = rgtP ({ q with more := false, d := datas pre, frag := false, id := 0 }) := ⟨_, rfl⟩
        rw [← hbr] at KR HJS
        clear hbr
        go_wp2_with (first
          | (refine wpList_load28 rfl _ rfl g7 rfl ({ q with more := false, d := datas pre, frag := false, id := 0 }) _ _ (by exact HJE.out.b7) HADQ.out ?_)
          | (go_at_call 22; refine KR.out.mono ?_; refine Hid.out ?_))
        refine Lib.hid ?_
        first
          | rintro E w20 rfl haw
          | rintro E w20 ⟨rfl, haw⟩
        replace HJE := Lib.hid (HJE.out.on haw)
        clear haw KR
        cases br
        · have HD : Hid (DJoin (xs.map X.p) s = (zeroPk, 1)) := by show _ = _; rw [HJS.out, if_neg (by simp)]
          have HBz := Lib.hid HJE.out.b2
          have HAz := Lib.hid HJE.out.aw
          go_wp2_with (first
            | (refine wpList_buildz rfl rfl ?_)
            | (refine wpList_store28 rfl _ _ rfl g2 rfl zeroPk (.slice none 0 0) (.slice none 0 0) rfl zeroPk (.slice none 0 0) (.slice none 0 0) (by exact HBz.out) ⟨rfl, rfl⟩ ⟨rfl, rfl⟩ rfl rfl ?_; refine Hid.out ?_))
          refine Lib.hid ?_
          intro wz hbz haw
          have HBZ := Lib.hid hbz
          have HAZ : Hid (Away [] w wz) := HAz.out.next haw (fun x hx => .inr (by simp at hx; subst hx; exact HG2.out))
          clear hbz haw
          go_wp2_with fail
          exact bodyPost_ret (result28t rfl _ _ _ _ _ _ _ rfl rfl HBZ.out ⟨rfl, rfl⟩) rfl ⟨_, _, by rw [HD.out]; rfl, by rw [HD.out]; exact mine_zero _ _, HAZ.out⟩
        · have HD : Hid (DJoin (xs.map X.p) s = ({ q with more := false, d := datas pre, frag := false, id := 0 }, 0)) := by show _ = _; rw [HJS.out, if_pos rfl]
          go_wp2_with (first
            | (refine wpList_load28 rfl _ rfl g7 rfl ({ q with more := false, d := datas pre, frag := false, id := 0 }) _ _ (by exact HJE.out.b7) HADQ.out ?_)
            | (refine wpList_store28 rfl _ _ rfl g2 rfl ({ q with more := false, d := datas pre, frag := false, id := 0 }) (.slice voa von voc) (.slice da L dc) rfl zeroPk (.slice none 0 0) (.slice none 0 0) (by exact HJE.out.b2) HADQ.out ⟨rfl, rfl⟩ rfl rfl ?_; refine Hid.out ?_))
          refine Lib.hid ?_
          intro wz hbz haw
          have HBZ := Lib.hid hbz
          have HMZ := Lib.hid (HJE.out.m.away haw (fun k hk => by simp; exact (HJE.out.no k hk).1))
          have HAZ : Hid (Away [] w wz) := HJE.out.aw.next haw (fun x hx => .inr (by simp at hx; subst hx; exact HG2.out))
          clear hbz haw
          go_wp2_with fail
          exact bodyPost_ret (result28t rfl _ _ _ _ _ _ _ rfl rfl HBZ.out HADQ.out) rfl ⟨_, _, by rw [HD.out]; rfl, by rw [HD.out]; exact HMZ.out, HAZ.out⟩
      · have HJX : Hid (joinD s = { q with more := false, d := datas pre }) := by
          show _ = _; rw [HJD.out, if_neg h6, if_neg h6]
        have e6 : (({ q with more := false, d := datas pre } : Pk).v == 6) = false := by show (q.v == 6) = false; simpa using h6
        have e6b : (q.v == 6) = false := by simpa using h6
        have HJE := HJ
        clear HJ HJD
        have KR := Lib.hid (dright_c (joinD s) (.slice voa von voc) (.slice da L dc) wr (by have := HJE.out.m.pkt (by rw [← HJX.out]; exact HJW.out); rw [← HJX.out] at this; exact this))
        rw [HJX.out] at KR HJS
        obtain ⟨br, hbr⟩ : ∃ b, b = rgtP ({ q with more := false, d := datas pre }) := ⟨_, rfl⟩
        rw [← hbr] at KR HJS
        clear hbr
        go_wp2_with (first
          | (refine wpList_load28 rfl _ rfl g7 rfl ({ q with more := false, d := datas pre }) _ _ (by exact HJE.out.b7) HADQ.out ?_)
          | (go_at_call 22; refine KR.out.mono ?_; refine Hid.out ?_))
        refine Lib.hid ?_
        first
          | rintro E w20 rfl haw
          | rintro E w20 ⟨rfl, haw⟩
        replace HJE := Lib.hid (HJE.out.on haw)
        clear haw KR
        cases br
        · have HD : Hid (DJoin (xs.map X.p) s = (zeroPk, 1)) := by show _ = _; rw [HJS.out, if_neg (by simp)]
          have HBz := Lib.hid HJE.out.b2
          have HAz := Lib.hid HJE.out.aw
          go_wp2_with (first
            | (refine wpList_buildz rfl rfl ?_)
            | (refine wpList_store28 rfl _ _ rfl g2 rfl zeroPk (.slice none 0 0) (.slice none 0 0) rfl zeroPk (.slice none 0 0) (.slice none 0 0) (by exact HBz.out) ⟨rfl, rfl⟩ ⟨rfl, rfl⟩ rfl rfl ?_; refine Hid.out ?_))
          refine Lib.hid ?_
          intro wz hbz haw
          have HBZ := Lib.hid hbz
          have HAZ : Hid (Away [] w wz) := HAz.out.next haw (fun x hx => .inr (by simp at hx; subst hx; exact HG2.out))
          clear hbz haw
          go_wp2_with fail
          exact bodyPost_ret (result28t rfl _ _ _ _ _ _ _ rfl rfl HBZ.out ⟨rfl, rfl⟩) rfl ⟨_, _, by rw [HD.out]; rfl, by rw [HD.out]; exact mine_zero _ _, HAZ.out⟩
        · have HD : Hid (DJoin (xs.map X.p) s = ({ q with more := false, d := datas pre }, 0)) := by show _ = _; rw [HJS.out, if_pos rfl]
          go_wp2_with (first
            | (refine wpList_load28 rfl _ rfl g7 rfl ({ q with more := false, d := datas pre }) _ _ (by exact HJE.out.b7) HADQ.out ?_)
            | (refine wpList_store28 rfl _ _ rfl g2 rfl ({ q with more := false, d := datas pre }) (.slice voa von voc) (.slice da L dc) rfl zeroPk (.slice none 0 0) (.slice none 0 0) (by exact HJE.out.b2) HADQ.out ⟨rfl, rfl⟩ rfl rfl ?_; refine Hid.out ?_))
          refine Lib.hid ?_
          intro wz hbz haw
          have HBZ := Lib.hid hbz
          have HMZ := Lib.hid (HJE.out.m.away haw (fun k hk => by simp; exact (HJE.out.no k hk).1))
          have HAZ : Hid (Away [] w wz) := HJE.out.aw.next haw (fun x hx => .inr (by simp at hx; subst hx; exact HG2.out))
          clear hbz haw
          go_wp2_with fail
          exact bodyPost_ret (result28t rfl _ _ _ _ _ _ _ rfl rfl HBZ.out HADQ.out) rfl ⟨_, _, by rw [HD.out]; rfl, by rw [HD.out]; exact HMZ.out, HAZ.out⟩
end R
#print axioms R.djoin_c
end Go.Proofs.YtaicckenpplceaaGreatDoor
