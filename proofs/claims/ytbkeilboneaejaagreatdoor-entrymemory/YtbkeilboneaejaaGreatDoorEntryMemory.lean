/-
  EntryMemory.
-/
import Derived.Test.YtbkeilboneaejaaGreatDoorMmp
import Derived.Test.YtbkeilboneaejaaGreatDoorLenA
import Derived.Test.YtbkeilboneaejaaGreatDoorKitA
import Derived.Test.YtbkeilboneaejaaGreatDoorMndA
import Derived.Deep.CutBlock
import Derived.Deep.DeepCutAuto
import Derived.BigQuiet
import Derived.BigRegion
namespace Go.Proofs.YtbkeilboneaejaaGreatDoor
open Go.ChangeShapes Go.WideShapes Go.ChangeAt Go.RowKit Go.Deep Num
open S6 (wp_region_cls quiet_val quiet_call quiet_ld ld3 ld4 ld5 ld25 ld26 load28_run load24m_run)
set_option linter.unusedVariables false
set_option linter.unusedSimpArgs false
set_option maxHeartbeats 8000000
set_option maxRecDepth 100000

theorem Still.on {w w' : World} {v : Value} {l : List Tk} (h : Still w v l) (hw : Away [] w w') : Still w' v l := by
  refine ⟨?_, h.2.1, fun t ht => ⟨(h.2.2 t ht).1.away hw (by simp), (h.2.2 t ht).2.away hw (by simp)⟩⟩
  obtain ⟨h1, h2⟩ := h.1
  refine ⟨h1, ?_⟩
  rcases h2 with h2 | ⟨g, cap, cur, rfl, hg, hh, r⟩
  · exact .inl h2
  · exact .inr ⟨g, cap, cur, rfl, hg, hw.keep (by simp) hh, r⟩
namespace R
theorem listP_fld {p : Pk} (h : Ad p) (ov dv : Value) : (listP p ov dv)[41]? = some (.bool p.more) ∧ (listP p ov dv)[43]? = some (.int .i64 p.off) ∧ (listP p ov dv)[45]? = some dv := by
  obtain ⟨v, tos, flow, sv, sb, dv', db, proto, ttl, id, df, more, frag, off, o, d⟩ := p
  obtain ⟨h1, h2⟩ := h
  simp only at h1 h2
  obtain ⟨b0, b1, b2, b3, b4, b5, b6, b7, b8, b9, b10, b11, b12, b13, b14, b15, rfl⟩ := list16 h1
  obtain ⟨c0, c1, c2, c3, c4, c5, c6, c7, c8, c9, c10, c11, c12, c13, c14, c15, rfl⟩ := list16 h2
  exact ⟨rfl, rfl, rfl⟩
theorem moreL_len (r : Int) : ∀ l : List Pk, (moreL r l).length ≤ l.length * 70000
  | [] => by simp [moreL]
  | x :: t => by
    have ih := moreL_len r t
    have h1 : (recE r x).length ≤ 70000 := by unfold recE; split; exact recut_len _ _; simp
    have e : moreL r (x :: t) = recE r x ++ moreL r t := rfl
    rw [e, List.length_append, List.length_cons]; omega
theorem pcsE_len {q : Pk} (hu : Unc q) (n s : Int) : (pcsE q n s).length ≤ 4900070000 := by
  unfold pcsE
  split
  · have h := cut_len hu (lowP q + n) 9
    rw [List.length_append]
    split
    · have h2 := moreL_len (68 + s) (cutP q (lowP q + n) 9).1
      omega
    · simp; omega
  · simp
def p200 : Pk := { zeroPk with v := 4, d := List.replicate 200 0 }
theorem p200_wf : Wf p200 := ⟨by simp [p200, i64ok], zero_wf.tos, zero_wf.flow, zero_wf.sv, zero_wf.sl, zero_wf.sb, zero_wf.dv, zero_wf.dl, zero_wf.db, zero_wf.proto, zero_wf.ttl, zero_wf.id0, zero_wf.id1, zero_wf.off, zero_wf.o, zero_wf.ol, by unfold p200; intro b hb; simp at hb; omega, by simp [p200]⟩
theorem build200 (g : Nat) (w : World) : (Instr.build 28 #[(0, .int .i64 4), (13, .slice (some ⟨g, 0, none⟩) 200 200)]).run Tryz.prog w = .ok (.agg (csP p200 (.slice none 0 0) (.slice (some ⟨g, 0, none⟩) 200 200))) w := by kernel_rfl
theorem info5m : (Tryz.prog.info? 5).map (fun i => (i.zero, i.size, i.bytes)) = some (some (.int .u8 0), 1, 1) := by kernel_rfl
def made200 : Obj := .cells (madeCells (Value.int .u8 0).cells 200) 5
theorem make_200 (wx : World) : (Instr.makeSlice 26 (.int .i64 200) (.int .i64 200)).run Tryz.prog wx = .ok (.slice (some ⟨wx.heap.size, 0, none⟩) 200 200) (wx.alloc made200) := by
  obtain ⟨i0, hi, hz0, hz1, hz2⟩ := info_parts info5m
  have := run_make (P := Tryz.prog) wx 26 5 i0 _ Tryz.underlying26 hi hz0 .i64 .i64 200 200 (by omega) (by omega) (by rw [hz2]; omega) (by omega)
  rw [hz1] at this
  unfold made200
  simpa using this
theorem made200_owns (w : World) : Owns (w.alloc made200) (.slice (some ⟨w.heap.size, 0, none⟩) 200 200) (List.replicate 200 0) := by
  have h := World.ownsRow_lit (base := 0) (e := 5) (size := 1) w (madeCells (Value.int .u8 0).cells 200) 200 (Nat.zero_le _) (by decide) (by kernel_rfl)
  have e : (madeCells (Value.int .u8 0).cells 200).toList = (List.replicate 200 (0 : Int)).map (Value.int .u8) := by kernel_rfl
  rw [e] at h
  exact h
theorem wpList_make200 {ops : Array Oper} {rest : List Oper} {o : Oper} {a : Act} {w : World} {Q : Exit → Act → World → Prop} (hw : Region.wanted o (yielded ops a.tmps) = true) (x y : Operand) (ho : o.op = .makeSlice 26 x y) (hx : a.eval x = .int .i64 200) (hy : a.eval y = .int .i64 200)
    (h : ∀ g w1, w.heap.size ≤ g → Owns w1 (.slice (some ⟨g, 0, none⟩) 200 200) (List.replicate 200 0) → Away [] w w1 → wpList Tryz.prog ops Q rest (a.put o.dst (.slice (some ⟨g, 0, none⟩) 200 200)) w1) : wpList Tryz.prog ops Q (o :: rest) a w :=
  BigFrame.wpList_want hw fun K hK => by
    unfold Oper.wp execOp
    simp only [ho, hx, hy, make_200 w, Sem.run_bind, Result.andThen_ok, Sem.run_pure]
    exact hK _ _ (h _ _ (Nat.le_refl _) (made200_owns w) ((Away.refl _ _).alloc _))
theorem run_build8 (a0 a1 a2 a3 a4 a5 a6 a7 : Option Addr) (n0 n1 n2 n3 n4 n5 n6 n7 c0 c1 c2 c3 c4 c5 c6 c7 : Nat) (w : World) :
    (Instr.buildSlice 53 8 #[(0, .slice a0 n0 c0), (1, .slice a1 n1 c1), (2, .slice a2 n2 c2), (3, .slice a3 n3 c3), (4, .slice a4 n4 c4), (5, .slice a5 n5 c5), (6, .slice a6 n6 c6), (7, .slice a7 n7 c7)]).run Tryz.prog w = .ok (.slice (some ⟨w.heap.size, 0, none⟩) 8 8) (w.alloc (.cells #[.slice a0 n0 c0, .slice a1 n1 c1, .slice a2 n2 c2, .slice a3 n3 c3, .slice a4 n4 c4, .slice a5 n5 c5, .slice a6 n6 c6, .slice a7 n7 c7] 26)) := by kernel_rfl
theorem wpList_build8 {ops : Array Oper} {rest : List Oper} {o : Oper} {a : Act} {w : World} {Q : Exit → Act → World → Prop} (hw : Region.wanted o (yielded ops a.tmps) = true) (x0 x1 x2 x3 x4 x5 x6 x7 : Operand) (ho : o.op = .buildSlice 53 8 #[(0, x0), (1, x1), (2, x2), (3, x3), (4, x4), (5, x5), (6, x6), (7, x7)])
    (a0 a1 a2 a3 a4 a5 a6 a7 : Option Addr) (n0 n1 n2 n3 n4 n5 n6 n7 c0 c1 c2 c3 c4 c5 c6 c7 : Nat) (h0 : a.eval x0 = .slice a0 n0 c0) (h1 : a.eval x1 = .slice a1 n1 c1) (h2 : a.eval x2 = .slice a2 n2 c2) (h3 : a.eval x3 = .slice a3 n3 c3) (h4 : a.eval x4 = .slice a4 n4 c4) (h5 : a.eval x5 = .slice a5 n5 c5) (h6 : a.eval x6 = .slice a6 n6 c6) (h7 : a.eval x7 = .slice a7 n7 c7)
    (h : wpList Tryz.prog ops Q rest (a.put o.dst (.slice (some ⟨w.heap.size, 0, none⟩) 8 8)) (w.alloc (.cells #[.slice a0 n0 c0, .slice a1 n1 c1, .slice a2 n2 c2, .slice a3 n3 c3, .slice a4 n4 c4, .slice a5 n5 c5, .slice a6 n6 c6, .slice a7 n7 c7] 26))) : wpList Tryz.prog ops Q (o :: rest) a w :=
  BigFrame.wpList_want hw fun K hK => by
    unfold Oper.wp execOp
    simp only [ho, List.map_toArray, List.map_cons, List.map_nil, h0, h1, h2, h3, h4, h5, h6, h7, run_build8, Sem.run_bind, Result.andThen_ok, Sem.run_pure]
    exact hK _ _ h
/-- Behind the first 'if'. -/
structure Sm (w wx : World) (g9 : Nat) (v : Value) (q : Pk) (qo qd : Value) (xs : List X) (x : Pk) (pre c m : List Pk) (z : Pk) : Prop where
  bx : BoxP wx g9 q qo qd
  mi : Mine wx w.heap.size q qo qd
  cu : ∃ B, Cuts wx B v xs
  gd : Gd q x pre c m z (xs.map X.p)
  aw : Away [] w wx
  ln : xs.length ≤ 4900070000
theorem Gd.small {q x z : Pk} {pre c m L : List Pk} (h : Gd q x pre c m z L) : ∀ y ∈ L, y.o.length ≤ 40 ∧ y.d.length ≤ 3000 := by
  intro y hy
  rw [h.eq] at hy
  rcases List.mem_append.1 hy with h1 | h1
  · rcases h.pr with e | e
    · rw [e] at h1; simp at h1
    · rw [e] at h1
      simp at h1
      subst h1
      exact ⟨by rw [h.jc.oe]; simp, h.jc.dl⟩
  · have hf : Frg x y := by
      rcases List.mem_append.1 h1 with h2 | h2
      · exact h.jc.cr.frg h.jc.off.1 h2
      · rcases h.jc.mR with e | hm
        · rw [e] at h2; simp at h2
        · exact hm.frg h.jc.off.1 h2
    have h3 := hf.en
    have h4 := hf.o0
    have h5 := h.jc.dl
    rw [h.jc.off.2.2.1] at h3
    exact ⟨opt_of (rgt_two hf.kin.r), by omega⟩
end R
namespace entryMemory
open R
theorem walk (p : Pk) (ov dv : Value) (number : Int) (w : World) (hg : Glob w) (hp : Pkt w p ov dv) (hpl1 : p.o.length ≤ 140737488351232) (hpl2 : p.d.length ≤ 140737488351232) (hmo0 : (Lit.int .i64 number).wf = true) :
    Calls Tryz.prog 4 #[.agg (csP p ov dv), .int .i64 number] w fun E w' => E = .returned (.bool true) ∧ Below w.heap.size w w' := by
  have HAD := Lib.hid hp.wf.ad
  have HP := Lib.hid hp; have HG := Lib.hid hg
  clear hp hg hpl1 hpl2 hmo0
  go_enter Tryz.func4, Tryz.ntmps4
  go_wp2_with (refine wpList_box28 rfl _ rfl p _ _ rfl ?_; refine Hid.out ?_)
  refine Lib.hid ?_
  intro g4 w1 hg4 hb haw
  have HA := Lib.hid haw
  have HB4 := Lib.hid hb
  clear hb haw hg4
  have K1 := Lib.hid (alive_c w1 (HG.out.on HA.out))
  go_wp2_with (go_at_call 6; refine K1.out.mono ?_; refine Hid.out ?_)
  refine Lib.hid ?_
  first
    | rintro E w2 rfl haw
    | rintro E w2 ⟨rfl, haw⟩
  replace HA := Lib.hid (HA.out.trans haw)
  replace HB4 := Lib.hid (HB4.out.on haw)
  clear haw K1
  have K2 := Lib.hid (mended_c p ov dv w2 (HP.out.on HA.out))
  unfold MendE at K2
  go_wp2_with (first
    | (refine wpList_load28 rfl _ rfl g4 rfl p _ _ (by exact HB4.out) HAD.out ?_)
    | (go_at_call 7; refine K2.out.mono ?_; refine Hid.out ?_))
  refine Lib.hid ?_
  first
    | rintro E w3 q qo qd rfl hu hwf hv hq hmi haw
    | rintro E w3 ⟨q, qo, qd, rfl, hu, hwf, hv, hq, hmi, haw⟩
  obtain ⟨hqo, hdf, hq3⟩ := hq
  obtain ⟨qoa, qon, qoc, rfl⟩ := hmi.o.shp
  obtain ⟨qda, qdn, qdc, rfl⟩ := hmi.d.shp
  have HU := Lib.hid hu; have HW := Lib.hid hwf; have HV := Lib.hid hv; have HDF := Lib.hid hdf
  have HQA := Lib.hid hwf.ad
  have HMI := Lib.hid hmi
  have HWS : Hid (w.heap.size ≤ w2.heap.size) := HA.out.size
  have HLT := Lib.hid hmi.lto
  replace HA := Lib.hid (HA.out.trans haw)
  have HQO := Lib.hid hqo
  have HQ3 := Lib.hid hq3
  clear hu hwf hv hqo hdf hq3 hmi haw K2 HB4
  go_wp2_with (refine wpList_alloc28 rfl rfl ?_; refine Hid.out ?_)
  refine Lib.hid ?_
  intro g9 w4 hg9 hb haw
  have HB9 := Lib.hid hb
  have HG9 : Hid (w.heap.size ≤ g9) := Nat.le_trans HA.out.size hg9
  have HN9 : Hid (∀ k, (Value.slice qoa qon qoc).ownBlock = some k ∨ (Value.slice qda qdn qdc).ownBlock = some k → k ≠ g9) := fun k hk e => by have := (HLT.out k hk).1; omega
  replace HMI := Lib.hid (HMI.out.on haw)
  replace HA := Lib.hid (HA.out.trans haw)
  clear hb haw hg9 HLT
  go_wp2_with (refine wpList_store28 rfl _ _ rfl g9 rfl q (.slice qoa qon qoc) (.slice qda qdn qdc) rfl zeroPk (.slice none 0 0) (.slice none 0 0) (by exact HB9.out) HQA.out ⟨rfl, rfl⟩ rfl rfl ?_; refine Hid.out ?_)
  refine Lib.hid ?_
  intro w5 hb haw
  replace HB9 := Lib.hid hb
  replace HMI := Lib.hid (HMI.out.away haw (fun k hk => by simp; exact HN9.out k hk))
  replace HA := Lib.hid (HA.out.next haw (fun x hx => .inr (by simp at hx; subst hx; exact HG9.out)))
  have HPQ := Lib.hid (HMI.out.pkt HW.out)
  clear hb haw HN9
  have K3 := Lib.hid (pieces_e q (.slice qoa qon qoc) (.slice qda qdn qdc) number 0 w5 HPQ.out HU.out (HG.out.on HA.out))
  have hbn := andN number 1023 (by omega) (by omega); have hbs := andN 0 255 (by omega) (by omega)
  generalize bits .and .i64 number 1023 = N9 at K3 hbn
  generalize bits .and .i64 0 255 = S9 at K3 hbs
  have hgd := gd_or HU.out HW.out HV.out HQO.out HQ3.out HDF.out hbn hbs
  have hpl := pcsE_len HU.out N9 S9
  obtain ⟨L, hL⟩ : ∃ L, L = pcsE q N9 S9 := ⟨_, rfl⟩
  rw [← hL] at K3 hgd hpl
  clear hL
  go_wp2_with (first
    | (refine wpList_load28 rfl _ rfl g9 rfl q _ _ (by exact HB9.out) HQA.out ?_)
    | (go_at_call 8; refine K3.out.mono ?_; refine Hid.out ?_))
  refine Lib.hid ?_
  first
    | rintro E w6 v xs rfl hcu hxs haw
    | rintro E w6 ⟨v, xs, rfl, hcu, hxs, haw⟩
  have hlen : xs.length ≤ 4900070000 := by rw [← List.length_map (f := X.p), hxs]; exact hpl
  obtain ⟨va, vc, hv, -, -, hpk, -⟩ := hcu.pks (by omega)
  obtain ⟨n, hn⟩ : ∃ n, n = xs.length := ⟨_, rfl⟩
  have hnL : L.length = n := by rw [← hxs, List.length_map, hn]
  rw [← hn] at hv hlen
  subst hv
  have HN := Lib.hid hn
  have HCU := Lib.hid hcu; have HXS := Lib.hid hxs; have HPK := Lib.hid hpk
  replace HA := Lib.hid (HA.out.trans haw)
  replace HB9 := Lib.hid (HB9.out.on haw)
  replace HMI := Lib.hid ((HMI.out.mono (by exact HWS.out)).on haw)
  have HGD := Lib.hid hgd
  clear hcu hxs haw K3 hn hpk HPQ hgd hpl
  go_upto_region 5 with fail
  go_cut [51] (fun v wx => ∃ b, v = .bool b ∧ wx = w6 ∧ (b = false → ∃ x pre c m z, Gd q x pre c m z L))
  case first =>
    as_aux_lemma =>
    rcases HGD.out with ⟨x, pre, c, m, z, hgd⟩ | ⟨hg1, hgl⟩
    · have h2 := hgd.two
      rw [hnL] at h2
      obtain ⟨y, hy, hym⟩ := get_of (xs := xs) (k := n - 1) (by rw [← HN.out]; omega)
      have hyp : L[L.length - 1]? = some y.p := by rw [hnL, ← HXS.out, List.getElem?_map, hy]; rfl
      have hfr := hgd.last hyp
      obtain ⟨b0, o0, hva, r0, k0⟩ := HPK.out.at hy
      subst hva
      have hF := listP_fld k0.wf.ad y.o y.d
      have c41 := r0 41 _ hF.1
      have c43 := r0 43 _ hF.2.1
      have HGX : Hid (∃ x pre c m z, Gd q x pre c m z L) := ⟨x, pre, c, m, z, hgd⟩
      clear hgd hy hym hyp r0 k0 hF
      have j1 : ¬ ((n : Int) < 2) := by omega
      have j2 : IntKind.i64.wrap ((n : Int) - 1) = ((n - 1 : Nat) : Int) := by rw [IntKind.wrap_i64]; omega
      have j3 : 0 ≤ ((n - 1 : Nat) : Int) := by omega
      have j4 : ((n - 1 : Nat) : Int) < (n : Int) := by omega
      have j5 : (((n - 1 : Nat) : Int)).toNat = n - 1 := by omega
      cases hm : y.p.more with
      | true =>
        rw [hm] at c41
        clear hm hfr
        go_wp2_with fail
        go_meet
        exact ⟨false, rfl, rfl, fun _ => HGX.out⟩
      | false =>
        rw [hm, Bool.or_false, decide_eq_true_eq] at hfr
        rw [hm] at c41
        clear hm
        have j6 : (y.p.off == 0) = false := by simp; omega
        clear hfr
        go_wp2_with fail
        go_meet
        exact ⟨false, rfl, rfl, fun _ => HGX.out⟩
    · by_cases h2 : 2 ≤ n
      · obtain ⟨y, hy, hym⟩ := get_of (xs := xs) (k := n - 1) (by rw [← HN.out]; omega)
        have hyp : L[L.length - 1]? = some y.p := by rw [hnL, ← HXS.out, List.getElem?_map, hy]; rfl
        obtain ⟨hm, ho⟩ := hgl _ hyp (by omega)
        obtain ⟨b0, o0, hva, r0, k0⟩ := HPK.out.at hy
        subst hva
        have hF := listP_fld k0.wf.ad y.o y.d
        have c41 := r0 41 _ hF.1
        have c43 := r0 43 _ hF.2.1
        rw [hm] at c41
        rw [ho] at c43
        clear hy hym hyp r0 k0 hF hm ho hgl
        have j1 : ¬ ((n : Int) < 2) := by omega
        have j2 : IntKind.i64.wrap ((n : Int) - 1) = ((n - 1 : Nat) : Int) := by rw [IntKind.wrap_i64]; omega
        have j3 : 0 ≤ ((n - 1 : Nat) : Int) := by omega
        have j4 : ((n - 1 : Nat) : Int) < (n : Int) := by omega
        have j5 : (((n - 1 : Nat) : Int)).toNat = n - 1 := by omega
        go_wp2_with fail
        go_meet
        exact ⟨true, rfl, rfl, fun h => by simp at h⟩
      · have j1 : (n : Int) < 2 := by omega
        clear hgl
        go_wp2_with fail
        go_meet
        exact ⟨true, rfl, rfl, fun h => by simp at h⟩
  case rest =>
    as_aux_lemma =>
    obtain ⟨b, rfl, hw', hgood⟩ := hcut
    obtain rfl := hw'.symm
    have HGOOD := Lib.hid hgood
    clear hw' hgood HGD
    go_upto_if 51 with fail
    go_cut [6] (fun v wx => ∃ q qo qd xs x pre c m z, Sm w wx g9 v q qo qd xs x pre c m z)
    case first =>
      as_aux_lemma =>
      cases b with
      | false =>
        obtain ⟨x, pre, c, m, z, hgd⟩ := HGOOD.out rfl
        go_wp2_with fail
        go_meet
        exact ⟨q, _, _, xs, x, pre, c, m, z, HB9.out, HMI.out, ⟨_, HCU.out⟩, by rw [HXS.out]; exact hgd, HA.out, by rw [← HN.out]; exact hlen⟩
      | true =>
        go_wp2_with (refine wpList_make200 rfl _ _ rfl rfl rfl ?_; refine Hid.out ?_)
        refine Lib.hid ?_
        intro gm w7 hgm hown haw
        have HOW := Lib.hid hown
        have HA7 := Lib.hid (HA.out.trans haw)
        have HB7 := Lib.hid (HB9.out.on haw)
        clear hown haw hgm
        have HBU := Lib.hid (build200 gm)
        go_wp2_with (refine wpList_buildR rfl 28 _ rfl #[(0, .int .i64 4), (13, .slice (some ⟨gm, 0, none⟩) 200 200)] (by simp only [List.map_toArray, List.map_cons, List.map_nil]; rfl) _ HBU.out ?_; refine Hid.out ?_)
        refine Lib.hid ?_
        have HPP : Hid (Pkt w7 p200 (.slice none 0 0) (.slice (some ⟨gm, 0, none⟩) 200 200)) := ⟨p200_wf, Sl.nil _, HOW.out.sl (p200_wf.d) (by simp)⟩
        have K5 := Lib.hid (mended_d p200 _ _ w7 HPP.out)
        unfold MendD at K5
        go_wp2_with (go_at_call 7; refine K5.out.mono ?_; refine Hid.out ?_)
        refine Lib.hid ?_
        first
          | rintro E w8 q2 qo qd rfl hu hwf hv hq hx hmi haw
          | rintro E w8 ⟨q2, qo, qd, rfl, hu, hwf, hv, hq, hx, hmi, haw⟩
        obtain ⟨hqo, hdf, hq3⟩ := hq
        obtain ⟨qoa2, qon2, qoc2, rfl⟩ := hmi.o.shp
        obtain ⟨qda2, qdn2, qdc2, rfl⟩ := hmi.d.shp
        have hg4 := gd_two hu hwf (hx.1 rfl) hqo (by rw [hx.2 (by simp [p200])]; simp [p200]) hdf
        have HU2 := Lib.hid hu; have HW2 := Lib.hid hwf
        have HQA2 : Hid (Ad q2) := hwf.ad
        have HM2 := Lib.hid (hmi.mono HA7.out.size)
        have HLT2 := Lib.hid hmi.lto
        have HA8 := Lib.hid (HA7.out.trans haw)
        have HB8 := Lib.hid (HB7.out.on haw)
        have h97 : g9 < w7.heap.size := HB7.out.lt
        have HN9 : Hid (∀ k, (Value.slice qoa2 qon2 qoc2).ownBlock = some k ∨ (Value.slice qda2 qdn2 qdc2).ownBlock = some k → k ≠ g9) := fun k hk e => by have := (HLT2.out k hk).2; omega
        clear hu hwf hv hqo hdf hq3 hx hmi haw K5
        go_wp2_with (refine wpList_store28 rfl _ _ rfl g9 rfl q2 (.slice qoa2 qon2 qoc2) (.slice qda2 qdn2 qdc2) rfl q _ _ (by exact HB8.out) HQA2.out HQA.out rfl rfl ?_; refine Hid.out ?_)
        refine Lib.hid ?_
        intro w9 hb haw
        have HB9' := Lib.hid hb
        have HM9 := Lib.hid (HM2.out.away haw (fun k hk => by simp; exact HN9.out k hk))
        have HA9 : Hid (Away [] w w9) := HA8.out.next haw (fun x hx => .inr (by simp at hx; subst hx; exact HG9.out))
        have HPQ9 := Lib.hid (HM9.out.pkt HW2.out)
        clear hb haw HN9 HLT2 h97
        have K6 := pieces_e q2 (.slice qoa2 qon2 qoc2) (.slice qda2 qdn2 qdc2) 0 0 w9 HPQ9.out HU2.out (HG.out.on HA9.out)
        have hb1 : bits .and .i64 0 1023 = 0 := by decide
        have hb2 : bits .and .i64 0 255 = 0 := by decide
        rw [hb1, hb2] at K6
        have hpl := pcsE_len HU2.out 0 0
        obtain ⟨L2, hL2⟩ : ∃ L, L = pcsE q2 0 0 := ⟨_, rfl⟩
        rw [← hL2] at K6 hg4 hpl
        clear hL2
        replace K6 := Lib.hid K6
        go_wp2_with (first
          | (refine wpList_load28 rfl _ rfl g9 rfl q2 _ _ (by exact HB9'.out) HQA2.out ?_)
          | (go_at_call 8; refine K6.out.mono ?_; refine Hid.out ?_))
        refine Lib.hid ?_
        first
          | rintro E w10 v2 ys rfl hcu hxs haw
          | rintro E w10 ⟨v2, ys, rfl, hcu, hxs, haw⟩
        obtain ⟨x, pre, c, m, z, hgd⟩ := hg4
        have hln : ys.length ≤ 4900070000 := by rw [← List.length_map (f := X.p), hxs]; exact hpl
        obtain ⟨va2, vc2, hv, -, -, -, -⟩ := hcu.pks (by omega)
        subst hv
        have HF : Hid (Sm w w10 g9 (.slice va2 ys.length vc2) q2 (.slice qoa2 qon2 qoc2) (.slice qda2 qdn2 qdc2) ys x pre c m z) := ⟨HB9'.out.on haw, HM9.out.on haw, ⟨_, hcu⟩, by rw [hxs]; exact hgd, HA9.out.trans haw, hln⟩
        generalize ys.length = yn at HF ⊢
        clear hcu hxs haw hgd hln hpl K6
        go_wp2_with fail
        go_meet
        exact ⟨_, _, _, _, _, _, _, _, _, HF.out⟩
    case rest =>
      as_aux_lemma =>
      obtain ⟨q2, qo, qd, xs2, x, pre, c, m, z, hsm⟩ := hcut
      clear HB9 HMI HCU HXS HA HN HPK HGOOD HU HW HV HDF HQO HQ3 HQA hnL hlen hbn hbs
      obtain ⟨wm, hwm⟩ : ∃ z, z = wc := ⟨_, rfl⟩
      subst hwm
      obtain ⟨hbx, hmi, ⟨B0, hcu⟩, hgd, haw, hln⟩ := hsm
      obtain ⟨va2, vc2, hv, -, -, hpk, -⟩ := hcu.pks (by omega)
      obtain ⟨n2, hn⟩ : ∃ n, n = xs2.length := ⟨_, rfl⟩
      rw [← hn] at hv hln
      subst hv
      obtain ⟨ra, rn, rc, rfl⟩ := hmi.o.shp
      obtain ⟨sa, sn, sc, rfl⟩ := hmi.d.shp
      have h2 : 2 ≤ n2 := by have h := hgd.two; rw [List.length_map] at h; omega
      obtain ⟨x0, hx0, hx0m⟩ := get_of (xs := xs2) (k := 0) (by omega)
      obtain ⟨b0, o0, hva, r0, k0⟩ := hpk.at hx0
      rw [Nat.zero_mul, Nat.add_zero] at r0
      subst hva
      have hz : z = x0.p := by
        have h := hgd.hd
        rw [List.getElem?_map, hx0] at h
        exact (Option.some.inj h).symm
      subst hz
      have HGD := Lib.hid hgd; have HN := Lib.hid hn; have HPK := Lib.hid hpk; have HR0 := Lib.hid r0
      have HXA : Hid (Ad x0.p) := k0.wf.ad
      have HQW := Lib.hid hgd.jc.wf
      have HQA : Hid (Ad q2) := hgd.jc.wf.ad
      have HMQ := Lib.hid hmi
      have HB9 := Lib.hid hbx
      have HA := Lib.hid haw
      have HH := Lib.hid (show ∀ v : Value, True from fun _ => trivial)
      clear hbx hmi hcu hgd haw hpk r0 k0 hx0 hx0m hn HH
      have j1 : ¬ ((n2 : Int) < 2) := by omega
      have j2 : (0 : Int) < (n2 : Int) := by omega
      have K4 := Lib.hid (lkeyOf_c x0.p x0.o x0.d wm HXA.out)
      go_wp2_with (first
        | (refine wpList_load28m rfl _ rfl b0 o0 rfl x0.p x0.o x0.d (by exact HR0.out) HXA.out ?_)
        | (go_at_call 10; refine K4.out.mono ?_; refine Hid.out ?_))
      refine Lib.hid ?_
      first
        | rintro E w7 rfl haw
        | rintro E w7 ⟨rfl, haw⟩
      have HA7 := Lib.hid haw
      have h97 : g9 < wm.heap.size := HB9.out.lt
      clear haw K4
      have K5 := Lib.hid (new_c w7 x0.p 0 HXA.out)
      go_wp2_with (go_at_call 9; refine K5.out.mono ?_; refine Hid.out ?_)
      refine Lib.hid ?_
      first
        | rintro E w8 g fp rfl hent hlo haw
        | rintro E w8 ⟨g, fp, rfl, hent, hlo, haw⟩
      have HY := Lib.hid (ey_new hent)
      have HLO : Hid (∀ z ∈ fp, wm.heap.size ≤ z) := fun z hz => Nat.le_trans HA7.out.size (hlo z hz)
      have HA8 := Lib.hid (HA7.out.trans haw)
      have HGP : Hid (Gd q2 x pre c m x0.p (List.map X.p xs2)) := HGD.out
      clear hent hlo haw K5 HA7 j1 j2 HR0
      go_wp2_with fail
      go_loopw [8] (fun i wr => ∃ (k : Nat) (fp : List Nat) (s : Es), k ≤ n2 ∧ i = .int .i64 (k : Int) ∧ Away [] wm wr ∧ Ey wr g s fp ∧ (∀ z ∈ fp, wm.heap.size ≤ z) ∧ Mj x c m (List.map X.p xs2) x0.p k s) (fun i _ => n2 - (intOf i).toNat)
      case atStart => exact ⟨0, fp, newS x0.p 0, by omega, rfl, HA8.out, HY.out, HLO.out, mj_new HGD.out 0⟩
      case round =>
        obtain ⟨k, fp, s, hk, rfl, haw, hy, hlo, hmj⟩ := hrel
        clear HA8 HY HLO
        have HA8 := Lib.hid haw
        have HY := Lib.hid hy
        have HLO := Lib.hid hlo
        have HMJ := Lib.hid hmj
        clear haw hy hlo hmj
        by_cases hlt : k < n2
        · as_aux_lemma =>
          obtain ⟨y, hy, hym⟩ := get_of (xs := xs2) (k := k) (by rw [← HN.out]; exact hlt)
          obtain ⟨b1, o1, hva, ry, ky⟩ := HPK.out.at hy
          have hva2 := Addr.mk.inj (Option.some.inj hva)
          obtain ⟨eb1, eo1, -⟩ := hva2
          rw [← eb1, ← eo1] at ry
          clear eb1 eo1 hva
          obtain ⟨py, oy, dy⟩ := y
          replace ky : Pkt wm py oy dy := ky
          have hyp : (List.map X.p xs2)[k]? = some py := by rw [List.getElem?_map, hy]; rfl
          have hsm := HGD.out.small py (List.mem_of_getElem? hyp)
          have HYW := Lib.hid ky.wf
          have HYA : Hid (Ad py) := ky.wf.ad
          have HKY := Lib.hid ky
          have HRY : Hid (∀ W, Away [] wm W → W.rangeAt b0 (o0 + k * 46) (listP py oy dy)) := fun W hW => range_away hW (by simp) ry
          have HMS := Lib.hid (HMJ.out.step HGD.out hyp)
          have hry := HRY.out wr HA8.out
          have HRR := Lib.hid hry
          clear hy hym ry ky hyp hry
          have m1 : (k : Int) < (n2 : Int) := by omega
          have m2 : 0 ≤ (k : Int) := by omega
          have m3 : ((k : Nat) : Int).toNat = k := by omega
          have K1 := Lib.hid (U5.lent_c py oy dy wr (HKY.out.on HA8.out) (by omega) (by omega))
          go_wp2_with (first
            | (refine wpList_load28m rfl _ rfl b0 (o0 + k * 46) rfl py oy dy (by exact HRR.out) HYA.out ?_)
            | (go_at_call 20; refine K1.out.mono ?_; refine Hid.out ?_))
          refine Lib.hid ?_
          first
            | rintro E y1 ou du rfl hl1 hl2 hap haw
            | rintro E y1 ⟨ou, du, rfl, hl1, hl2, hap, haw⟩
          have HFL : Hid (∀ z ∈ fp, z < wr.heap.size) := HY.out.ent.lt
          have HL1 := Lib.hid hl1; have HL2 := Lib.hid hl2; have HAP := Lib.hid hap
          have HO1 := Lib.hid hl1.one; have HO2 := Lib.hid hl2.one
          have HY1 := Lib.hid (HY.out.on haw)
          have HA1 := Lib.hid (HA8.out.trans haw)
          have hs1 := haw.size
          have HBU : Hid (∀ z, ou.ownBlock = some z ∨ du.ownBlock = some z → wr.heap.size ≤ z ∧ z < y1.heap.size) := fun z hz => by
            have h := (lent_mine hl1 hl2 hap).lto z hz
            omega
          clear hl1 hl2 hap haw K1
          go_wp2_with (refine wpList_new28 rfl rfl rfl _ _ rfl py ou du (fun g => rfl) (fun g => rfl) HYA.out HO1.out HO2.out ?_; refine Hid.out ?_)
          refine Lib.hid ?_
          intro g16 y2 hg16 hb haw
          have HB16 := Lib.hid hb
          replace HY1 := Lib.hid (HY1.out.on haw)
          replace HA1 := Lib.hid (HA1.out.trans haw)
          replace HL1 := Lib.hid (HL1.out.away haw (by simp))
          replace HL2 := Lib.hid (HL2.out.away haw (by simp))
          have hs2 := haw.size
          have HN16 : Hid (g16 ∉ fp ∧ y1.heap.size ≤ g16 ∧ wr.heap.size ≤ g16) := ⟨fun hm => by have := HFL.out _ hm; omega, hg16, by omega⟩
          clear hb haw hg16
          have K2 := Lib.hid (eput_c HY1.out py ou du ((lent_mine HL1.out HL2.out HAP.out).pkt HYW.out) (HG.out.on (HA.out.trans HA1.out)) ⟨fun _ z hz hm => by have h1 := (HBU.out z (.inl hz)).1; have h2 := HFL.out z hm; omega, fun _ z hz hm => by have h1 := (HBU.out z (.inr hz)).1; have h2 := HFL.out z hm; omega⟩ (fun hm => by have := HLO.out 0 hm; omega))
          unfold PutE at K2
          go_wp2_with (first
            | (refine wpList_load28 rfl _ rfl g16 rfl py _ _ (by exact HB16.out) HYA.out ?_)
            | (go_at_call 11; refine K2.out.mono ?_; refine Hid.out ?_))
          refine Lib.hid ?_
          first
            | rintro E y3 rfl fp2 hy hf haw
            | rintro E y3 ⟨rfl, fp2, hy, hf, haw⟩
          have HY3 := Lib.hid hy
          have HB3 := Lib.hid (HB16.out.away haw HN16.out.1)
          have HL13 := Lib.hid (HL1.out.away haw (fun z hz => HFL.out z hz))
          have HL23 := Lib.hid (HL2.out.away haw (fun z hz => HFL.out z hz))
          have HA3 : Hid (Away [] wm y3) := HA1.out.next haw (fun z hz => .inr (HLO.out z hz))
          have HF3 : Hid (∀ z ∈ fp2, wm.heap.size ≤ z ∧ (z < wr.heap.size ∨ y2.heap.size ≤ z)) := fun z hz => by
            have h0 := HA1.out.size
            rcases hf z hz with h | h
            · exact ⟨HLO.out z h, .inl (HFL.out z h)⟩
            · exact ⟨by omega, .inr h⟩
          clear hy hf haw K2 HY1 HB16 HL1 HL2 HA1
          obtain ⟨s2, hs2'⟩ : ∃ z, z = (putS s py).2 := ⟨_, rfl⟩
          rw [← hs2'] at HY3 HMS
          clear hs2'
          have HCZ : Hid (Away [] y3 y3.drew) := (Away.refl _ _).drew
          have KK : Hid (∀ W, Away [] y3 W → Calls Tryz.prog 21 #[.agg (csP py ou du), .agg (csP py oy dy)] W fun E w' => E = .returned (.bool true) ∧ Away [] y3 w') := fun W hW =>
            (U5.kept_c py wr.heap.size oy dy ou du W (HKY.out.on (HA3.out.trans hW)) (by omega) (by omega) (HL13.out.away hW (by simp)) (HL23.out.away hW (by simp))).mono (fun E w' h => ⟨h.1, hW.trans h.2⟩)
          go_wp2_with fail
          go_cut [87] (fun v wx => v = .bool false ∧ Away [] y3 wx)
          case first =>
            as_aux_lemma =>
            refine wp_region_cls (C := fun w' => Away [] y3 w') (by kernel_rfl) (by kernel_rfl) HCZ.out ?_
            go_big_quiet_want; refine quiet_ld _ rfl (ad := ⟨g16, 0, none⟩) rfl (fun w' h => load28_run (HB3.out.on h) HYA.out) ?_; go_simp; go_big_quiet_on
            go_big_quiet_want; (refine quiet_val ?_ ?_ ?_; rotate_left; (intro w; go_simp; rfl); go_simp; go_big_quiet_on)
            go_big_quiet_want; (refine quiet_val ?_ ?_ ?_; rotate_left; (intro w; go_simp; rfl); go_simp; go_big_quiet_on)
            go_big_quiet_want; (refine quiet_val ?_ ?_ ?_; rotate_left; (intro w; go_simp; rfl); go_simp; go_big_quiet_on)
            go_big_quiet_want; refine quiet_ld _ rfl (ad := ⟨b0, o0 + k * 46, none⟩) rfl (fun w' h => load28m_run (HRY.out _ (HA3.out.trans h)) HYA.out) ?_; go_simp; go_big_quiet_on
            go_big_quiet_want; refine quiet_call 21 #[.agg (csP py ou du), .agg (csP py oy dy)] (.bool true) ?_ KK.out ?_
            · intro w; go_simp; all_goals (with_reducible rfl)
            go_simp; go_big_quiet_on
            go_big_quiet_want; (refine quiet_val ?_ ?_ ?_; rotate_left; (intro w; go_simp; rfl); go_simp; go_big_quiet_on)
            refine wpQuiet_nil ?_
            intro V hV
            go_wp2_with fail
            go_meet
            exact ⟨rfl, hV⟩
          case rest =>
            as_aux_lemma =>
            obtain ⟨rfl, haw⟩ := hcut
            have HY4 := Lib.hid (HY3.out.on haw)
            have HB4 := Lib.hid (HB3.out.on haw)
            have HA4 := Lib.hid (HA3.out.trans haw)
            have HMN := Lib.hid (lent_mine (HL13.out.away haw (by simp)) (HL23.out.away haw (by simp)) HAP.out)
            clear haw HY3 HB3 HA3 HL13 HL23 KK HCZ
            have K3 := Lib.hid (wipe_c py ou du _ _ HMN.out HYW.out)
            go_wp2_with (first
              | (refine wpList_load28 rfl _ rfl g16 rfl py _ _ (by exact HB4.out) HYA.out ?_)
              | (go_at_call 22; refine K3.out.mono ?_; refine Hid.out ?_))
            refine Lib.hid ?_
            first
              | rintro E y5 rfl haw
              | rintro E y5 ⟨rfl, haw⟩
            have hin : ∀ z, z ∈ ou.ownBlock.toList ++ du.ownBlock.toList → wr.heap.size ≤ z ∧ z < y1.heap.size := fun z hz => by
              rw [List.mem_append] at hz
              rcases hz with h | h
              · exact HBU.out z (.inl (by simpa using h))
              · exact HBU.out z (.inr (by simpa using h))
            have HY5 := Lib.hid (HY4.out.away haw (fun z hz hm => by have h1 := (HF3.out z hz).2; have h2 := hin z hm; omega))
            have HA5 : Hid (Away [] wm y5) := HA4.out.next haw (fun z hz => .inr (by have h1 := hin z hz; have h2 := HA8.out.size; omega))
            have HF5 : Hid (∀ z ∈ fp2, wm.heap.size ≤ z) := fun z hz => (HF3.out z hz).1
            clear haw hin K3 HY4 HA4 HB4 HMN
            go_wp2_with fail
            go_roundw
            case rel => exact ⟨k + 1, fp2, s2, by omega, by go_num, HA5.out, HY5.out, HF5.out, HMS.out⟩
            case measure => simp [intOf]; omega
        · as_aux_lemma =>
          have hke : k = n2 := by omega
          subst hke
          have m1 : ¬ ((k : Int) < (k : Int)) := by omega
          have hfin := Mj.fin (by have h := HMJ.out; have hn := HN.out; rw [show k = (List.map X.p xs2).length from by rw [List.length_map]; exact hn] at h; exact h) HGD.out
          obtain ⟨hbad, hwh, hwd, hsh, hf2, hfo, hfw, hww, hfop, hwop, hfl⟩ := hfin
          obtain ⟨pf, hpf⟩ : ∃ z, z = (firstP s).1 := ⟨_, rfl⟩
          obtain ⟨pw, hpw⟩ : ∃ z, z = (wholeP s).1 := ⟨_, rfl⟩
          have hw2 : (wholeP s).2 = true := by rw [hwh]
          rw [← hpf] at hfo hfw hfop hfl
          rw [← hpw] at hwd hww hwop
          have KF : Hid (∀ W, Ey W g s fp → Calls Tryz.prog 23 #[.pointer (some ⟨g, 0, none⟩)] W fun E w' => ∃ o d, E = .returned (.tuple #[.agg (csP pf o d), .bool true]) ∧ Mine w' W.heap.size pf o d ∧ Away [] W w') := fun W hW => by
            have h := efirst_c hW
            unfold TellOut at h
            rw [hf2, ← hpf] at h
            exact h
          have KW : Hid (∀ W, Ey W g s fp → Calls Tryz.prog 15 #[.pointer (some ⟨g, 0, none⟩)] W fun E w' => ∃ o d, E = .returned (.tuple #[.agg (csP pw o d), .bool true]) ∧ Mine w' W.heap.size pw o d ∧ Away [] W w') := fun W hW => by
            have h := ewhole_c hW
            unfold TellOut at h
            rw [hw2, ← hpw] at h
            exact h
          have HFW := Lib.hid hfw; have HWW := Lib.hid hww
          have HFA : Hid (Ad pf) := hfw.ad
          have HWA : Hid (Ad pw) := hww.ad
          have HFO := Lib.hid hfo; have HWD := Lib.hid hwd; have HSH := Lib.hid hsh
          have HPO : Hid (pf.o = [] ∧ pw.o = [] ∧ pf.d.length ≤ 65535) := ⟨hfop, hwop, hfl⟩
          have HAL : Hid (Away [] wr wr) := Away.refl _ _
          have HLT : Hid (Lots wr []) := Lots.nil _
          have HFP : Hid (∀ z ∈ fp, z < wr.heap.size) := HY.out.ent.lt
          have HWR : Hid (w.heap.size ≤ wr.heap.size) := Nat.le_trans HA.out.size HA8.out.size
          have H9W : Hid (g9 < wr.heap.size) := by have := HA8.out.size; exact Lib.hid (by omega)
          have HQB : Hid (∀ z, (Value.slice ra rn rc).ownBlock = some z ∨ (Value.slice sa sn sc).ownBlock = some z → z < wr.heap.size) := fun z hz => by have h1 := (HMQ.out.lto z hz).1; have := HA8.out.size; omega
          clear hbad hwh hwd hsh hf2 hfo hfw hww hfop hwop hfl hpf hpw hw2 HMJ
          replace HB9 := Lib.hid (HB9.out.on HA8.out)
          replace HMQ := Lib.hid (HMQ.out.on HA8.out)
          go_wp2_with (go_at_call 23; refine (KF.out _ HY.out).mono ?_; refine Hid.out ?_)
          refine Lib.hid ?_
          first
            | rintro E a1 o1 d1 rfl hmi haw
            | rintro E a1 ⟨o1, d1, rfl, hmi, haw⟩
          obtain ⟨oa1, on1, oc1, rfl⟩ := hmi.o.shp
          obtain ⟨da1, dn1, dc1, rfl⟩ := hmi.d.shp
          have HM1 := Lib.hid hmi
          have HLN : Hid (Lots a1 [(.slice da1 dn1 dc1, pf.d), (.slice oa1 on1 oc1, pf.o)]) := lots_addm (P := []) (Q := []) HLT.out haw hmi.d hmi.o hmi.nd hmi.no (fun z h1 h2 => hmi.ap z h2 h1)
          have HAN1 : Hid (∀ z, (.slice oa1 on1 oc1 : Value).ownBlock = some z ∨ (.slice da1 dn1 dc1 : Value).ownBlock = some z → wr.heap.size ≤ z) := fun z hz => by have h1 := (hmi.lto z hz).2; have h2 := HAL.out.size; omega
          replace HA8 := Lib.hid (HA8.out.trans haw)
          replace HY := Lib.hid (HY.out.on haw)
          replace HB9 := Lib.hid (HB9.out.on haw)
          replace HMQ := Lib.hid (HMQ.out.on haw)
          replace HAL := Lib.hid (HAL.out.trans haw)
          clear hmi haw HLT
          have HLT := HLN
          clear HLN
          go_wp2_with (refine wpList_new28 rfl rfl rfl _ _ rfl pf (.slice oa1 on1 oc1) (.slice da1 dn1 dc1) (fun g => rfl) (fun g => rfl) HFA.out rfl rfl ?_; refine Hid.out ?_)
          refine Lib.hid ?_
          intro gg1 c1 hgg hb haw
          have HX1 := Lib.hid hb
          replace HA8 := Lib.hid (HA8.out.trans haw)
          replace HY := Lib.hid (HY.out.on haw)
          replace HB9 := Lib.hid (HB9.out.on haw)
          replace HMQ := Lib.hid (HMQ.out.on haw)
          replace HAL := Lib.hid (HAL.out.trans haw)
          replace HM1 := Lib.hid (HM1.out.on haw)
          replace HLT := Lib.hid (HLT.out.on haw)
          clear hb haw hgg
          go_wp2_with (go_at_call 23; refine (KF.out _ HY.out).mono ?_; refine Hid.out ?_)
          refine Lib.hid ?_
          first
            | rintro E a2 o2 d2 rfl hmi haw
            | rintro E a2 ⟨o2, d2, rfl, hmi, haw⟩
          obtain ⟨oa2, on2, oc2, rfl⟩ := hmi.o.shp
          obtain ⟨da2, dn2, dc2, rfl⟩ := hmi.d.shp
          have HM2 := Lib.hid hmi
          have HLN : Hid (Lots a2 [(.slice da1 dn1 dc1, pf.d), (.slice da2 dn2 dc2, pf.d), (.slice oa1 on1 oc1, pf.o), (.slice oa2 on2 oc2, pf.o)]) := lots_addm (P := [(.slice da1 dn1 dc1, pf.d)]) (Q := [(.slice oa1 on1 oc1, pf.o)]) HLT.out haw hmi.d hmi.o hmi.nd hmi.no (fun z h1 h2 => hmi.ap z h2 h1)
          have HAN2 : Hid (∀ z, (.slice oa2 on2 oc2 : Value).ownBlock = some z ∨ (.slice da2 dn2 dc2 : Value).ownBlock = some z → wr.heap.size ≤ z) := fun z hz => by have h1 := (hmi.lto z hz).2; have h2 := HAL.out.size; omega
          replace HA8 := Lib.hid (HA8.out.trans haw)
          replace HY := Lib.hid (HY.out.on haw)
          replace HB9 := Lib.hid (HB9.out.on haw)
          replace HMQ := Lib.hid (HMQ.out.on haw)
          replace HAL := Lib.hid (HAL.out.trans haw)
          replace HM1 := Lib.hid (HM1.out.on haw)
          replace HX1 := Lib.hid (HX1.out.on haw)
          clear hmi haw HLT
          have HLT := HLN
          clear HLN
          go_wp2_with (refine wpList_new28 rfl rfl rfl _ _ rfl pf (.slice oa2 on2 oc2) (.slice da2 dn2 dc2) (fun g => rfl) (fun g => rfl) HFA.out rfl rfl ?_; refine Hid.out ?_)
          refine Lib.hid ?_
          intro gg2 c2 hgg hb haw
          have HX2 := Lib.hid hb
          replace HA8 := Lib.hid (HA8.out.trans haw)
          replace HY := Lib.hid (HY.out.on haw)
          replace HB9 := Lib.hid (HB9.out.on haw)
          replace HMQ := Lib.hid (HMQ.out.on haw)
          replace HAL := Lib.hid (HAL.out.trans haw)
          replace HM1 := Lib.hid (HM1.out.on haw)
          replace HX1 := Lib.hid (HX1.out.on haw)
          replace HM2 := Lib.hid (HM2.out.on haw)
          replace HLT := Lib.hid (HLT.out.on haw)
          clear hb haw hgg
          go_wp2_with (go_at_call 15; refine (KW.out _ HY.out).mono ?_; refine Hid.out ?_)
          refine Lib.hid ?_
          first
            | rintro E a3 o3 d3 rfl hmi haw
            | rintro E a3 ⟨o3, d3, rfl, hmi, haw⟩
          obtain ⟨oa3, on3, oc3, rfl⟩ := hmi.o.shp
          obtain ⟨da3, dn3, dc3, rfl⟩ := hmi.d.shp
          have HM3 := Lib.hid hmi
          have HLN : Hid (Lots a3 [(.slice da1 dn1 dc1, pf.d), (.slice da2 dn2 dc2, pf.d), (.slice da3 dn3 dc3, pw.d), (.slice oa1 on1 oc1, pf.o), (.slice oa2 on2 oc2, pf.o), (.slice oa3 on3 oc3, pw.o)]) := lots_addm (P := [(.slice da1 dn1 dc1, pf.d), (.slice da2 dn2 dc2, pf.d)]) (Q := [(.slice oa1 on1 oc1, pf.o), (.slice oa2 on2 oc2, pf.o)]) HLT.out haw hmi.d hmi.o hmi.nd hmi.no (fun z h1 h2 => hmi.ap z h2 h1)
          have HAN3 : Hid (∀ z, (.slice oa3 on3 oc3 : Value).ownBlock = some z ∨ (.slice da3 dn3 dc3 : Value).ownBlock = some z → wr.heap.size ≤ z) := fun z hz => by have h1 := (hmi.lto z hz).2; have h2 := HAL.out.size; omega
          replace HA8 := Lib.hid (HA8.out.trans haw)
          replace HY := Lib.hid (HY.out.on haw)
          replace HB9 := Lib.hid (HB9.out.on haw)
          replace HMQ := Lib.hid (HMQ.out.on haw)
          replace HAL := Lib.hid (HAL.out.trans haw)
          replace HM1 := Lib.hid (HM1.out.on haw)
          replace HX1 := Lib.hid (HX1.out.on haw)
          replace HM2 := Lib.hid (HM2.out.on haw)
          replace HX2 := Lib.hid (HX2.out.on haw)
          clear hmi haw HLT
          have HLT := HLN
          clear HLN
          go_wp2_with (refine wpList_new28 rfl rfl rfl _ _ rfl pw (.slice oa3 on3 oc3) (.slice da3 dn3 dc3) (fun g => rfl) (fun g => rfl) HWA.out rfl rfl ?_; refine Hid.out ?_)
          refine Lib.hid ?_
          intro gg3 c3 hgg hb haw
          have HX3 := Lib.hid hb
          replace HA8 := Lib.hid (HA8.out.trans haw)
          replace HY := Lib.hid (HY.out.on haw)
          replace HB9 := Lib.hid (HB9.out.on haw)
          replace HMQ := Lib.hid (HMQ.out.on haw)
          replace HAL := Lib.hid (HAL.out.trans haw)
          replace HM1 := Lib.hid (HM1.out.on haw)
          replace HX1 := Lib.hid (HX1.out.on haw)
          replace HM2 := Lib.hid (HM2.out.on haw)
          replace HX2 := Lib.hid (HX2.out.on haw)
          replace HM3 := Lib.hid (HM3.out.on haw)
          replace HLT := Lib.hid (HLT.out.on haw)
          clear hb haw hgg
          go_wp2_with (go_at_call 15; refine (KW.out _ HY.out).mono ?_; refine Hid.out ?_)
          refine Lib.hid ?_
          first
            | rintro E a4 o4 d4 rfl hmi haw
            | rintro E a4 ⟨o4, d4, rfl, hmi, haw⟩
          obtain ⟨oa4, on4, oc4, rfl⟩ := hmi.o.shp
          obtain ⟨da4, dn4, dc4, rfl⟩ := hmi.d.shp
          have HM4 := Lib.hid hmi
          have HLN : Hid (Lots a4 [(.slice da1 dn1 dc1, pf.d), (.slice da2 dn2 dc2, pf.d), (.slice da3 dn3 dc3, pw.d), (.slice da4 dn4 dc4, pw.d), (.slice oa1 on1 oc1, pf.o), (.slice oa2 on2 oc2, pf.o), (.slice oa3 on3 oc3, pw.o), (.slice oa4 on4 oc4, pw.o)]) := lots_addm (P := [(.slice da1 dn1 dc1, pf.d), (.slice da2 dn2 dc2, pf.d), (.slice da3 dn3 dc3, pw.d)]) (Q := [(.slice oa1 on1 oc1, pf.o), (.slice oa2 on2 oc2, pf.o), (.slice oa3 on3 oc3, pw.o)]) HLT.out haw hmi.d hmi.o hmi.nd hmi.no (fun z h1 h2 => hmi.ap z h2 h1)
          have HAN4 : Hid (∀ z, (.slice oa4 on4 oc4 : Value).ownBlock = some z ∨ (.slice da4 dn4 dc4 : Value).ownBlock = some z → wr.heap.size ≤ z) := fun z hz => by have h1 := (hmi.lto z hz).2; have h2 := HAL.out.size; omega
          replace HA8 := Lib.hid (HA8.out.trans haw)
          replace HY := Lib.hid (HY.out.on haw)
          replace HB9 := Lib.hid (HB9.out.on haw)
          replace HMQ := Lib.hid (HMQ.out.on haw)
          replace HAL := Lib.hid (HAL.out.trans haw)
          replace HM1 := Lib.hid (HM1.out.on haw)
          replace HX1 := Lib.hid (HX1.out.on haw)
          replace HM2 := Lib.hid (HM2.out.on haw)
          replace HX2 := Lib.hid (HX2.out.on haw)
          replace HM3 := Lib.hid (HM3.out.on haw)
          replace HX3 := Lib.hid (HX3.out.on haw)
          clear hmi haw HLT
          have HLT := HLN
          clear HLN
          go_wp2_with (refine wpList_new28 rfl rfl rfl _ _ rfl pw (.slice oa4 on4 oc4) (.slice da4 dn4 dc4) (fun g => rfl) (fun g => rfl) HWA.out rfl rfl ?_; refine Hid.out ?_)
          refine Lib.hid ?_
          intro gg4 c4 hgg hb haw
          have HX4 := Lib.hid hb
          replace HA8 := Lib.hid (HA8.out.trans haw)
          replace HY := Lib.hid (HY.out.on haw)
          replace HB9 := Lib.hid (HB9.out.on haw)
          replace HMQ := Lib.hid (HMQ.out.on haw)
          replace HAL := Lib.hid (HAL.out.trans haw)
          replace HM1 := Lib.hid (HM1.out.on haw)
          replace HX1 := Lib.hid (HX1.out.on haw)
          replace HM2 := Lib.hid (HM2.out.on haw)
          replace HX2 := Lib.hid (HX2.out.on haw)
          replace HM3 := Lib.hid (HM3.out.on haw)
          replace HX3 := Lib.hid (HX3.out.on haw)
          replace HM4 := Lib.hid (HM4.out.on haw)
          replace HLT := Lib.hid (HLT.out.on haw)
          clear hb haw hgg
          go_upto_region 25 with fail
          go_cut [148] (fun v wx => v = .bool false ∧ Away [] c4 wx)
          case first =>
            as_aux_lemma =>
            have K1 := Lib.hid (sameP_yes pf pf _ _ _ _ c4 (HM1.out.pkt HFW.out) (HM2.out.pkt HFW.out) rfl)
            go_wp2_with (first
              | (refine wpList_load28 rfl _ rfl gg1 rfl pf _ _ (by exact HX1.out) HFA.out ?_)
              | (refine wpList_load28 rfl _ rfl gg2 rfl pf _ _ (by exact HX2.out) HFA.out ?_)
              | (go_at_call 16; refine K1.out.mono ?_; refine Hid.out ?_))
            refine Lib.hid ?_
            first
              | rintro E u1 rfl haw
              | rintro E u1 ⟨rfl, haw⟩
            have HU1 := Lib.hid haw
            clear haw K1
            have HX31 := Lib.hid (HX3.out.on HU1.out)
            have HX41 := Lib.hid (HX4.out.on HU1.out)
            have K2 := Lib.hid (sameP_yes pw pw _ _ _ _ u1 ((HM3.out.on HU1.out).pkt HWW.out) ((HM4.out.on HU1.out).pkt HWW.out) rfl)
            go_wp2_with (first
              | (refine wpList_load28 rfl _ rfl gg3 rfl pw _ _ (by exact HX31.out) HWA.out ?_)
              | (refine wpList_load28 rfl _ rfl gg4 rfl pw _ _ (by exact HX41.out) HWA.out ?_)
              | (go_at_call 16; refine K2.out.mono ?_; refine Hid.out ?_))
            refine Lib.hid ?_
            first
              | rintro E u2 rfl haw
              | rintro E u2 ⟨rfl, haw⟩
            have HU2 := Lib.hid (HU1.out.trans haw)
            clear haw K2
            have e1 := ((HX3.out.on HU2.out).cells HWA.out).d
            have e2 := ((HB9.out.on HU2.out).cells HQA.out).d
            have e3 := ((HX1.out.on HU2.out).cells HFA.out).off
            rw [HFO.out] at e3
            obtain ⟨q1, q2', q3, q4⟩ := ((HM3.out.on HU2.out).d.sl HWW.out.d HWW.out.dn).of
            obtain ⟨r1, r2, r3, r4⟩ := ((HMQ.out.on HU2.out).d.sl HQW.out.d HQW.out.dn).of
            have K3 := Lib.hid (same_yes da3 sa pw.d q2.d dn3 sn dc3 sc u2 q1 r1 q3 r3 q4 r4 HWD.out)
            clear q1 q2' q3 q4 r1 r2 r3 r4
            go_wp2_with fail
            refine K3.out.mono ?_
            rintro E u3 ⟨rfl, hw'⟩
            obtain rfl := hw'.symm
            clear hw' K3
            go_wp2_with fail
            go_meet
            exact ⟨rfl, HU2.out⟩
          case rest =>
            as_aux_lemma =>
            obtain ⟨rfl, haw⟩ := hcut
            replace HA8 := Lib.hid (HA8.out.trans haw)
            replace HY := Lib.hid (HY.out.on haw)
            replace HB9 := Lib.hid (HB9.out.on haw)
            replace HMQ := Lib.hid (HMQ.out.on haw)
            replace HLT := Lib.hid (HLT.out.on haw)
            replace HAL := Lib.hid (HAL.out.trans haw)
            replace HM1 := Lib.hid (HM1.out.on haw)
            replace HX1 := Lib.hid (HX1.out.on haw)
            replace HM2 := Lib.hid (HM2.out.on haw)
            replace HX2 := Lib.hid (HX2.out.on haw)
            replace HM3 := Lib.hid (HM3.out.on haw)
            replace HX3 := Lib.hid (HX3.out.on haw)
            replace HM4 := Lib.hid (HM4.out.on haw)
            replace HX4 := Lib.hid (HX4.out.on haw)
            clear haw
            have e1 := (HX1.out.cells HFA.out).d
            obtain ⟨q1, q2', q3, q4⟩ := (HM1.out.d.sl HFW.out.d HFW.out.dn).of
            have K1 := Lib.hid (own_any da1 pf.d dn1 dc1 wc q1 q4)
            unfold Copied at K1
            clear q1 q2' q3 q4
            go_wp2_with (go_at_call 24; refine K1.out.mono ?_; refine Hid.out ?_)
            refine Lib.hid ?_
            first
              | rintro E v7 kv rfl hown hnew haw hby hbn
              | rintro E v7 ⟨kv, rfl, hown, hnew, haw, hby, hbn⟩
            obtain ⟨ka, kn, kc, rfl⟩ := hown.shp
            have HKP := Lib.hid hown
            have HKN := Lib.hid hnew
            have HLL := Lib.hid HLT.out.lt
            replace HA8 := Lib.hid (HA8.out.trans haw)
            replace HY := Lib.hid (HY.out.on haw)
            replace HB9 := Lib.hid (HB9.out.on haw)
            replace HMQ := Lib.hid (HMQ.out.on haw)
            replace HLT := Lib.hid (HLT.out.on haw)
            replace HAL := Lib.hid (HAL.out.trans haw)
            replace HM1 := Lib.hid (HM1.out.on haw)
            replace HX1 := Lib.hid (HX1.out.on haw)
            replace HM2 := Lib.hid (HM2.out.on haw)
            replace HX2 := Lib.hid (HX2.out.on haw)
            replace HM3 := Lib.hid (HM3.out.on haw)
            replace HX3 := Lib.hid (HX3.out.on haw)
            replace HM4 := Lib.hid (HM4.out.on haw)
            replace HX4 := Lib.hid (HX4.out.on haw)
            have hkz := haw.size
            clear hown hnew haw hby hbn K1 e1
            obtain ⟨PL, hPL⟩ : ∃ x : Lot, x = [(.slice da1 dn1 dc1, pf.d), (.slice da2 dn2 dc2, pf.d), (.slice da3 dn3 dc3, pw.d), (.slice da4 dn4 dc4, pw.d), (.slice oa1 on1 oc1, pf.o), (.slice oa2 on2 oc2, pf.o), (.slice oa3 on3 oc3, pw.o), (.slice oa4 on4 oc4, pw.o)] := ⟨_, rfl⟩
            rw [← hPL] at HLT HLL
            have hby : ∀ r ∈ PL, Bytes r.2 ∧ r.2.length ≤ 65535 := fun r hr => by
              have h1 := HPO.out
              have h2 := HGD.out.jc.dl
              have h3 := HWD.out
              rw [hPL] at hr
              simp only [List.mem_cons, List.not_mem_nil, or_false] at hr
              rcases hr with rfl | rfl | rfl | rfl | rfl | rfl | rfl | rfl
              · exact ⟨HFW.out.d, h1.2.2⟩
              · exact ⟨HFW.out.d, h1.2.2⟩
              · exact ⟨HWW.out.d, by simp only; rw [h3]; omega⟩
              · exact ⟨HWW.out.d, by simp only; rw [h3]; omega⟩
              · exact ⟨HFW.out.o, by simp only; rw [h1.1]; simp⟩
              · exact ⟨HFW.out.o, by simp only; rw [h1.1]; simp⟩
              · exact ⟨HWW.out.o, by simp only; rw [h1.2.1]; simp⟩
              · exact ⟨HWW.out.o, by simp only; rw [h1.2.1]; simp⟩
            have hab : ∀ r ∈ PL, ∀ z, r.1.ownBlock = some z → wr.heap.size ≤ z := fun r hr z hz => by
              rw [hPL] at hr
              simp only [List.mem_cons, List.not_mem_nil, or_false] at hr
              rcases hr with rfl | rfl | rfl | rfl | rfl | rfl | rfl | rfl
              · exact HAN1.out z (.inr hz)
              · exact HAN2.out z (.inr hz)
              · exact HAN3.out z (.inr hz)
              · exact HAN4.out z (.inr hz)
              · exact HAN1.out z (.inl hz)
              · exact HAN2.out z (.inl hz)
              · exact HAN3.out z (.inl hz)
              · exact HAN4.out z (.inl hz)
            have hlw := HLT.out.lt
            have haw0 := (Away.refl [] v7).alloc (.cells #[.slice da1 dn1 dc1, .slice da2 dn2 dc2, .slice da3 dn3 dc3, .slice da4 dn4 dc4, .slice oa1 on1 oc1, .slice oa2 on2 oc2, .slice oa3 on3 oc3, .slice oa4 on4 oc4] 26)
            have HLot : Hid (LotAt (World.alloc v7 (.cells #[.slice da1 dn1 dc1, .slice da2 dn2 dc2, .slice da3 dn3 dc3, .slice da4 dn4 dc4, .slice oa1 on1 oc1, .slice oa2 on2 oc2, .slice oa3 on3 oc3, .slice oa4 on4 oc4] 26)) (.slice (some ⟨v7.heap.size, 0, none⟩) 8 8) PL) := (HLT.out.on haw0).at (by rw [hPL]; exact World.ownsRow_lit (base := 0) (e := 26) (size := 1) v7 #[.slice da1 dn1 dc1, .slice da2 dn2 dc2, .slice da3 dn3 dc3, .slice da4 dn4 dc4, .slice oa1 on1 oc1, .slice oa2 on2 oc2, .slice oa3 on3 oc3, .slice oa4 on4 oc4] 8 (Nat.zero_le _) (by decide) rfl) hby (fun k hk r hr he => by have h1 := hlw r hr k he; simp [Value.ownBlock] at hk; omega) (by rw [hPL]; simp)
            have hin : ∀ z, z ∈ blL PL → wr.heap.size ≤ z ∧ z < wc.heap.size := fun z hz => by
              obtain ⟨r, hr, he⟩ := List.mem_filterMap.1 hz
              exact ⟨hab r hr z he, HLL.out r hr z he⟩
            have HIN := Lib.hid hin
            clear hby hab hlw hin
            have e1d := (HX1.out.cells HFA.out).d; have e1o := (HX1.out.cells HFA.out).o
            have e2d := (HX2.out.cells HFA.out).d; have e2o := (HX2.out.cells HFA.out).o
            have e3d := (HX3.out.cells HWA.out).d; have e3o := (HX3.out.cells HWA.out).o
            have e4d := (HX4.out.cells HWA.out).d; have e4o := (HX4.out.cells HWA.out).o
            clear haw0
            have HAL0 : Hid (Away [] v7 (World.alloc v7 (.cells #[.slice da1 dn1 dc1, .slice da2 dn2 dc2, .slice da3 dn3 dc3, .slice da4 dn4 dc4, .slice oa1 on1 oc1, .slice oa2 on2 oc2, .slice oa3 on3 oc3, .slice oa4 on4 oc4] 26))) := (Away.refl [] v7).alloc _
            go_wp2_with (refine wpList_build8 rfl _ _ _ _ _ _ _ _ rfl _ _ _ _ _ _ _ _ _ _ _ _ _ _ _ _ _ _ _ _ _ _ _ _ rfl rfl rfl rfl rfl rfl rfl rfl ?_; refine Hid.out ?_)
            refine Lib.hid ?_
            obtain ⟨v7b, hv7b⟩ : ∃ W, W = World.alloc v7 (.cells #[.slice da1 dn1 dc1, .slice da2 dn2 dc2, .slice da3 dn3 dc3, .slice da4 dn4 dc4, .slice oa1 on1 oc1, .slice oa2 on2 oc2, .slice oa3 on3 oc3, .slice oa4 on4 oc4] 26) := ⟨_, rfl⟩
            rw [← hv7b] at HLot HAL0 ⊢
            clear hv7b
            have K8 := Lib.hid (marked_any _ _ PL HLot.out)
            go_wp2_with (go_at_call 25; refine K8.out.mono ?_; refine Hid.out ?_)
            refine Lib.hid ?_
            first
              | rintro E v8 vl tl rfl hst hnst hawm -
              | rintro E v8 ⟨vl, tl, rfl, hst, hnst, hawm, -⟩
            have haw : Away (blL PL) v7 v8 := (HAL0.out.mono (by simp)).next hawm (fun x hx => .inl hx)
            obtain ⟨ta, tc, hvl, -⟩ := hst.1.shape
            generalize tl.length = tn at hvl
            subst hvl
            have HST := Lib.hid hst
            replace HY := Lib.hid (HY.out.away haw (fun z hz hm => by have h1 := HFP.out z hz; have h2 := HIN.out z hm; omega))
            replace HB9 := Lib.hid (HB9.out.away haw (fun hm => by have h1 := H9W.out; have h2 := HIN.out _ hm; omega))
            replace HMQ := Lib.hid (HMQ.out.away haw (fun z hz hm => by have h1 := HQB.out z hz; have h2 := HIN.out z hm; omega))
            replace HKP := Lib.hid (HKP.out.away haw (fun z hz hm => by have h1 := HKN.out z hz; have h2 := HIN.out z hm; omega))
            have HA9 : Hid (Away [] w v8) := ((HA.out.trans HA8.out)).next haw (fun z hz => .inr (by have h1 := HIN.out z hz; have h3 := HWR.out; omega))
            clear hst hnst hawm haw HLot HAL0 e1d e1o e2d e2o e3d e3o e4d e4o HX1 HX2 HX3 HX4 HM1 HM2 HM3 HM4 HLT HLL HIN HAL HA8 HAN1 HAN2 HAN3 HAN4 hPL hkz K8
            go_wp2_with (go_at_call 23; refine (KF.out _ HY.out).mono ?_; refine Hid.out ?_)
            refine Lib.hid ?_
            first
              | rintro E a5 o5 d5 rfl hmi haw
              | rintro E a5 ⟨o5, d5, rfl, hmi, haw⟩
            obtain ⟨oa5, on5, oc5, rfl⟩ := hmi.o.shp
            obtain ⟨da5, dn5, dc5, rfl⟩ := hmi.d.shp
            have HM5 := Lib.hid hmi
            replace HA9 := Lib.hid (HA9.out.trans haw)
            replace HY := Lib.hid (HY.out.on haw)
            replace HB9 := Lib.hid (HB9.out.on haw)
            replace HMQ := Lib.hid (HMQ.out.on haw)
            replace HKP := Lib.hid (HKP.out.on haw)
            replace HST := Lib.hid (HST.out.on haw)
            clear hmi haw
            go_wp2_with (refine wpList_new28 rfl rfl rfl _ _ rfl pf (.slice oa5 on5 oc5) (.slice da5 dn5 dc5) (fun g => rfl) (fun g => rfl) HFA.out rfl rfl ?_; refine Hid.out ?_)
            refine Lib.hid ?_
            intro gg5 c5 hgg hb haw
            have HX5 := Lib.hid hb
            replace HA9 := Lib.hid (HA9.out.trans haw)
            replace HY := Lib.hid (HY.out.on haw)
            replace HB9 := Lib.hid (HB9.out.on haw)
            replace HMQ := Lib.hid (HMQ.out.on haw)
            replace HKP := Lib.hid (HKP.out.on haw)
            replace HST := Lib.hid (HST.out.on haw)
            replace HM5 := Lib.hid (HM5.out.on haw)
            clear hb haw hgg
            go_wp2_with (go_at_call 15; refine (KW.out _ HY.out).mono ?_; refine Hid.out ?_)
            refine Lib.hid ?_
            first
              | rintro E a6 o6 d6 rfl hmi haw
              | rintro E a6 ⟨o6, d6, rfl, hmi, haw⟩
            obtain ⟨oa6, on6, oc6, rfl⟩ := hmi.o.shp
            obtain ⟨da6, dn6, dc6, rfl⟩ := hmi.d.shp
            have HM6 := Lib.hid hmi
            replace HA9 := Lib.hid (HA9.out.trans haw)
            replace HY := Lib.hid (HY.out.on haw)
            replace HB9 := Lib.hid (HB9.out.on haw)
            replace HMQ := Lib.hid (HMQ.out.on haw)
            replace HKP := Lib.hid (HKP.out.on haw)
            replace HST := Lib.hid (HST.out.on haw)
            replace HM5 := Lib.hid (HM5.out.on haw)
            replace HX5 := Lib.hid (HX5.out.on haw)
            clear hmi haw
            go_wp2_with (refine wpList_new28 rfl rfl rfl _ _ rfl pw (.slice oa6 on6 oc6) (.slice da6 dn6 dc6) (fun g => rfl) (fun g => rfl) HWA.out rfl rfl ?_; refine Hid.out ?_)
            refine Lib.hid ?_
            intro gg6 c6 hgg hb haw
            have HX6 := Lib.hid hb
            replace HA9 := Lib.hid (HA9.out.trans haw)
            replace HY := Lib.hid (HY.out.on haw)
            replace HB9 := Lib.hid (HB9.out.on haw)
            replace HMQ := Lib.hid (HMQ.out.on haw)
            replace HKP := Lib.hid (HKP.out.on haw)
            replace HST := Lib.hid (HST.out.on haw)
            replace HM5 := Lib.hid (HM5.out.on haw)
            replace HX5 := Lib.hid (HX5.out.on haw)
            replace HM6 := Lib.hid (HM6.out.on haw)
            clear hb haw hgg
            have KS1 : Hid (∀ W, Away [] c6 W → Calls Tryz.prog 18 #[.slice da5 dn5 dc5, .slice ka kn kc] W fun E w' => E = .returned (.bool true) ∧ Away [] c6 w') := fun W hW => by
              obtain ⟨q1, -, q3, q4⟩ := ((HM5.out.on hW).d.sl HFW.out.d HFW.out.dn).of
              obtain ⟨r1, -, r3, r4⟩ := ((HKP.out.on hW).sl HFW.out.d HFW.out.dn).of
              exact (same_yes da5 ka pf.d pf.d dn5 kn dc5 kc W q1 r1 q3 r3 q4 r4 rfl).mono (fun E w' h => ⟨h.1, by rw [h.2]; exact hW⟩)
            have KS2 : Hid (∀ W, Away [] c6 W → Calls Tryz.prog 18 #[.slice da6 dn6 dc6, .slice sa sn sc] W fun E w' => E = .returned (.bool true) ∧ Away [] c6 w') := fun W hW => by
              obtain ⟨q1, -, q3, q4⟩ := ((HM6.out.on hW).d.sl HWW.out.d HWW.out.dn).of
              obtain ⟨r1, -, r3, r4⟩ := ((HMQ.out.on hW).d.sl HQW.out.d HQW.out.dn).of
              exact (same_yes da6 sa pw.d q2.d dn6 sn dc6 sc W q1 r1 q3 r3 q4 r4 HWD.out).mono (fun E w' h => ⟨h.1, by rw [h.2]; exact hW⟩)
            have hsn : q2.d.length = sn := (HMQ.out.d.sl HQW.out.d HQW.out.dn).of.1
            have KB : Hid (∀ W, Away [] c6 W → Calls Tryz.prog 19 #[.pointer (some ⟨g, 0, none⟩)] W fun E w' => E = .returned (.int .i64 (sn : Int)) ∧ Away [] c6 w') := fun W hW => by
              have h := bytes_c (HY.out.on hW).ent
              rw [HSH.out, hsn] at h
              exact h.mono (fun E w' h => ⟨h.1, by rw [h.2]; exact hW⟩)
            have KT : Hid (∀ W, Away [] c6 W → Calls Tryz.prog 26 #[.slice ta tn tc] W fun E w' => E = .returned (.bool true) ∧ Away [] c6 w') := fun W hW =>
              (still_any W _ tl (HST.out.on hW)).mono (fun E w' h => ⟨h.1, by obtain ⟨n, rfl⟩ := h.2; exact hW.drewN n⟩)
            clear hsn
            go_upto_region 31 with fail
            refine wp_region_cls (C := fun w' => Away [] c6 w') (by kernel_rfl) (by kernel_rfl) (Away.refl _ _).drew ?_
            go_big_quiet_want; (refine quiet_val ?_ ?_ ?_; rotate_left; (intro w; go_simp; rfl); go_simp; go_big_quiet_on)
            go_big_quiet_want; refine quiet_call 26 #[.slice ta tn tc] (.bool true) ?_ KT.out ?_
            · intro w; go_simp; all_goals (with_reducible rfl)
            go_simp; go_big_quiet_on
            go_big_quiet_want; (refine quiet_val ?_ ?_ ?_; rotate_left; (intro w; go_simp; rfl); go_simp; go_big_quiet_on)
            go_big_quiet_want; (refine quiet_val ?_ ?_ ?_; rotate_left; (intro w; go_simp; rfl); go_simp; go_big_quiet_on)
            go_big_quiet_want; (refine quiet_val ?_ ?_ ?_; rotate_left; (intro w; go_simp; rfl); go_simp; go_big_quiet_on)
            go_big_quiet_want; (refine quiet_val ?_ ?_ ?_; rotate_left; (intro w; go_simp; rfl); go_simp; go_big_quiet_on)
            go_big_quiet_want; (refine quiet_val ?_ ?_ ?_; rotate_left; (intro w; go_simp; rfl); go_simp; go_big_quiet_on)
            go_big_quiet_want; (refine quiet_val ?_ ?_ ?_; rotate_left; (intro w; go_simp; rfl); go_simp; go_big_quiet_on)
            go_big_quiet_want; (refine quiet_val ?_ ?_ ?_; rotate_left; (intro w; go_simp; rfl); go_simp; go_big_quiet_on)
            go_big_quiet_want; (refine quiet_val ?_ ?_ ?_; rotate_left; (intro w; go_simp; rfl); go_simp; go_big_quiet_on)
            go_big_quiet_want; refine quiet_ld _ rfl (ad := ⟨gg5, 45, none⟩) rfl (fun w' h => ld26 ((HX5.out.on h).cells HFA.out).d) ?_; go_simp; go_big_quiet_on
            go_big_quiet_want; (refine quiet_val ?_ ?_ ?_; rotate_left; (intro w; go_simp; rfl); go_simp; go_big_quiet_on)
            go_big_quiet_want; refine quiet_call 18 #[.slice da5 dn5 dc5, .slice ka kn kc] (.bool true) ?_ KS1.out ?_
            · intro w; go_simp; all_goals (with_reducible rfl)
            go_simp; go_big_quiet_on
            go_big_quiet_want; (refine quiet_val ?_ ?_ ?_; rotate_left; (intro w; go_simp; rfl); go_simp; go_big_quiet_on)
            go_big_quiet_want; (refine quiet_val ?_ ?_ ?_; rotate_left; (intro w; go_simp; rfl); go_simp; go_big_quiet_on)
            go_big_quiet_want; (refine quiet_val ?_ ?_ ?_; rotate_left; (intro w; go_simp; rfl); go_simp; go_big_quiet_on)
            go_big_quiet_want; refine quiet_ld _ rfl (ad := ⟨gg6, 45, none⟩) rfl (fun w' h => ld26 ((HX6.out.on h).cells HWA.out).d) ?_; go_simp; go_big_quiet_on
            go_big_quiet_want; (refine quiet_val ?_ ?_ ?_; rotate_left; (intro w; go_simp; rfl); go_simp; go_big_quiet_on)
            go_big_quiet_want; refine quiet_ld _ rfl (ad := ⟨g9, 45, none⟩) rfl (fun w' h => ld26 ((HB9.out.on h).cells HQA.out).d) ?_; go_simp; go_big_quiet_on
            go_big_quiet_want; refine quiet_call 18 #[.slice da6 dn6 dc6, .slice sa sn sc] (.bool true) ?_ KS2.out ?_
            · intro w; go_simp; all_goals (with_reducible rfl)
            go_simp; go_big_quiet_on
            go_big_quiet_want; (refine quiet_val ?_ ?_ ?_; rotate_left; (intro w; go_simp; rfl); go_simp; go_big_quiet_on)
            go_big_quiet_want; (refine quiet_val ?_ ?_ ?_; rotate_left; (intro w; go_simp; rfl); go_simp; go_big_quiet_on)
            go_big_quiet_want; (refine quiet_val ?_ ?_ ?_; rotate_left; (intro w; go_simp; rfl); go_simp; go_big_quiet_on)
            go_big_quiet_want; refine quiet_call 19 #[.pointer (some ⟨g, 0, none⟩)] (.int .i64 (sn : Int)) ?_ KB.out ?_
            · intro w; go_simp; all_goals (with_reducible rfl)
            go_simp; go_big_quiet_on
            go_big_quiet_want; (refine quiet_val ?_ ?_ ?_; rotate_left; (intro w; go_simp; rfl); go_simp; go_big_quiet_on)
            go_big_quiet_want; refine quiet_ld _ rfl (ad := ⟨g9, 45, none⟩) rfl (fun w' h => ld26 ((HB9.out.on h).cells HQA.out).d) ?_; go_simp; go_big_quiet_on
            go_big_quiet_want; (refine quiet_val ?_ ?_ ?_; rotate_left; (intro w; go_simp; rfl); go_simp; go_big_quiet_on)
            go_big_quiet_want; (refine quiet_val ?_ ?_ ?_; rotate_left; (intro w; go_simp; rfl); go_simp; go_big_quiet_on)
            go_big_quiet_want; (refine quiet_val ?_ ?_ ?_; rotate_left; (intro w; go_simp; rfl); go_simp; go_big_quiet_on)
            go_big_quiet_want; (refine quiet_val ?_ ?_ ?_; rotate_left; (intro w; go_simp; rfl); go_simp; go_big_quiet_on)
            refine wpQuiet_nil ?_
            intro V hV
            go_wp2_with fail
            go_ret
            exact ⟨rfl, (HA9.out.trans hV).to_below⟩
end entryMemory
open R
namespace entryMemory
theorem contract (H : Type) (enc : TypeId × Value → H) (W : World) (base : Nat) (args : Array Value) (ds gs : List (DataW H)) (before : List MemPlace)
    (hval0 : ∀ (j : Nat) t v, Tryz.f4.params[j]? = some t → args[j]? = some v → Value.okWide Tryz.prog W .any base t v)
    (hW : DataW.Whole enc Tryz.prog Tryz.f4.params.toList Rows.entryMemorySpec.vars false W args.toList ds gs before)
    (hsz0 : (DataW.weightsEach Tryz.prog (Tryz.f4.params.toList ++ Rows.entryMemorySpec.plain.varTypes Tryz.prog) (ds ++ gs)).all (· ≤ reachBytes) = true)
    (hL : laidMetH Tryz.prog Rows.entryMemoryRow.laid W) :
    Calls Tryz.prog 4 args W fun e W' => ∃ v, e = .returned v ∧ Rows.entryMemorySpec.post enc Tryz.prog Tryz.f4 false true false false W args v W' := by
  have hval := hval0
  have hsz := hsz0
  have hW' := hW
  obtain ⟨p, q, hA0, hV, rfl, hfz, hnd⟩ := hW
  have hA : DataW.TrodAll enc Tryz.prog W 0 (fun _ => true) true Tryz.f4.params.toList args.toList ds p := hA0
  rw [Tryz.params4] at hA hval hsz
  obtain ⟨v0, vs0, d0, ds0, p0, q0, hargs, rfl, rfl, h0, r0⟩ := trodAll_cons hA
  obtain ⟨v1, vs1, d1, ds1, p1, q1, rfl, rfl, rfl, h1, r1⟩ := trodAll_cons r0
  obtain ⟨rfl, rfl, rfl⟩ := trodAll_nil r1
  obtain rfl : args = #[v0, v1] := by cases args; simp_all
  obtain ⟨rfl, rfl⟩ := trodVars_none hV
  have k0 := h0
  have lt0 : ∀ x ∈ p0, x.block < W.heap.size := by obtain ⟨m, hm⟩ := k0; exact DataW.trod_lt m _ _ _ hm
  have z0 : ∀ m ∈ d0.weights Tryz.prog 28, m ≤ reachBytes := fun m hm => by
    have := List.all_eq_true.1 hsz m (DataW.weights_mem_each (j := 0) (t := 28) rfl rfl m hm)
    simpa using this
  obtain ⟨x0, ov0, dv0, rfl, w0, ol0, dl0⟩ := open_pkt (hval 0 28 v0 rfl rfl) h0 z0
  obtain ⟨a1, rfl, rfl, rfl, w1⟩ := open_int Tryz.underlying3 (hval 1 3 v1 rfl rfl) h1
  clear hA0 hval0
  refine (walk x0 ov0 dv0 a1 W (glob_of hL) w0 ol0 dl0 w1).mono fun e W' ⟨he, bel⟩ => ?_
  subst he
  exact ⟨_, rfl, _, _, _, [], _, [], hW', trodAll_mk1 (shut_bool Tryz.underlying4 _), (trodAll_cons_mk (Below.trod laidOut (by kernel_rfl) (of_decide_eq_true (by kernel_rfl)) k0 bel lt0) (trodAll_cons_mk (shut_int Tryz.underlying3 w1) trodAll_mk0)), rfl, bel.frame _, fun h => by cases h⟩
theorem laid_met (os : Os) : laidMet Tryz.prog Rows.entryMemoryRow.laid ((laidWorld Tryz.prog os).forCall (fun _ _ => 0) ⟨#[], #[.agg (csP zeroPk (.slice none 0 0) (.slice none 0 0)), .int .i64 0], []⟩).memory :=
  laidMet_of_run' 8 (by kernel_rfl) (by kernel_rfl)
theorem reads (os : Os) {H : Type} (enc : TypeId × Value → H) : ∃ places, DataW.whole enc Tryz.prog ((laidWorld Tryz.prog os).forCall (fun _ _ => 0) ⟨#[], #[.agg (csP zeroPk (.slice none 0 0) (.slice none 0 0)), .int .i64 0], []⟩).memory Tryz.f4.params.toList Rows.entryMemorySpec.vars false #[.agg (csP zeroPk (.slice none 0 0) (.slice none 0 0)), .int .i64 0].toList 8 = some ([.agg [.lit (.int .i64 0), .lit (.int .i64 0), .lit (.int .i64 0), .agg [.lit (.int .i64 0), .agg [.lit (.int .u8 0), .lit (.int .u8 0), .lit (.int .u8 0), .lit (.int .u8 0), .lit (.int .u8 0), .lit (.int .u8 0), .lit (.int .u8 0), .lit (.int .u8 0), .lit (.int .u8 0), .lit (.int .u8 0), .lit (.int .u8 0), .lit (.int .u8 0), .lit (.int .u8 0), .lit (.int .u8 0), .lit (.int .u8 0), .lit (.int .u8 0)]], .agg [.lit (.int .i64 0), .agg [.lit (.int .u8 0), .lit (.int .u8 0), .lit (.int .u8 0), .lit (.int .u8 0), .lit (.int .u8 0), .lit (.int .u8 0), .lit (.int .u8 0), .lit (.int .u8 0), .lit (.int .u8 0), .lit (.int .u8 0), .lit (.int .u8 0), .lit (.int .u8 0), .lit (.int .u8 0), .lit (.int .u8 0), .lit (.int .u8 0), .lit (.int .u8 0)]], .lit (.int .i64 0), .lit (.int .i64 0), .lit (.int .u32 0), .lit (.bool false), .lit (.bool false), .lit (.bool false), .lit (.int .i64 0), .nil, .nil], .lit (.int .i64 0)], [], places) :=
  ⟨[], by kernel_rfl⟩
theorem lifted (os : Os) (started : os.Started) (H : Type) (enc : TypeId × Value → H) (F : Stop.Interp) :
    ReturnsInHanded {} Tryz.checked os 4 .any ((OpenSpec.ofChange Rows.entryMemorySpec).preRow enc Tryz.prog Tryz.f4 Rows.entryMemoryRow.domain false Rows.entryMemoryRow.laid) (((OpenSpec.ofChange Rows.entryMemorySpec).at F).post enc Tryz.prog Tryz.f4 false true false false) := by
  obtain ⟨places, hx⟩ := reads os enc
  refine returnsInHanded_of_row (C := Tryz.checked) (s := OpenSpec.ofChange Rows.entryMemorySpec) ownKn started (by kernel_rfl) Tryz.func4
    (witness_row_at (enc := enc) (C := Tryz.checked) false (laidWorld Tryz.prog os) #[.agg (csP zeroPk (.slice none 0 0) (.slice none 0 0)), .int .i64 0] rfl (by kernel_rfl) (by kernel_rfl) (by kernel_rfl)
      (OpenSpec.preRow_of_cond 8 hx (by kernel_rfl) (fun k hk => by cases hk) (by kernel_rfl) (laid_met os))) ?_
  intro W base args ds gs before hval hW _ hcond hsz hL hS _
  exact contract H enc W base args ds gs before hval hW hsz hL
theorem said : Rows.EntryMemorySaid :=
  OpenClaim.holds_of_cond 4 Tryz.f4 rfl rfl rfl rfl rfl rfl rfl ⟨rfl, rfl, rfl, rfl, rfl⟩ rfl rfl rfl rfl rfl (by kernel_rfl) Tryz.func4 (by kernel_rfl)
    (of_decide_eq_true (by kernel_rfl)) (by unfold Func.isWrapper; first | (rw [if_pos (by decide +kernel)]; kernel_rfl) | (rw [if_neg (by decide +kernel)]; exact ⟨rfl, rfl⟩))
    (fun os started H enc _ F => by rw [OpenClaim.pre_eq_preRow]; exact lifted os started H enc F)
theorem plain (f : FuncId) (fn : Func) (hf : Tryz.pinned.checked.prog.funcNamed "mosaic/mosaiclaw14.EntryMemory" = some f) (hfn : Tryz.pinned.checked.prog.funcs[f]? = some fn) :
    false = Tryz.pinned.checked.prog.looks [] ∧ ∀ (j : Nat) t, fn.params[j]? = some t → Tryz.pinned.checked.prog.wantsStandIn t = false := by
  obtain rfl : f = 4 := Option.some.inj ((show Tryz.prog.funcNamed "mosaic/mosaiclaw14.EntryMemory" = some 4 by kernel_rfl).symm.trans hf) |>.symm
  obtain rfl : fn = Tryz.f4 := (Option.some.inj (Tryz.func4.symm.trans hfn)).symm
  refine ⟨by kernel_rfl, fun j t ht => ?_⟩
  rw [Tryz.params4] at ht
  have hm := Array.mem_of_getElem? ht
  simp only [List.mem_toArray, List.mem_cons, List.not_mem_nil, or_false] at hm
  have hw0 : Tryz.prog.wantsStandIn 28 = false := by kernel_rfl
  have hw1 : Tryz.prog.wantsStandIn 3 = false := by kernel_rfl
  rcases hm with rfl | rfl
  all_goals first | exact hw0 | exact hw1
theorem card : Rows.EntryMemoryCardSaid :=
  Claim7.holds_tied_plain_at .later [] _ _ _ _ said (fun _ h => by cases h) (by kernel_rfl) (fun _ h => by cases h) entryMemory_row_tie rfl ⟨rfl, rfl⟩ (by kernel_rfl) rfl plain (by kernel_rfl)
end entryMemory
theorem entryMemory_holds : Rows.EntryMemoryCardSaid := entryMemory.card
#print axioms entryMemory_holds
end Go.Proofs.YtbkeilboneaejaaGreatDoor
