/-
  The document: Is.
-/
import Derived.Test.YtaicckenpplceabGreatDoorDp11
import Derived.Test.YtaicckenpplceabGreatDoorDh
import Derived.Test.YtaicckenpplceabGreatDoorDyZ
import Derived.Test.YtaicckenpplceabGreatDoorPlZ
import Derived.Test.YtaicckenpplceabGreatDoorQ32
import Derived.Deep.CutBlock
import Derived.Deep.DeepCutAuto
namespace Go.Proofs.YtaicckenpplceabGreatDoor
open Go.ChangeShapes Go.WideShapes Go.ChangeAt Go.RowKit Num
open S6 (wp_region_cls quiet_val quiet_call quiet_ld ld3 ld4 ld5 ld25 ld26 load28_run load24m_run)
set_option linter.unusedVariables false
set_option linter.unusedSimpArgs false
set_option maxHeartbeats 16000000
set_option maxRecDepth 100000

theorem listP_d {p : Pk} (h : Ad p) (ov dv : Value) : (listP p ov dv)[45]? = some dv := by
  obtain ⟨v, tos, flow, sv, sb, dv', db, proto, ttl, id, df, more, frag, off, o, d⟩ := p
  obtain ⟨h1, h2⟩ := h
  simp only at h1 h2
  obtain ⟨b0, b1, b2, b3, b4, b5, b6, b7, b8, b9, b10, b11, b12, b13, b14, b15, rfl⟩ := list16 h1
  obtain ⟨c0, c1, c2, c3, c4, c5, c6, c7, c8, c9, c10, c11, c12, c13, c14, c15, rfl⟩ := list16 h2
  rfl
namespace R
theorem right_bd' {p : Pk} (h : rgtP p = true) : 0 ≤ p.off ∧ p.off ≤ 65528 ∧ p.d.length ≤ 65535 := by
  unfold rgtP at h
  by_cases hv : p.v = 6
  · rw [if_pos hv, S6.right_iff] at h
    have := h.reach; have h0 := h.o0; have h1 := h.o1
    exact ⟨h0, h1, by omega⟩
  · rw [if_neg hv, right_iff] at h
    have := h.1.reach; have h0 := h.1.o0; have h1 := h.1.o1
    exact ⟨h0, h1, by omega⟩
theorem hdD_right' {p : Pk} (h : rgtP p = true) : hdD p + (p.d.length : Int) = longP p := by
  rw [long_of h]
  unfold hdD topP S6.hofP
  by_cases hv : p.v = 6
  · rw [if_neg (by omega), if_pos hv]
    cases p.frag <;> simp
  · rw [if_pos (v4 h hv), if_neg hv]; push_cast; omega
theorem mtu4' (m : Int) : mtuP m 4 = (decide (68 ≤ m) && decide (m ≤ 65535)) := by unfold mtuP; rw [if_neg (by decide)]
theorem pcR_wf {p : Pk} (h : rgtP p = true) (hw : Wf p) {o : List Int} (ho : Bytes o) (hol : o.length ≤ 140737488355328) (n t : Nat) (ht : t ≤ p.d.length) (hn : n ≤ t) (b : Bool) : Wf (pcR p o n t b) := by
  have hb := right_bd' h
  exact ⟨hw.v, hw.tos, hw.flow, hw.sv, hw.sl, hw.sb, hw.dv, hw.dl, hw.db, hw.proto, hw.ttl, hw.id0, hw.id1, ⟨by show (-9223372036854775808 : Int) ≤ p.off + n; omega, by show p.off + (n : Int) ≤ 9223372036854775807; omega⟩, ho, hol, (hw.d.drop n).take (t - n), by show ((p.d.drop n).take (t - n)).length ≤ _; rw [List.length_take, List.length_drop]; omega⟩
theorem oD_ok {p : Pk} (hw : Wf p) (n : Nat) : Bytes (oD p n) ∧ (oD p n).length ≤ 140737488355328 := by
  unfold oD; split
  · exact ⟨hw.o, hw.ol⟩
  · have h := carry_valid hw.o
    exact ⟨h.2.2.1, by have := (valid_len h.1).1; omega⟩
theorem loop_step {p q : Pk} {m : Int} {o : List Int} {n : Nat} {R : List Pk} {z b : Bool} (hb : b = (!R.isEmpty || p.more)) (h : loopD p m o n (q :: R) = z) :
    (¬ n + q.d.length ≤ p.d.length → z = false) ∧ (dP q (pcR p o n (n + q.d.length) b) = false → z = false) ∧ (rgtP (pcR p o n (n + q.d.length) b) = false → z = false) ∧ (¬ longP (pcR p o n (n + q.d.length) b) ≤ m → z = false) ∧
      (n + q.d.length ≤ p.d.length → dP q (pcR p o n (n + q.d.length) b) = true → rgtP (pcR p o n (n + q.d.length) b) = true → longP (pcR p o n (n + q.d.length) b) ≤ m → loopD p m (carryP p.o) (n + q.d.length) R = z) := by
  subst h; subst hb
  rw [loopD]
  refine ⟨fun h => ?_, fun h => ?_, fun h => ?_, fun h => ?_, fun h1 h2 h3 h4 => ?_⟩
  · rw [decide_eq_false h]; simp
  · rw [h]; simp
  · rw [h]; simp
  · rw [decide_eq_false h]; simp
  · rw [decide_eq_true h1, h2, h3, decide_eq_true h4]; simp
theorem dis_c (p : Pk) (ov dv : Value) (m : Int) (a : Option Addr) (xs : List X) (N cap : Nat) (w : World) (hlen : xs.length = N) (hp : Pkt w p ov dv) (hx : Pks w a xs) :
    Calls Tryz.prog 12 #[.agg (csP p ov dv), .int .i64 m, .slice a N cap] w fun E w' => E = .returned (.bool (isD p m (xs.map X.p))) ∧ Away [] w w' := by
  have HAD := Lib.hid hp.wf.ad
  have HP := Lib.hid hp
  have HW := Lib.hid hp.wf
  have HX := Lib.hid hx
  have HL := Lib.hid hlen
  have hNb : N ≤ 925904528640 := by rw [← hlen]; exact hx.1
  have KR : Hid (∀ w', Away [] w w' → Calls Tryz.prog 17 #[.agg (csP p ov dv)] w' fun E w'' => E = .returned (.bool (rgtP p)) ∧ Away [] w' w'') := fun w' h => dright_c p ov dv w' (hp.on h)
  have HSO : Hid (Sl w ov p.o) := hp.o
  obtain ⟨-, ⟨oa, oc, rfl, x1, x2, x3⟩, ⟨da, dc, rfl, -, -, -⟩⟩ := hp
  have KC : Hid (∀ W, Away [] w W → Calls Tryz.prog 20 #[.slice oa p.o.length oc] W fun E w' => S4.BytesOut W (carryP p.o) E w') := fun W h => S4.rcarry_c oa p.o _ oc W rfl x1 (x3.away h (by simp))
  obtain ⟨z, hz⟩ : ∃ z, z = isD p m (xs.map X.p) := ⟨_, rfl⟩
  rw [← hz]
  have HZ := Lib.hid hz
  clear hx hlen hz x1 x2 x3
  go_enter Tryz.func12, Tryz.ntmps12
  go_wp2_with (refine wpList_box28 rfl _ rfl p _ _ rfl ?_; refine Hid.out ?_)
  refine Lib.hid ?_
  intro g w1 hg1 hb haw
  have HA : Hid (Away [] w w1) := haw
  have HB : Hid (BoxP w1 g p (.slice oa p.o.length oc) (.slice da p.d.length dc)) := hb
  clear hb haw hg1
  go_wp2_with (refine wpList_load28 rfl _ rfl g rfl p _ _ (by exact HB.out) HAD.out ?_)
  refine (KR.out _ HA.out).mono ?_
  rintro E w2 ⟨rfl, haw⟩
  replace HB := Lib.hid (HB.out.on haw)
  replace HA := Lib.hid (HA.out.trans haw)
  clear haw KR
  obtain ⟨br, hbr⟩ : ∃ b, b = rgtP p := ⟨_, rfl⟩
  have HBR := Lib.hid hbr
  rw [← hbr]
  clear hbr
  have HZF : Hid ((rgtP p = false ∨ mtuP m 4 = false ∨ N = 0) → z = false) := fun h => by
    have hl := HL.out
    rw [HZ.out]
    rcases xs with _ | ⟨x, _ | ⟨y, r⟩⟩
    · rfl
    · show (rgtP p && mtuP m 4 && _) = false
      rcases h with h | h | h
      · rw [h]; simp
      · rw [h]; simp
      · simp at hl; omega
    · show (rgtP p && mtuP m 4 && _) = false
      rcases h with h | h | h
      · rw [h]; simp
      · rw [h]; simp
      · simp at hl; omega
  cases br
  · obtain rfl : z = false := HZF.out (.inl HBR.out.symm)
    go_wp2_with fail
    go_ret
    exact ⟨rfl, HA.out⟩
  have HR : Hid (rgtP p = true) := HBR.out.symm
  by_cases h68 : m < 68
  · obtain rfl : z = false := HZF.out (.inr (.inl (by rw [mtu4', show decide (68 ≤ m) = false by simp; omega]; simp)))
    go_wp2_with fail
    go_ret
    exact ⟨rfl, HA.out⟩
  by_cases h65 : 65535 < m
  · obtain rfl : z = false := HZF.out (.inr (.inl (by rw [mtu4', show decide (m ≤ 65535) = false by simp; omega]; simp)))
    go_wp2_with fail
    go_ret
    exact ⟨rfl, HA.out⟩
  have HMT : Hid (mtuP m 4 = true) := by
    show _ = _
    rw [mtu4', show decide (68 ≤ m) = true by simp; omega, show decide (m ≤ 65535) = true by simp; omega]; rfl
  have HBD := Lib.hid (right_bd' HR.out)
  have hlen := HBD.out.2.2
  match xs, HX, HL, HZ, HZF with
  | [], HX, HL, HZ, HZF =>
    obtain rfl : N = 0 := HL.out.symm
    obtain rfl : z = false := HZF.out (.inr (.inr rfl))
    go_wp2_with fail
    go_ret
    exact ⟨rfl, HA.out⟩
  | [x], HX, HL, HZ, HZF =>
    obtain rfl : N = 1 := HL.out.symm
    obtain ⟨b1, o1, ha1, r1, k1⟩ := HX.out.at (i := 0) (x := x) rfl
    subst ha1
    obtain ⟨q, xo, xd⟩ := x
    have HQA := Lib.hid k1.wf.ad
    have hz : z = (dP q p && decide (longP p ≤ m)) := by
      rw [HZ.out]; show (rgtP p && mtuP m 4 && _) = _; rw [HR.out, HMT.out]; rfl
    have K52 : Hid (∀ w', Away [] w2 w' → Calls Tryz.prog 23 #[.agg (csP q xo xd), .agg (csP p (.slice oa p.o.length oc) (.slice da p.d.length dc))] w' fun E w'' => E = .returned (.bool (dP q p)) ∧ Away [] w2 w'') := fun w' h => (dsameP_c q p xo xd _ _ w' (Pkt.on k1 (HA.out.trans h)) (HP.out.on (HA.out.trans h))).mono (by rintro E w5 ⟨rfl, h2⟩; exact ⟨rfl, h.trans h2⟩)
    have KL2 : Hid (∀ w', Away [] w2 w' → Calls Tryz.prog 18 #[.agg (csP p (.slice oa p.o.length oc) (.slice da p.d.length dc))] w' fun E w'' => E = .returned (.int .i64 (hdD p + p.d.length)) ∧ Away [] w2 w'') := fun w' h => (rlen_c p _ _ w' (HP.out.on (HA.out.trans h)) HW.out.ol HW.out.dn).mono (by rintro E w5 ⟨rfl, h2⟩; exact ⟨rfl, h.trans h2⟩)
    have R1 : Hid (∀ w', Away [] w2 w' → w'.rangeAt b1 o1 (listP q xo xd)) := fun w' h => by
      have := range_away (HA.out.trans h) (by simp) r1
      simpa [X.cells] using this
    rw [hdD_right' HR.out] at KL2
    obtain ⟨T, hT⟩ : ∃ T, T = longP p := ⟨_, rfl⟩
    rw [← hT] at KL2 hz
    obtain ⟨bs, hbs⟩ : ∃ b, b = dP q p := ⟨_, rfl⟩
    rw [← hbs] at K52 hz
    have HZZ := Lib.hid hz
    clear hz hT hbs r1 k1 HZ HZF
    have HCC : Hid (Away [] w2 w2.drew) := (Away.refl [] w2).drew
    cases bs
    · have hz := HZZ.out
      simp only [Bool.false_and] at hz
      subst hz
      go_wp2_with fail
      refine wp_region_cls (C := (fun w' => Away [] w2 w')) (by kernel_rfl) (by kernel_rfl) (by exact HCC.out) ?_
      repeat (first
        | go_big_quiet_skip
        | (go_big_quiet_want
           first
             | (refine quiet_call 23 #[.agg (csP q xo xd), .agg (csP p (.slice oa p.o.length oc) (.slice da p.d.length dc))] (.bool false) ?_ K52.out ?_; (focus (intro w; go_simp; done)); go_simp; go_big_quiet_on)
             | (refine quiet_call 18 #[.agg (csP p (.slice oa p.o.length oc) (.slice da p.d.length dc))] (.int .i64 T) ?_ KL2.out ?_; (focus (intro w; go_simp; done)); go_simp; go_big_quiet_on)
             | (refine quiet_ix32 _ _ rfl b1 o1 1 cap 0 _ rfl rfl rfl (by omega) ?_; go_simp; go_big_quiet_on)
             | (refine quiet_ld _ rfl (ad := ⟨b1, o1, none⟩) rfl (fun w' h => load28m_run (R1.out w' h) HQA.out) ?_; go_simp; go_big_quiet_on)
             | (refine quiet_ld _ rfl (ad := ⟨g, 0, none⟩) rfl (fun w' h => load28_run (HB.out.on h) HAD.out) ?_; go_simp; go_big_quiet_on)
             | (go_big_quiet_op; go_big_quiet_on)
             | (refine quiet_val ?_ ?_ ?_
                rotate_left
                · intro w; go_simp; rfl
                go_simp; go_big_quiet_on)))
      refine wpQuiet_nil ?_
      intro V hV
      have HV := Lib.hid hV
      clear hV
      go_wp2_with fail
      go_ret
      exact ⟨rfl, HA.out.trans HV.out⟩
    · have hz := HZZ.out
      simp only [Bool.true_and] at hz
      subst hz
      go_wp2_with fail
      refine wp_region_cls (C := (fun w' => Away [] w2 w')) (by kernel_rfl) (by kernel_rfl) (by exact HCC.out) ?_
      repeat (first
        | go_big_quiet_skip
        | (go_big_quiet_want
           first
             | (refine quiet_call 23 #[.agg (csP q xo xd), .agg (csP p (.slice oa p.o.length oc) (.slice da p.d.length dc))] (.bool true) ?_ K52.out ?_; (focus (intro w; go_simp; done)); go_simp; go_big_quiet_on)
             | (refine quiet_call 18 #[.agg (csP p (.slice oa p.o.length oc) (.slice da p.d.length dc))] (.int .i64 T) ?_ KL2.out ?_; (focus (intro w; go_simp; done)); go_simp; go_big_quiet_on)
             | (refine quiet_ix32 _ _ rfl b1 o1 1 cap 0 _ rfl rfl rfl (by omega) ?_; go_simp; go_big_quiet_on)
             | (refine quiet_ld _ rfl (ad := ⟨b1, o1, none⟩) rfl (fun w' h => load28m_run (R1.out w' h) HQA.out) ?_; go_simp; go_big_quiet_on)
             | (refine quiet_ld _ rfl (ad := ⟨g, 0, none⟩) rfl (fun w' h => load28_run (HB.out.on h) HAD.out) ?_; go_simp; go_big_quiet_on)
             | (go_big_quiet_op; go_big_quiet_on)
             | (refine quiet_val ?_ ?_ ?_
                rotate_left
                · intro w; go_simp; rfl
                go_simp; go_big_quiet_on)))
      refine wpQuiet_nil ?_
      intro V hV
      have HV := Lib.hid hV
      clear hV
      go_wp2_with fail
      go_ret
      exact ⟨rfl, HA.out.trans HV.out⟩
  | x0 :: x1 :: xr, HX, HL, HZ, HZF =>
    obtain ⟨b0, o0, ha0, r0, k0⟩ := HX.out.at (i := 0) (x := x0) rfl
    subst ha0
    obtain ⟨xs, hxs⟩ : ∃ xs, xs = x0 :: x1 :: xr := ⟨_, rfl⟩
    have HZ3 : Hid (z = (decide (p.v = 4) && !p.df && loopD p m p.o 0 (xs.map X.p))) := by
      show _ = _; rw [HZ.out, hxs]; show (rgtP p && mtuP m 4 && _) = _; rw [HR.out, HMT.out]; rfl
    rw [← hxs] at HX HL
    have hN2 : 2 ≤ N := by rw [← HL.out, hxs]; simp
    clear HZ HZF hxs r0 k0
    have e0 : ¬ ((N : Int) = 0) := by omega
    have e1 : ¬ ((N : Int) = 1) := by omega
    have e0b : ((N : Int) == 0) = false := by rw [beq_eq_false_iff_ne]; omega
    have e1b : ((N : Int) == 1) = false := by rw [beq_eq_false_iff_ne]; omega
    have c0 := (HB.out.cells HAD.out).v
    have c40 := (HB.out.cells HAD.out).df
    by_cases hv : p.v = 4
    rotate_left
    · obtain rfl : z = false := by rw [HZ3.out, decide_eq_false hv]; rfl
      have ev : (p.v == 4) = false := by simpa using hv
      have ev2 : (p.v != 4) = true := by simpa [bne_iff_ne] using hv
      generalize p.v = pv at *
      go_wp2_with fail
      go_ret
      exact ⟨rfl, HA.out⟩
    have HV4 := Lib.hid hv
    rw [hv] at c0
    clear hv
    obtain ⟨df, hdf⟩ : ∃ z, z = p.df := ⟨_, rfl⟩
    rw [← hdf] at c40
    have HDF := Lib.hid hdf
    clear hdf
    cases df
    rotate_left
    · obtain rfl : z = false := by rw [HZ3.out, ← HDF.out]; simp
      go_wp2_with fail
      go_ret
      exact ⟨rfl, HA.out⟩
    have HZ4 : Hid (loopD p m (oD p 0) 0 (xs.map X.p) = z) := by
      show _ = _
      have h := HZ3.out
      rw [decide_eq_true HV4.out, ← HDF.out] at h
      unfold oD; rw [if_pos rfl]
      simpa using h.symm
    have KP : Hid (∀ (W : World) (i : Nat) (oo : Value) (n t : Nat) (b : Bool), Away [] w W → Sl W oo (oD p i) → n ≤ t → t ≤ p.d.length → Calls Tryz.prog 19 #[.agg (csP p (.slice oa p.o.length oc) (.slice da p.d.length dc)), oo, .int .i64 (n : Int), .int .i64 (t : Int), .bool b] W fun E w' => ∃ ou du, E = .returned (.agg (csP (pcR p (oD p i) n t b) ou du)) ∧ Mine w' W.heap.size (pcR p (oD p i) n t b) ou du ∧ Away [] W w') := fun W i oo n t b h hs hnt ht => dpiece_c p _ _ (oD p i) oo n t b W (HP.out.on h) hs hnt ht HBD.out.2.2 HBD.out.1 HBD.out.2.1
    have HFR : Hid (∀ (i n t : Nat) (b : Bool), n ≤ t → t ≤ p.d.length → Wf (pcR p (oD p i) n t b)) := fun i n t b hnt ht => pcR_wf HR.out HW.out (oD_ok HW.out i).1 (oD_ok HW.out i).2 n t ht hnt b
    obtain ⟨ln, hln⟩ : ∃ l, l = p.d.length := ⟨_, rfl⟩
    have HLN := Lib.hid hln
    rw [← hln] at hlen HFR KP HB
    clear hln HZ3
    have c44 := (HB.out.cells HAD.out).o
    go_wp2_with fail
    go_loopw [7, 8, 9] (fun lo av iv wr => ∃ (i n : Nat), av = .int .i64 (n : Int) ∧ iv = .int .i64 (i : Int) ∧ i ≤ N ∧ n ≤ ln ∧ Sl wr lo (oD p i) ∧ loopD p m (oD p i) n ((xs.map X.p).drop i) = z ∧ Away [] w2 wr) (fun _ _ iv _ => N - (intOf iv).toNat)
    case atStart => exact ⟨0, 0, rfl, rfl, by omega, by omega, by have := HSO.out.on HA.out; unfold oD; rw [if_pos rfl]; exact this, by simpa using HZ4.out, Away.refl _ _⟩
    case round =>
      clear HZ4 c40 c44
      obtain ⟨i, n, rfl, rfl, hi, hn, hso, hdoc, haw⟩ := hrel
      have HAW := Lib.hid haw
      have HDOC := Lib.hid hdoc
      have HSOR := Lib.hid hso
      have HBk := Lib.hid (HB.out.on haw)
      clear hdoc haw
      obtain ⟨xa, xc, hoe, -, -, -⟩ := hso
      subst hoe
      obtain ⟨lo, hloe⟩ : ∃ z, z = (oD p i).length := ⟨_, rfl⟩
      rw [← hloe] at HSOR ⊢
      clear hloe
      have c45 := (HBk.out.cells HAD.out).d
      by_cases hiN : i < N
      · obtain ⟨x, hxi, hxm⟩ := get_of (show i < xs.length by rw [HL.out]; exact hiN)
        obtain ⟨b1, o1, ha1, r1, k1⟩ := HX.out.at hxi
        obtain ⟨rfl, rfl⟩ : b0 = b1 ∧ o0 = o1 := by simp only [Option.some.injEq, Addr.mk.injEq, and_true] at ha1; exact ha1
        have hdr : (xs.map X.p).drop i = x.p :: (xs.map X.p).drop (i + 1) := by
          rw [List.drop_eq_getElem_cons (by simp [HL.out, hiN])]
          have h1 := lt_of_get hxi
          have h2 : xs[i] = x := by have h3 := hxi; rw [List.getElem?_eq_getElem h1] at h3; simpa using h3
          simp [h2]
        have hre : (!((xs.map X.p).drop (i + 1)).isEmpty) = decide (i + 1 < N) := by
          have hlx : ((xs.map X.p).drop (i + 1)).length = N - (i + 1) := by rw [List.length_drop, List.length_map, HL.out]
          cases hcs : (xs.map X.p).drop (i + 1) with
          | nil => rw [hcs] at hlx; simp only [List.isEmpty_nil, Bool.not_true]; symm; rw [decide_eq_false_iff_not]; simp only [List.length_nil] at hlx; omega
          | cons y ys => rw [hcs] at hlx; simp only [List.isEmpty_cons, Bool.not_false]; symm; rw [decide_eq_true_eq]; simp only [List.length_cons] at hlx; omega
        obtain ⟨q, xo, xd⟩ := x
        obtain ⟨b, hbe⟩ : ∃ b, b = (decide (i + 1 < N) || p.more) := ⟨_, rfl⟩
        have HBE := Lib.hid hbe
        have HDS := Lib.hid (loop_step (p := p) (q := q) (m := m) (o := oD p i) (n := n) (R := (xs.map X.p).drop (i + 1)) (z := z) (b := b) (by rw [hre]; exact hbe) (by have h5 := HDOC.out; rw [hdr] at h5; exact h5))
        try simp only at HDS
        rw [← HLN.out] at HDS
        have HQW := Lib.hid k1.wf
        have HQA := Lib.hid k1.wf.ad
        have HQP : Hid (Pkt w q xo xd) := k1
        have HR0 : Hid (w.rangeAt b0 (o0 + i * 46) (listP q xo xd)) := r1
        obtain ⟨-, -, ⟨qa, qc, hqd, -, -, -⟩⟩ := k1
        simp only at hqd
        obtain ⟨qn, hqn⟩ : ∃ n, n = q.d.length := ⟨_, rfl⟩
        have hqb : qn ≤ 140737488355328 := by rw [hqn]; exact HQW.out.dn
        rw [← hqn] at HDS hqd
        have HQN := Lib.hid hqn
        have cq : wr.cell? ⟨b0, o0 + i * 46 + 45, none⟩ = some (.slice qa qn qc) := by
          have h1 := (HA.out.trans HAW.out).cell (by simp) (r1 45 _ (listP_d HQA.out xo xd))
          rw [hqd] at h1; exact h1
        have j0 : 0 ≤ (i : Int) := by omega
        have j1 : (i : Int) < (N : Int) := by omega
        have j2 : ((i : Int)).toNat = i := by omega
        have j3 : decide (i < N) = true := by simp; omega
        clear hqn hdr hre hxi hxm r1 ha1 hqd HDOC hbe
        by_cases hle : n + qn ≤ ln
        rotate_left
        · have hz : z = false := HDS.out.1 (hle)
          subst hz
          have g1 : ((ln : Int) < (n : Int) + (qn : Int)) := by omega
          go_wp2_with fail
          go_ret
          exact ⟨rfl, HA.out.trans HAW.out⟩
        have g1 : ¬ ((ln : Int) < (n : Int) + (qn : Int)) := by omega
        obtain ⟨TO, hTO⟩ : ∃ t, t = n + qn := ⟨_, rfl⟩
        have hto : (n : Int) + (qn : Int) = (TO : Int) := by omega
        have HTO := Lib.hid hTO
        rw [← hTO] at HDS
        have hTl : TO ≤ ln := by omega
        have hTn : n ≤ TO := by omega
        have g1' : ¬ ((ln : Int) < (TO : Int)) := by omega
        have HWQ := Lib.hid (HFR.out i n TO b hTn hTl)
        have KP1 := Lib.hid (KP.out wr i (.slice xa lo xc) n TO b (HA.out.trans HAW.out) HSOR.out hTn hTl)
        clear hTO HSOR
        have c41 := (HBk.out.cells HAD.out).more
        obtain ⟨pm, hpm⟩ : ∃ z, z = p.more := ⟨_, rfl⟩
        rw [← hpm] at c41 HBE
        clear hpm
        obtain ⟨bl, hbl⟩ : ∃ z, z = !decide (i + 1 < N) := ⟨_, rfl⟩
        have hl1 : ((i : Int) == (N : Int) - 1) = bl := by
          rw [hbl]
          by_cases hlast : i + 1 < N
          · rw [decide_eq_true hlast, beq_eq_false_iff_ne.2 (by omega)]; rfl
          · rw [decide_eq_false hlast, beq_iff_eq.2 (by omega)]; rfl
        have HBE2 : Hid (b = (!bl || pm)) := by show _ = _; rw [HBE.out, hbl]; simp
        clear hbl HBE
        go_upto_region 16 with fail
        go_cut [12] (fun v wc => ∃ g10 ou du, v = .pointer (some ⟨g10, 0, none⟩) ∧ BoxP wc g10 (pcR p (oD p i) n TO b) ou du ∧ Pkt wc (pcR p (oD p i) n TO b) ou du ∧ Away [] wr wc)
        case first =>
          clear hl1
          cases bl
          · obtain rfl : b = true := by rw [HBE2.out]; rfl
            go_wp2_with (first
              | (refine wpList_load28 rfl _ rfl g rfl p _ _ (by exact HBk.out) HAD.out ?_)
              | (go_at_call 19; refine KP1.out.mono ?_; refine Hid.out ?_))
            refine Lib.hid ?_
            first
              | rintro E y1 ou du rfl hmi haw
              | rintro E y1 ⟨ou, du, rfl, hmi, haw⟩
            have hmo := hmi.o.one; have hmd := hmi.d.one
            have HMI := Lib.hid hmi
            have HS1 := Lib.hid haw
            clear hmi haw
            go_wp2_with (refine wpList_new28 rfl rfl rfl _ _ rfl (pcR p (oD p i) n TO true) ou du (fun _ => rfl) (fun _ => rfl) HWQ.out.ad hmo hmd ?_; refine Hid.out ?_)
            refine Lib.hid ?_
            intro g10 y2 hg10 hb2 haw
            have HBW := Lib.hid hb2
            have HPW : Hid (Pkt y2 (pcR p (oD p i) n TO true) ou du) := (HMI.out.on haw).pkt HWQ.out
            have HS2 := Lib.hid (HS1.out.trans haw)
            clear hb2 haw hg10
            go_wp2_with fail
            go_meet
            exact ⟨g10, ou, du, rfl, HBW.out, HPW.out, HS2.out⟩
          · obtain rfl : b = pm := by rw [HBE2.out]; rfl
            go_wp2_with (first
              | (refine wpList_load28 rfl _ rfl g rfl p _ _ (by exact HBk.out) HAD.out ?_)
              | (go_at_call 19; refine KP1.out.mono ?_; refine Hid.out ?_))
            refine Lib.hid ?_
            first
              | rintro E y1 ou du rfl hmi haw
              | rintro E y1 ⟨ou, du, rfl, hmi, haw⟩
            have hmo := hmi.o.one; have hmd := hmi.d.one
            have HMI := Lib.hid hmi
            have HS1 := Lib.hid haw
            clear hmi haw
            go_wp2_with (refine wpList_new28 rfl rfl rfl _ _ rfl (pcR p (oD p i) n TO b) ou du (fun _ => rfl) (fun _ => rfl) HWQ.out.ad hmo hmd ?_; refine Hid.out ?_)
            refine Lib.hid ?_
            intro g10 y2 hg10 hb2 haw
            have HBW := Lib.hid hb2
            have HPW : Hid (Pkt y2 (pcR p (oD p i) n TO b) ou du) := (HMI.out.on haw).pkt HWQ.out
            have HS2 := Lib.hid (HS1.out.trans haw)
            clear hb2 haw hg10
            go_wp2_with fail
            go_meet
            exact ⟨g10, ou, du, rfl, HBW.out, HPW.out, HS2.out⟩
        case rest =>
        obtain ⟨g10, ou, du, rfl, hbw, hpk, haw⟩ := hcut
        have HBW := Lib.hid hbw
        have HPK := Lib.hid hpk
        have HAK : Hid (Away [] w wc) := HA.out.trans (HAW.out.trans haw)
        replace HAW := Lib.hid (HAW.out.trans haw)
        replace HBk := Lib.hid (HBk.out.on haw)
        have HWA := Lib.hid HWQ.out.ad
        clear hbw hpk haw c45 c41 KP1 cq hl1
        obtain ⟨W, hW⟩ : ∃ W, W = pcR p (oD p i) n TO b := ⟨_, rfl⟩
        rw [← hW] at HBW HPK HDS HWQ HWA
        clear hW
        have R1 : Hid (∀ w', Away [] wc w' → w'.rangeAt b0 (o0 + i * 46) (listP q xo xd)) := fun w' h => range_away (HAK.out.trans h) (by simp) HR0.out
        have K52 : Hid (∀ w', Away [] wc w' → Calls Tryz.prog 23 #[.agg (csP q xo xd), .agg (csP W ou du)] w' fun E w'' => E = .returned (.bool (dP q W)) ∧ Away [] wc w'') := fun w' h => (dsameP_c q _ xo xd ou du w' (HQP.out.on (HAK.out.trans h)) (HPK.out.on h)).mono (by rintro E w9 ⟨rfl, h2⟩; exact ⟨rfl, h.trans h2⟩)
        have K17 : Hid (∀ w', Away [] wc w' → Calls Tryz.prog 17 #[.agg (csP W ou du)] w' fun E w'' => E = .returned (.bool (rgtP W)) ∧ Away [] wc w'') := fun w' h => (dright_c W ou du w' (HPK.out.on h)).mono (by rintro E w9 ⟨rfl, h2⟩; exact ⟨rfl, h.trans h2⟩)
        have K48 : Hid (∀ w', Away [] wc w' → Calls Tryz.prog 18 #[.agg (csP W ou du)] w' fun E w'' => E = .returned (.int .i64 (hdD W + W.d.length)) ∧ Away [] wc w'') := fun w' h => (rlen_c W ou du w' (HPK.out.on h) HWQ.out.ol HWQ.out.dn).mono (by rintro E w9 ⟨rfl, h2⟩; exact ⟨rfl, h.trans h2⟩)
        obtain ⟨bs, hbs⟩ : ∃ b, b = dP q W := ⟨_, rfl⟩
        rw [← hbs] at K52 HDS
        obtain ⟨bw, hbw⟩ : ∃ b, b = rgtP W := ⟨_, rfl⟩
        rw [← hbw] at K17 HDS
        have HBW2 := Lib.hid hbw
        clear hbs hbw
        have HCC : Hid (Away [] wc wc.drew) := (Away.refl [] wc).drew
        have jN : 0 < N := by omega
        cases bs
        · have hz : z = false := HDS.out.2.1 rfl
          subst hz
          go_wp2_with fail
          refine wp_region_cls (C := (fun w' => Away [] wc w')) (by kernel_rfl) (by kernel_rfl) (by exact HCC.out) ?_
          repeat (first
            | go_big_quiet_skip
            | (go_big_quiet_want
               first
                 | (refine quiet_call 23 #[.agg (csP q xo xd), .agg (csP W ou du)] (.bool false) ?_ K52.out ?_; (focus (intro w; go_simp; done)); go_simp; go_big_quiet_on)
                 | (refine quiet_ix32 _ _ rfl b0 o0 N cap i _ rfl rfl rfl (by omega) ?_; go_simp; go_big_quiet_on)
                 | (refine quiet_ld _ rfl (ad := ⟨b0, o0 + i * 46, none⟩) rfl (fun w' h => load28m_run (R1.out w' h) HQA.out) ?_; go_simp; go_big_quiet_on)
                 | (refine quiet_ld _ rfl (ad := ⟨g10, 0, none⟩) rfl (fun w' h => load28_run (HBW.out.on h) HWA.out) ?_; go_simp; go_big_quiet_on)
                 | (go_big_quiet_op; go_big_quiet_on)
                 | (refine quiet_val ?_ ?_ ?_
                    rotate_left
                    · intro w; go_simp; rfl
                    go_simp; go_big_quiet_on)))
          refine wpQuiet_nil ?_
          intro V hV
          have HV := Lib.hid hV
          clear hV
          go_wp2_with fail
          go_ret
          exact ⟨rfl, HA.out.trans (HAW.out.trans HV.out)⟩
        cases bw
        · have hz : z = false := HDS.out.2.2.1 rfl
          subst hz
          go_wp2_with fail
          refine wp_region_cls (C := (fun w' => Away [] wc w')) (by kernel_rfl) (by kernel_rfl) (by exact HCC.out) ?_
          repeat (first
            | go_big_quiet_skip
            | (go_big_quiet_want
               first
                 | (refine quiet_call 23 #[.agg (csP q xo xd), .agg (csP W ou du)] (.bool true) ?_ K52.out ?_; (focus (intro w; go_simp; done)); go_simp; go_big_quiet_on)
                 | (refine quiet_call 17 #[.agg (csP W ou du)] (.bool false) ?_ K17.out ?_; (focus (intro w; go_simp; done)); go_simp; go_big_quiet_on)
                 | (refine quiet_ix32 _ _ rfl b0 o0 N cap i _ rfl rfl rfl (by omega) ?_; go_simp; go_big_quiet_on)
                 | (refine quiet_ld _ rfl (ad := ⟨b0, o0 + i * 46, none⟩) rfl (fun w' h => load28m_run (R1.out w' h) HQA.out) ?_; go_simp; go_big_quiet_on)
                 | (refine quiet_ld _ rfl (ad := ⟨g10, 0, none⟩) rfl (fun w' h => load28_run (HBW.out.on h) HWA.out) ?_; go_simp; go_big_quiet_on)
                 | (go_big_quiet_op; go_big_quiet_on)
                 | (refine quiet_val ?_ ?_ ?_
                    rotate_left
                    · intro w; go_simp; rfl
                    go_simp; go_big_quiet_on)))
          refine wpQuiet_nil ?_
          intro V hV
          have HV := Lib.hid hV
          clear hV
          go_wp2_with fail
          go_ret
          exact ⟨rfl, HA.out.trans (HAW.out.trans HV.out)⟩
        rw [hdD_right' HBW2.out.symm] at K48
        obtain ⟨TL, hTL⟩ : ∃ t, t = longP W := ⟨_, rfl⟩
        rw [← hTL] at K48 HDS
        clear hTL
        by_cases htl : TL ≤ m
        rotate_left
        · have hz : z = false := HDS.out.2.2.2.1 htl
          subst hz
          have htl2 : m < TL := by omega
          go_wp2_with fail
          refine wp_region_cls (C := (fun w' => Away [] wc w')) (by kernel_rfl) (by kernel_rfl) (by exact HCC.out) ?_
          repeat (first
            | go_big_quiet_skip
            | (go_big_quiet_want
               first
                 | (refine quiet_call 23 #[.agg (csP q xo xd), .agg (csP W ou du)] (.bool true) ?_ K52.out ?_; (focus (intro w; go_simp; done)); go_simp; go_big_quiet_on)
                 | (refine quiet_call 17 #[.agg (csP W ou du)] (.bool true) ?_ K17.out ?_; (focus (intro w; go_simp; done)); go_simp; go_big_quiet_on)
                 | (refine quiet_call 18 #[.agg (csP W ou du)] (.int .i64 TL) ?_ K48.out ?_; (focus (intro w; go_simp; done)); go_simp; go_big_quiet_on)
                 | (refine quiet_ix32 _ _ rfl b0 o0 N cap i _ rfl rfl rfl (by omega) ?_; go_simp; go_big_quiet_on)
                 | (refine quiet_ld _ rfl (ad := ⟨b0, o0 + i * 46, none⟩) rfl (fun w' h => load28m_run (R1.out w' h) HQA.out) ?_; go_simp; go_big_quiet_on)
                 | (refine quiet_ld _ rfl (ad := ⟨g10, 0, none⟩) rfl (fun w' h => load28_run (HBW.out.on h) HWA.out) ?_; go_simp; go_big_quiet_on)
                 | (go_big_quiet_op; go_big_quiet_on)
                 | (refine quiet_val ?_ ?_ ?_
                    rotate_left
                    · intro w; go_simp; rfl
                    go_simp; go_big_quiet_on)))
          refine wpQuiet_nil ?_
          intro V hV
          have HV := Lib.hid hV
          clear hV
          go_wp2_with fail
          go_ret
          exact ⟨rfl, HA.out.trans (HAW.out.trans HV.out)⟩
        have htl2 : ¬ (m < TL) := by omega
        have HNX : Hid (loopD p m (oD p (i + 1)) TO ((xs.map X.p).drop (i + 1)) = z) := by
          have h := HDS.out.2.2.2.2 hTl rfl rfl htl
          show _ = _
          unfold oD; rw [if_neg (by omega)]; exact h
        clear HDS
        go_wp2_with fail
        refine wp_region_cls (C := (fun w' => Away [] wc w')) (by kernel_rfl) (by kernel_rfl) (by exact HCC.out) ?_
        repeat (first
          | go_big_quiet_skip
          | (go_big_quiet_want
             first
               | (refine quiet_call 23 #[.agg (csP q xo xd), .agg (csP W ou du)] (.bool true) ?_ K52.out ?_; (focus (intro w; go_simp; done)); go_simp; go_big_quiet_on)
               | (refine quiet_call 17 #[.agg (csP W ou du)] (.bool true) ?_ K17.out ?_; (focus (intro w; go_simp; done)); go_simp; go_big_quiet_on)
               | (refine quiet_call 18 #[.agg (csP W ou du)] (.int .i64 TL) ?_ K48.out ?_; (focus (intro w; go_simp; done)); go_simp; go_big_quiet_on)
               | (refine quiet_ix32 _ _ rfl b0 o0 N cap i _ rfl rfl rfl (by omega) ?_; go_simp; go_big_quiet_on)
               | (refine quiet_ld _ rfl (ad := ⟨b0, o0 + i * 46, none⟩) rfl (fun w' h => load28m_run (R1.out w' h) HQA.out) ?_; go_simp; go_big_quiet_on)
               | (refine quiet_ld _ rfl (ad := ⟨g10, 0, none⟩) rfl (fun w' h => load28_run (HBW.out.on h) HWA.out) ?_; go_simp; go_big_quiet_on)
               | (go_big_quiet_op; go_big_quiet_on)
               | (refine quiet_val ?_ ?_ ?_
                  rotate_left
                  · intro w; go_simp; rfl
                  go_simp; go_big_quiet_on)))
        refine wpQuiet_nil ?_
        intro V hV
        have HV := Lib.hid hV
        replace HAW := Lib.hid (HAW.out.trans hV)
        replace HBk := Lib.hid (HBk.out.on hV)
        clear hV K52 K17 K48 R1
        have c44 := (HBk.out.cells HAD.out).o
        go_wp2_with fail
        refine (KC.out _ (HA.out.trans HAW.out)).mono ?_
        rintro E y6 ⟨vo, rfl, hov, hnv, haw⟩
        have HOV : Hid (Sl y6 vo (oD p (i + 1))) := by
          have hcv := carry_valid HW.out.o
          have hcl := (valid_len hcv.1).1
          have := hov.sl hcv.2.2.1 (by omega)
          show Sl y6 vo (oD p (i + 1))
          unfold oD; rw [if_neg (by omega)]; exact this
        replace HAW := Lib.hid (HAW.out.trans haw)
        clear hov hnv haw c44
        go_wp2_with fail
        go_roundw
        case rel => exact ⟨i + 1, TO, by first | rfl | go_num, by go_num, by omega, hTl, HOV.out, HNX.out, HAW.out⟩
        case measure => simp [intOf]; omega
      · obtain rfl : i = N := by omega
        have hz : z = decide (n = ln) := by
          have h5 := HDOC.out
          rw [List.drop_eq_nil_of_le (by rw [List.length_map, HL.out]; omega)] at h5
          rw [← h5, HLN.out]; rfl
        have HZZ := Lib.hid hz
        clear hz HDOC
        by_cases hnl : n = ln
        · subst hnl
          obtain rfl : z = true := by rw [HZZ.out]; simp
          go_wp2_with fail
          go_ret
          exact ⟨rfl, HA.out.trans HAW.out⟩
        · obtain rfl : z = false := by rw [HZZ.out]; simp [hnl]
          have hnl2 : ¬ ((n : Int) = (ln : Int)) := by omega
          have hnl3 : ((n : Int) == (ln : Int)) = false := by rw [beq_eq_false_iff_ne]; omega
          go_wp2_with fail
          go_ret
          exact ⟨rfl, HA.out.trans HAW.out⟩
end R
#print axioms R.dis_c
end Go.Proofs.YtaicckenpplceabGreatDoor
