/-
  EntryJoins.
-/
import Derived.Test.YtbkeilboneaejaaGreatDoorKitA
import Derived.Test.YtbkeilboneaejaaGreatDoorMnd
import Derived.Test.YtbkeilboneaejaaGreatDoorPcA
import Derived.Test.YtbkeilboneaejaaGreatDoorJnA
import Derived.Lib.MinMax
import Derived.Deep.CutBlock
import Derived.Deep.DeepCutAuto
namespace Go.Proofs.YtbkeilboneaejaaGreatDoor
open Go.ChangeShapes Go.WideShapes Go.ChangeAt Go.RowKit Go.Deep Num
open S6 (wp_region_cls quiet_val quiet_call quiet_ld ld3 ld4 ld5 ld25 ld26 load28_run load24m_run)
set_option linter.unusedVariables false
set_option linter.unusedSimpArgs false
set_option maxHeartbeats 8000000
set_option maxRecDepth 100000

namespace R
theorem listP_fld {p : Pk} (h : Ad p) (ov dv : Value) : (listP p ov dv)[41]? = some (.bool p.more) ∧ (listP p ov dv)[43]? = some (.int .i64 p.off) ∧ (listP p ov dv)[45]? = some dv := by
  obtain ⟨v, tos, flow, sv, sb, dv', db, proto, ttl, id, df, more, frag, off, o, d⟩ := p
  obtain ⟨h1, h2⟩ := h
  simp only at h1 h2
  obtain ⟨b0, b1, b2, b3, b4, b5, b6, b7, b8, b9, b10, b11, b12, b13, b14, b15, rfl⟩ := list16 h1
  obtain ⟨c0, c1, c2, c3, c4, c5, c6, c7, c8, c9, c10, c11, c12, c13, c14, c15, rfl⟩ := list16 h2
  exact ⟨rfl, rfl, rfl⟩
theorem moreL_len (r : Int) : ∀ l : List Pk, (moreL r l).length ≤ l.length * 70000
  | [] => by simp [moreL]
  | x :: t => by
    have ih := moreL_len r t
    have h1 : (recE r x).length ≤ 70000 := by unfold recE; split; exact recut_len _ _; simp
    have e : moreL r (x :: t) = recE r x ++ moreL r t := rfl
    rw [e, List.length_append, List.length_cons]; omega
theorem pcsE_len {q : Pk} (hu : Unc q) (n s : Int) : (pcsE q n s).length ≤ 4900070000 := by
  unfold pcsE
  split
  · have h := cut_len hu (lowP q + n) 9
    rw [List.length_append]
    split
    · have h2 := moreL_len (68 + s) (cutP q (lowP q + n) 9).1
      omega
    · simp; omega
  · simp
theorem outs_any {W : World} {g : Nat} {s : Es} {fp : List Nat} {p : Pk} {ov dv : Value} (h : Ey W g s fp) (ho : ∀ k, ov.ownBlock = some k ∨ dv.ownBlock = some k → W.heap.size ≤ k) : Outs p ov dv fp :=
  ⟨fun _ k hk hm => by have h1 := h.ent.lt k hm; have := ho k (.inl hk); omega, fun _ k hk hm => by have h1 := h.ent.lt k hm; have := ho k (.inr hk); omega⟩
end R
namespace entryJoins
open R
theorem walk (p : Pk) (ov dv : Value) (number smaller : Int) (oa : Option Addr) (on oc : Nat) (w : World) (hg : Glob w) (hp : Pkt w p ov dv) (hpl1 : p.o.length ≤ 140737488351232) (hpl2 : p.d.length ≤ 140737488351232) (hmo0 : (Lit.int .i64 number).wf = true) (hag : (Lit.int .i64 smaller).wf = true) (ho : Ints w oa on) (hol : on ≤ 140737488355328) :
    Calls Tryz.prog 3 #[.agg (csP p ov dv), .int .i64 number, .int .i64 smaller, .slice oa on oc] w fun E w' => E = .returned (.bool true) ∧ Below w.heap.size w w' := by
  have HAD := Lib.hid hp.wf.ad
  have HP := Lib.hid hp; have HG := Lib.hid hg; have HO := Lib.hid ho
  clear hp hg ho hpl1 hpl2 hmo0 hag
  go_enter Tryz.func3, Tryz.ntmps3
  go_wp2_with (refine wpList_box28 rfl _ rfl p _ _ rfl ?_; refine Hid.out ?_)
  refine Lib.hid ?_
  intro g4 w1 hg4 hb haw
  have HA := Lib.hid haw
  have HB4 := Lib.hid hb
  clear hb haw hg4
  have K1 := Lib.hid (alive_c w1 (HG.out.on HA.out))
  go_wp2_with (go_at_call 6; refine K1.out.mono ?_; refine Hid.out ?_)
  refine Lib.hid ?_
  first
    | rintro E w2 rfl haw
    | rintro E w2 ⟨rfl, haw⟩
  replace HA := Lib.hid (HA.out.trans haw)
  replace HB4 := Lib.hid (HB4.out.on haw)
  clear haw K1
  have K2 := Lib.hid (mended_c p ov dv w2 (HP.out.on HA.out))
  unfold MendE at K2
  go_wp2_with (first
    | (refine wpList_load28 rfl _ rfl g4 rfl p _ _ (by exact HB4.out) HAD.out ?_)
    | (go_at_call 7; refine K2.out.mono ?_; refine Hid.out ?_))
  refine Lib.hid ?_
  first
    | rintro E w3 q qo qd rfl hu hwf hv hq hmi haw
    | rintro E w3 ⟨q, qo, qd, rfl, hu, hwf, hv, hq, hmi, haw⟩
  obtain ⟨hqo, hdf, hq3⟩ := hq
  obtain ⟨qoa, qon, qoc, rfl⟩ := hmi.o.shp
  obtain ⟨qda, qdn, qdc, rfl⟩ := hmi.d.shp
  have HU := Lib.hid hu; have HW := Lib.hid hwf; have HV := Lib.hid hv; have HDF := Lib.hid hdf
  have HQA := Lib.hid hwf.ad
  have HMI := Lib.hid hmi
  have HLT := Lib.hid hmi.lto
  replace HA := Lib.hid (HA.out.trans haw)
  have HQO := Lib.hid hqo
  have HQ3 := Lib.hid hq3
  clear hu hwf hv hqo hdf hq3 hmi haw K2 HB4
  go_wp2_with (refine wpList_alloc28 rfl rfl ?_; refine Hid.out ?_)
  refine Lib.hid ?_
  intro g9 w4 hg9 hb haw
  have HB9 := Lib.hid hb
  have HG9 : Hid (w.heap.size ≤ g9) := Nat.le_trans HA.out.size hg9
  have HN9 : Hid (∀ k, (Value.slice qoa qon qoc).ownBlock = some k ∨ (Value.slice qda qdn qdc).ownBlock = some k → k ≠ g9) := fun k hk e => by have := (HLT.out k hk).1; omega
  replace HMI := Lib.hid (HMI.out.on haw)
  replace HA := Lib.hid (HA.out.trans haw)
  clear hb haw hg9 HLT
  go_wp2_with (refine wpList_store28 rfl _ _ rfl g9 rfl q (.slice qoa qon qoc) (.slice qda qdn qdc) rfl zeroPk (.slice none 0 0) (.slice none 0 0) (by exact HB9.out) HQA.out ⟨rfl, rfl⟩ rfl rfl ?_; refine Hid.out ?_)
  refine Lib.hid ?_
  intro w5 hb haw
  replace HB9 := Lib.hid hb
  replace HMI := Lib.hid (HMI.out.away haw (fun k hk => by simp; exact HN9.out k hk))
  replace HA := Lib.hid (HA.out.next haw (fun x hx => .inr (by simp at hx; subst hx; exact HG9.out)))
  have HPQ := Lib.hid (HMI.out.pkt HW.out)
  clear hb haw HN9 HMI
  have K3 := Lib.hid (pieces_e q (.slice qoa qon qoc) (.slice qda qdn qdc) number smaller w5 HPQ.out HU.out (HG.out.on HA.out))
  have hbn := andN number 1023 (by omega) (by omega); have hbs := andN smaller 255 (by omega) (by omega)
  generalize bits .and .i64 number 1023 = N9 at K3 hbn
  generalize bits .and .i64 smaller 255 = S9 at K3 hbs
  obtain ⟨x, c, m, hpe, hrc, hrm, hxc, hm6⟩ := pcs_told2 HU.out HW.out HV.out HDF.out hbn hbs
  rw [hpe] at K3
  go_wp2_with (first
    | (refine wpList_load28 rfl _ rfl g9 rfl q _ _ (by exact HB9.out) HQA.out ?_)
    | (go_at_call 8; refine K3.out.mono ?_; refine Hid.out ?_))
  refine Lib.hid ?_
  first
    | rintro E w6 v xs rfl hcu hxs haw
    | rintro E w6 ⟨v, xs, rfl, hcu, hxs, haw⟩
  have hlen : xs.length ≤ 4900070000 := by rw [← List.length_map (f := X.p), hxs, ← hpe]; exact pcsE_len HU.out _ _
  obtain ⟨va, vc, hv, -, -, hpk, -⟩ := hcu.pks (by omega)
  obtain ⟨n, hn⟩ : ∃ n, n = xs.length := ⟨_, rfl⟩
  have hn0 : 0 < xs.length := by
    rw [← List.length_map (f := X.p), hxs, List.length_append]
    have := List.length_pos_iff.2 hrc.ne
    omega
  obtain ⟨x0, hx0, hx0m⟩ := get_of hn0
  obtain ⟨b0, o0, hva, r0, k0⟩ := hpk.at hx0
  rw [Nat.zero_mul, Nat.add_zero] at r0
  subst hva
  rw [← hn] at hv hlen hn0
  subst hv
  have hp0 : (c ++ m)[0]? = some x0.p := by rw [← hxs, List.getElem?_map, hx0]; rfl
  have HP0 := Lib.hid hp0
  have HN := Lib.hid hn
  have HCU := Lib.hid hcu; have HXS := Lib.hid hxs; have HPK := Lib.hid hpk
  have HR0 := Lib.hid r0
  have HK0 : Hid (Pkt w6 x0.p x0.o x0.d) := k0
  have HRC := Lib.hid hrc; have HRM := Lib.hid hrm; have HM6 := Lib.hid hm6
  replace HA := Lib.hid (HA.out.trans haw)
  replace HB9 := Lib.hid (HB9.out.on haw)
  have HPQ6 := Lib.hid (HPQ.out.on haw)
  have HF0 := Lib.hid (listP_fld k0.wf.ad x0.o x0.d)
  have c41 := r0 41 _ HF0.out.1
  have c43 := r0 43 _ HF0.out.2.1
  clear hcu hxs haw K3 hpe hrc hrm hm6 hp0 hn hpk r0 k0 hx0 hx0m HPQ
  rcases hxc with ⟨rfl, hce⟩ | ⟨hx9, hc2⟩
  · as_aux_lemma =>
    have hq0 : x0.p = x := by
      have h := HP0.out
      rw [hce] at h
      simp at h; exact h.symm
    rw [hq0, HU.out.more] at c41
    rw [hq0, HU.out.off] at c43
    have K4 := Lib.hid (lkeyOf_c x (.slice qoa qon qoc) (.slice qda qdn qdc) w6 HQA.out)
    have j1 : (0 : Int) < (n : Int) := by omega
    go_upto_region 7 with fail
    go_cut [52] (fun v wx => v = .bool true ∧ wx = w6)
    case first =>
      as_aux_lemma =>
      by_cases h1 : n = 1
      · have j2 : ((n : Int) == 1) = true := by simp [h1]
        go_wp2_with fail
        go_meet
        exact ⟨rfl, rfl⟩
      · have j2 : ((n : Int) == 1) = false := by simp; omega
        go_wp2_with fail
        go_meet
        exact ⟨rfl, rfl⟩
    case rest =>
      as_aux_lemma =>
      obtain ⟨rfl, hw'⟩ := hcut
      obtain rfl := hw'.symm
      clear hw' c41 c43 j1
      go_wp2_with (first
        | (refine wpList_load28 rfl _ rfl g9 rfl x _ _ (by exact HB9.out) HQA.out ?_)
        | (go_at_call 10; refine K4.out.mono ?_; refine Hid.out ?_))
      refine Lib.hid ?_
      first
        | rintro E w7 rfl haw
        | rintro E w7 ⟨rfl, haw⟩
      have HA7 := Lib.hid (HA.out.trans haw)
      have HB9' := Lib.hid (HB9.out.on haw)
      have HPQ := Lib.hid (HPQ6.out.on haw)
      have h97 : g9 < w7.heap.size := HB9'.out.lt
      clear haw K4
      have K5 := Lib.hid (new_c w7 x 1 HQA.out)
      go_wp2_with (go_at_call 9; refine K5.out.mono ?_; refine Hid.out ?_)
      refine Lib.hid ?_
      first
        | rintro E w8 g fp rfl hent hlo haw
        | rintro E w8 ⟨g, fp, rfl, hent, hlo, haw⟩
      have HY := Lib.hid (ey_new hent)
      have HLO := Lib.hid hlo
      have H0 : Hid (0 ∉ fp) := fun hm => by have := hlo 0 hm; omega
      have HA8 := Lib.hid (HA7.out.trans haw)
      have HB8 := Lib.hid (HB9'.out.on haw)
      have HPQ8 := Lib.hid (HPQ.out.on haw)
      have HLW : Hid (∀ z ∈ fp, w.heap.size ≤ z) := fun z hz => Nat.le_trans HA7.out.size (hlo z hz)
      clear hent hlo haw K5 HB9' HPQ h97
      have K6 := Lib.hid (ownP_c x (.slice qoa qon qoc) (.slice qda qdn qdc) w8 HPQ8.out)
      unfold OwnOut at K6
      go_wp2_with (first
        | (refine wpList_load28 rfl _ rfl g9 rfl x _ _ (by exact HB8.out) HQA.out ?_)
        | (go_at_call 12; refine K6.out.mono ?_; refine Hid.out ?_))
      refine Lib.hid ?_
      first
        | rintro E w10 po pd rfl hmi haw
        | rintro E w10 ⟨po, pd, rfl, hmi, haw⟩
      have HMI := Lib.hid hmi
      have HFL : Hid (∀ z ∈ fp, z < w8.heap.size) := HY.out.ent.lt
      have HY10 := Lib.hid (HY.out.on haw)
      have HA10 := Lib.hid (HA8.out.trans haw)
      clear hmi haw K6
      have HPW : Hid (putS (newS x 1) x = (1, newS x 1)) := by
        show _ = _
        unfold putS ownB
        rw [HU.out.off, HU.out.more]
        simp
      have K7 := Lib.hid (eput_c HY10.out x po pd (HMI.out.pkt HW.out) (HG.out.on HA10.out) ⟨fun _ z hz hm => by have h1 := (HMI.out.lto z (.inl hz)).2; have h2 := HFL.out z hm; omega, fun _ z hz hm => by have h1 := (HMI.out.lto z (.inr hz)).2; have h2 := HFL.out z hm; omega⟩ H0.out)
      unfold PutE at K7
      rw [HPW.out] at K7
      go_wp2_with (go_at_call 11; refine K7.out.mono ?_; refine Hid.out ?_)
      refine Lib.hid ?_
      first
        | rintro E w11 rfl fp2 hy hf haw
        | rintro E w11 ⟨rfl, fp2, hy, hf, haw⟩
      have HY11 := Lib.hid hy
      have HA11 : Hid (Away [] w w11) := HA10.out.next haw (fun z hz => .inr (HLW.out z hz))
      clear hy hf haw K7
      have K8 := eholes_c HY11.out.ent
      have hh1 : holesN (newS x 1) = 1 := rfl
      rw [hh1] at K8
      replace K8 := Lib.hid K8
      go_wp2_with (go_at_call 13; refine K8.out.mono ?_; refine Hid.out ?_)
      refine Lib.hid ?_
      first
        | rintro E w12 rfl haw
        | rintro E w12 ⟨rfl, haw⟩
      have HA12 := Lib.hid (HA11.out.trans haw)
      clear haw K8
      go_wp2_with fail
      go_ret
      exact ⟨rfl, HA12.out.to_below⟩
  · as_aux_lemma =>
    have hcl := HXS.out
    have hc0 : ∃ r, c = x0.p :: r := by
      have h := HP0.out
      cases hcc : c with
      | nil => rw [hcc] at hc2; simp at hc2
      | cons a r => rw [hcc] at h; simp at h; exact ⟨r, by rw [h]⟩
    have hxm : x0.p ∈ c := by obtain ⟨r, hr⟩ := hc0; rw [hr]; simp
    have hm0 : x0.p.more = true := by
      obtain ⟨r, hr⟩ := hc0
      have hmo := HRC.out.mo
      rw [hr] at hmo hc2
      cases r with
      | nil => simp at hc2
      | cons b t => exact hmo.1
    have HJC : Hid (Jc q x c m x0.p) := ⟨HU.out, HW.out, HV.out, hx9, HQO.out, HQ3.out, HRC.out.kin _ hxm, HRC.out, HRM.out, HM6.out, hc2⟩
    have hcn : (c ++ m).length = n := by rw [← HXS.out, List.length_map, HN.out]
    have hn2 : 2 ≤ n := by rw [← hcn, List.length_append]; omega
    have HXA := Lib.hid HK0.out.wf.ad
    rw [hm0] at c41
    have j1 : (0 : Int) < (n : Int) := by omega
    have j2 : ((n : Int) == 1) = false := by simp; omega
    have HQW := Lib.hid HW.out
    clear hx9 hc2 hc0 hxm hm0 hcl HU HW HV HDF HRC HRM HM6 HP0 HF0
    have HCN := Lib.hid hcn
    clear hcn
    go_upto_region 7 with fail
    go_cut [52] (fun v wx => v = .bool false ∧ wx = w6)
    case first =>
      as_aux_lemma =>
      go_wp2_with fail
      go_meet
      exact ⟨rfl, rfl⟩
    case rest =>
      as_aux_lemma =>
      obtain ⟨rfl, hw'⟩ := hcut
      obtain rfl := hw'.symm
      clear hw' c41 c43 j2
      have K4 := Lib.hid (lkeyOf_c x0.p x0.o x0.d w6 HXA.out)
      go_wp2_with (first
        | (refine wpList_load28m rfl _ rfl b0 o0 rfl x0.p x0.o x0.d (by exact HR0.out) HXA.out ?_)
        | (go_at_call 10; refine K4.out.mono ?_; refine Hid.out ?_))
      refine Lib.hid ?_
      first
        | rintro E w7 rfl haw
        | rintro E w7 ⟨rfl, haw⟩
      have HA7 := Lib.hid haw
      have h97 : g9 < w7.heap.size := by have := HB9.out.lt; have := haw.size; omega
      clear haw K4
      have K5 := Lib.hid (new_c w7 x0.p 1 HXA.out)
      go_wp2_with (go_at_call 9; refine K5.out.mono ?_; refine Hid.out ?_)
      refine Lib.hid ?_
      first
        | rintro E w8 g fp rfl hent hlo haw
        | rintro E w8 ⟨g, fp, rfl, hent, hlo, haw⟩
      have HY := Lib.hid (ey_new hent)
      have HLO : Hid (∀ z ∈ fp, w6.heap.size ≤ z) := fun z hz => Nat.le_trans HA7.out.size (hlo z hz)
      have HA8 := Lib.hid (HA7.out.trans haw)
      clear hent hlo haw K5
      have c45 := (HB9.out.cells HQA.out).d
      replace c45 := HA8.out.cell (by simp) c45
      have hqn : qdn = q.d.length := by
        obtain ⟨a, cc, hs, -⟩ := HPQ6.out.d
        simp only [Value.slice.injEq] at hs
        exact hs.2.1
      have hqn3 : qdn ≤ 3000 := by rw [hqn]; exact HQ3.out
      have HQN := Lib.hid hqn
      have hmk := fun wx => make_book qdn (qdn : Int) rfl hqn3 wx
      clear hqn
      go_wp2_with fail
      have HEB : Hid (Eb w6 (w8.alloc (bookN qdn)) g w8.heap.size qdn fp (newS x0.p 1) (fun _ => false)) := by
        have h1 : Away [] w8 (w8.alloc (bookN qdn)) := (Away.refl _ _).alloc _
        have h2 := HA8.out.size
        exact ⟨HA8.out.trans h1, HY.out.on h1, HLO.out, book_new _ _, h2, fun hm => by have := HY.out.ent.lt _ hm; omega⟩
      obtain ⟨wB, hwB⟩ : ∃ W, W = w8.alloc (bookN qdn) := ⟨_, rfl⟩
      rw [← hwB] at HEB ⊢
      obtain ⟨gB, hgB⟩ : ∃ W, W = w8.heap.size := ⟨_, rfl⟩
      rw [← hgB] at HEB ⊢
      clear hwB hgB hmk HA7 HY HLO HA8 c45 h97
      have hw6 : w.heap.size ≤ w6.heap.size := HA.out.size
      have H96 : Hid (g9 < w6.heap.size) := HB9.out.lt
      go_loopw [14, 15] (fun en i wr => ∃ (k : Nat) (fp : List Nat) (s : Es) (T : Int → Bool) (Y : Nat → Int) (eb : Bool), k ≤ on + n ∧ en = .bool eb ∧ i = .int .i64 (k : Int) ∧ Jl w6 q x c m x0.p on g gB qdn k eb fp s T Y wr) (fun _ i _ => on + n - (intOf i).toNat)
      case atStart => exact ⟨0, fp, newS x0.p 1, fun _ => false, fun _ => 0, false, by omega, rfl, rfl, HEB.out, js_new HJC.out 1 _, by simp [newS], fun j hj => by omega⟩
      case round =>
        obtain ⟨k, fp, s, T, Y, eb, hk, rfl, rfl, hl⟩ := hrel
        have HL := Lib.hid hl
        clear hl HEB
        have i0 : IntKind.i64.wrap ((on : Int) + (n : Int)) = ((on + n : Nat) : Int) := by rw [IntKind.wrap_i64]; omega
        by_cases hlt : k < on + n
        · as_aux_lemma =>
          obtain ⟨j, hj⟩ : ∃ j : Nat, j = k - on := ⟨_, rfl⟩
          have hjn : j < n := by omega
          obtain ⟨xj, hxj, hxjm⟩ := get_of (xs := xs) (k := j) (by rw [← HN.out]; exact hjn)
          obtain ⟨b1, o1, hva, rj, kj⟩ := HPK.out.at hxj
          have hva2 := Addr.mk.inj (Option.some.inj hva)
          obtain ⟨eb1, eo1, -⟩ := hva2
          rw [← eb1, ← eo1] at rj
          clear eb1 eo1 hva
          have hpj : (c ++ m)[j]? = some xj.p := by rw [← HXS.out, List.getElem?_map, hxj]; rfl
          have HPJ := Lib.hid hpj
          have HRJ : Hid (wr.rangeAt b0 (o0 + j * 46) (listP xj.p xj.o xj.d)) := range_away HL.out.mem.aw (by simp) rj
          have HKJ : Hid (Pkt w6 xj.p xj.o xj.d) := kj
          have HXJ : Hid (Ad xj.p) := kj.wf.ad
          have i1 : IntKind.i64.wrap ((k : Int) - (on : Int)) = (k : Int) - (on : Int) := by rw [IntKind.wrap_i64]; omega
          have i2 : max 0 ((k : Int) - (on : Int)) = (j : Int) := by omega
          have i3 : (0 : Int) ≤ (j : Int) := by omega
          have i4 : (j : Int) < (n : Int) := by omega
          have i5 : ((j : Nat) : Int).toNat = j := by omega
          have i6 : (k : Int) < ((on + n : Nat) : Int) := by omega
          have HJ := Lib.hid hj
          have HXJG := Lib.hid hxj
          clear rj kj hxj hpj hj j1
          go_wp2_with (first
            | (refine wpList_load28m rfl _ rfl b0 (o0 + j * 46) rfl xj.p xj.o xj.d (by exact HRJ.out) HXJ.out ?_)
            | (refine wpList_alloc28 rfl rfl ?_; refine Hid.out ?_))
          refine Lib.hid ?_
          intro g16 y1 hg16 hb haw
          have HB16 := Lib.hid hb
          have HL1 : Hid (Eb w6 y1 g gB qdn fp s T) := HL.out.mem.on haw
          have HG16 : Hid (wr.heap.size ≤ g16) := hg16
          have HG6 : Hid (w6.heap.size ≤ g16) := Nat.le_trans HL.out.mem.aw.size hg16
          have HN16 : Hid (g16 ∉ fp ∧ g16 ≠ gB) := ⟨fun hm => by have := HL.out.mem.ey.ent.lt _ hm; omega, fun e => by have := HL.out.mem.bk.lt; omega⟩
          clear hb haw hg16
          obtain ⟨oj1, hoj⟩ : ∃ z, z = xj.o := ⟨_, rfl⟩
          go_wp2_with (refine wpList_store28 rfl _ _ rfl g16 rfl xj.p xj.o xj.d rfl zeroPk (.slice none 0 0) (.slice none 0 0) (by exact HB16.out) HXJ.out ⟨rfl, rfl⟩ HKJ.out.o.one HKJ.out.d.one ?_; refine Hid.out ?_)
          refine Lib.hid ?_
          intro y2 hb haw
          replace HB16 := Lib.hid hb
          replace HL1 := Lib.hid (HL1.out.other haw HG6.out HN16.out.1 HN16.out.2)
          clear hb haw
          have HAX : Hid (Away [] w y2) := HA.out.trans HL1.out.aw
          go_upto_if 101 with fail
          go_cut [16] (fun v wx => ∃ (J : Nat) (y : X), v = .pointer (some ⟨g16, 0, none⟩) ∧ xs[J]? = some y ∧ (k < on ∨ J = j) ∧ BoxP wx g16 y.p y.o y.d ∧ Eb w6 wx g gB qdn fp s T)
          case first =>
            as_aux_lemma =>
            by_cases hkn : k < on
            · have k1 : (k : Int) < (on : Int) := by omega
              have k2 : 0 ≤ (k : Int) := by omega
              have k3 : ((k : Nat) : Int).toNat = k := by omega
              obtain ⟨pb, po, z, hoa, hz, hzk⟩ := HO.out k hkn
              subst hoa
              have cz := HAX.out.cell (by simp) hz
              have hb := andN24 z 16777215 (by omega) (by omega)
              obtain ⟨Z, hZ⟩ : ∃ Z, bits .and .i64 z 16777215 = Z := ⟨_, rfl⟩
              rw [hZ] at hb
              obtain ⟨r, hr⟩ : ∃ r : Nat, Int.tmod Z (n : Int) = (r : Int) := ⟨(Int.tmod Z (n : Int)).toNat, by
                have h := Int.tmod_nonneg (a := Z) (n : Int) hb.1
                exact (Int.toNat_of_nonneg h).symm⟩
              have hrn : r < n := by
                have h := Int.tmod_lt_of_pos Z (b := (n : Int)) (Int.ofNat_lt.2 hn0)
                rw [hr] at h; omega
              obtain ⟨yj, hyj, hyjm⟩ := get_of (xs := xs) (k := r) (by rw [← HN.out]; exact hrn)
              obtain ⟨b1, o1, hva, ry, ky⟩ := HPK.out.at hyj
              have hva2 := Addr.mk.inj (Option.some.inj hva)
              obtain ⟨eb1, eo1, -⟩ := hva2
              rw [← eb1, ← eo1] at ry
              clear eb1 eo1 hva
              have HRY : Hid (y2.rangeAt b0 (o0 + r * 46) (listP yj.p yj.o yj.d)) := range_away HL1.out.aw (by simp) ry
              have HKY : Hid (Pkt w6 yj.p yj.o yj.d) := ky
              have HYJ : Hid (Ad yj.p) := ky.wf.ad
              have HYG := Lib.hid hyj
              have r1 : (0 : Int) ≤ (r : Int) := by omega
              have r2 : (r : Int) < (n : Int) := by omega
              have r3 : ((r : Nat) : Int).toNat = r := by omega
              have r4 : ¬ ((n : Int) = 0) := by omega
              clear hz hzk hb hyj hyjm ry ky
              go_wp2_with (first
                | (refine wpList_load28m rfl _ rfl b0 (o0 + r * 46) rfl yj.p yj.o yj.d (by exact HRY.out) HYJ.out ?_)
                | (refine wpList_store28 rfl _ _ rfl g16 rfl yj.p yj.o yj.d rfl xj.p xj.o xj.d (by exact HB16.out) HYJ.out HXJ.out HKY.out.o.one HKY.out.d.one ?_; refine Hid.out ?_))
              refine Lib.hid ?_
              intro y3 hb haw
              have HB3 := Lib.hid hb
              have HL3 := Lib.hid (HL1.out.other haw HG6.out HN16.out.1 HN16.out.2)
              clear hb haw
              go_wp2_with fail
              go_meet
              exact ⟨r, yj, rfl, HYG.out, .inl hkn, HB3.out, HL3.out⟩
            · have k1 : ¬ ((k : Int) < (on : Int)) := by omega
              go_wp2_with fail
              go_meet
              exact ⟨j, xj, rfl, HXJG.out, .inr rfl, HB16.out, HL1.out⟩
          case rest =>
            as_aux_lemma =>
            obtain ⟨J, y, rfl, hyJ, hJ, hb16, heb⟩ := hcut
            have hpy : (c ++ m)[J]? = some y.p := by rw [← HXS.out, List.getElem?_map, hyJ]; rfl
            have hoky : y.ok w6 := HPK.out.2.1 y (List.mem_of_getElem? hyJ)
            obtain ⟨py, oy, dy⟩ := y
            dsimp only at hb16 hpy
            replace hoky : Pkt w6 py oy dy := hoky
            have HPY := Lib.hid hpy
            have HJ2 : Hid (¬ k < on → J = k - on) := fun h => by rcases hJ with h1 | h1; exact absurd h1 h; rw [h1, HJ.out]
            have HYW := Lib.hid hoky.wf
            have HYA : Hid (Ad py) := hoky.wf.ad
            have HKY := Lib.hid hoky
            obtain ⟨f0, hf0⟩ : ∃ b, b = (!py.more && !eb) := ⟨_, rfl⟩
            obtain ⟨fr, hfr⟩ : ∃ b, b = frB T py.off f0 py.d.length := ⟨_, rfl⟩
            have hfri : fr = true ↔ ((py.more = false ∧ s.e = -1) ∨ ∃ i, i < py.d.length ∧ T (py.off + (i : Int)) = false) := by
              rw [hfr, frB_iff, hf0]
              have h1 := HL.out.en
              constructor
              · rintro (h | h)
                · left
                  rw [Bool.and_eq_true] at h
                  refine ⟨by simpa using h.1, ?_⟩
                  have h2 : eb = false := by simpa using h.2
                  by_cases h3 : s.e = -1
                  · exact h3
                  · rw [h1.2 h3] at h2; simp at h2
                · exact .inr h
              · rintro (⟨h, h2⟩ | h)
                · left
                  have h3 : eb = false := by rw [Bool.eq_false_iff]; intro e; exact h1.1 e h2
                  rw [h, h3]; rfl
                · exact .inr h
            obtain ⟨hpr, hjs2, hee, hfy, hqy⟩ := HL.out.js.put HJC.out (List.mem_of_getElem? hpy) hfri
            obtain ⟨o, ho⟩ : ∃ o : Nat, py.off = (o : Int) := ⟨py.off.toNat, by have := hfy.o0; omega⟩
            obtain ⟨dl, hdl⟩ : ∃ dl : Nat, dl = py.d.length := ⟨_, rfl⟩
            have hod : o + dl ≤ qdn := by
              have h1 := hfy.en
              have h2 := HJC.out.off.2.2.1
              rw [h2] at h1
              have h3 := HQN.out
              omega
            obtain ⟨da, dcap, hdv⟩ : ∃ a cc, dy = .slice a dl cc := by
              obtain ⟨a, cc, h1, -⟩ := hoky.d
              exact ⟨a, cc, by rw [hdl]; exact h1⟩
            subst hdv
            obtain ⟨nn, hnn⟩ : ∃ z, z = (putS s py).1 := ⟨_, rfl⟩
            obtain ⟨s2, hs2⟩ : ∃ z, z = (putS s py).2 := ⟨_, rfl⟩
            rw [← hnn] at hpr
            rw [← hs2] at hpr hjs2 hee
            have HFR := Lib.hid hfr
            have HJS2 := Lib.hid hjs2
            have HPR := Lib.hid hpr
            have HE2 : Hid (∀ e2 : Bool, e2 = (eb || !py.more) → (e2 = true ↔ s2.e ≠ -1)) := fun e2 he => by
              rw [hee, ← HL.out.en, he]
              cases py.more <;> simp
            have HO := Lib.hid ho
            have HDL := Lib.hid hdl
            have HNN := Lib.hid hnn
            have HS2 := Lib.hid hs2
            have HF0 := Lib.hid hf0
            have HB := Lib.hid hb16
            have HEC := Lib.hid heb
            clear hpy hoky hJ hyJ hfri hfr hpr hjs2 hee hfy hqy ho hdl hnn hs2 hf0 hb16 heb HB16 HL1 HAX HPJ HRJ HKJ HXJ HXJG HR0 HJ i0 i1 i2 i3 i4 i5 i6
            have K1 := Lib.hid (ownP_c py oy (.slice da dl dcap) wc (HKY.out.on HEC.out.aw))
            unfold OwnOut at K1
            go_wp2_with (first
              | (refine wpList_load28 rfl _ rfl g16 rfl py _ _ (by exact HB.out) HYA.out ?_)
              | (go_at_call 12; refine K1.out.mono ?_; refine Hid.out ?_))
            refine Lib.hid ?_
            first
              | rintro E v1 po pd rfl hmi haw
              | rintro E v1 ⟨po, pd, rfl, hmi, haw⟩
            have HMI := Lib.hid hmi
            have HFL : Hid (∀ z ∈ fp, z < wc.heap.size) := HEC.out.ey.ent.lt
            have HB1 := Lib.hid (HB.out.on haw)
            have HE1 := Lib.hid (HEC.out.on haw)
            clear hmi haw K1 HB HEC
            have K2 := Lib.hid (eput_c HE1.out.ey py po pd (HMI.out.pkt HYW.out) (HG.out.on (HA.out.trans HE1.out.aw)) ⟨fun _ z hz hm => by have h1 := (HMI.out.lto z (.inl hz)).2; have h2 := HFL.out z hm; omega, fun _ z hz hm => by have h1 := (HMI.out.lto z (.inr hz)).2; have h2 := HFL.out z hm; omega⟩ (fun hm => by have := HE1.out.lo 0 hm; have := H96.out; omega))
            unfold PutE at K2
            rw [← HNN.out, ← HS2.out] at K2
            go_wp2_with (go_at_call 11; refine K2.out.mono ?_; refine Hid.out ?_)
            refine Lib.hid ?_
            first
              | rintro E v2 rfl fp2 hy hf haw
              | rintro E v2 ⟨rfl, fp2, hy, hf, haw⟩
            have HE3 := Lib.hid (HE1.out.put hy hf haw)
            have HB3 := Lib.hid (HB1.out.away haw HN16.out.1)
            have H16B : Hid (g16 ≠ gB) := HN16.out.2
            clear hy hf haw K2 HMI HFL HB1 HE1 HNN HS2
            obtain ⟨bm, hbm⟩ : ∃ b, b = py.more := ⟨_, rfl⟩
            have HBM := Lib.hid hbm
            rw [← hbm] at HF0 HE2
            clear hbm
            have c41 : v2.cell? ⟨g16, 41, none⟩ = some (.bool bm) := by rw [HBM.out]; exact (HB3.out.cells HYA.out).more
            go_upto_region 22 with fail
            go_cut [18] (fun v wx => v = .bool f0 ∧ wx = v2)
            case first =>
              as_aux_lemma =>
              cases bm with
              | true =>
                go_wp2_with fail
                go_meet
                exact ⟨by rw [HF0.out]; rfl, rfl⟩
              | false =>
                go_wp2_with fail
                go_meet
                exact ⟨by rw [HF0.out]; simp, rfl⟩
            case rest =>
              as_aux_lemma =>
              obtain ⟨rfl, hw'⟩ := hcut
              obtain rfl := hw'.symm
              clear hw' c41
              go_wp2_with fail
              go_loopw [18, 19] (fun fv i wr2 => ∃ k2 : Nat, k2 ≤ dl ∧ fv = .bool (frB T py.off f0 k2) ∧ i = .int .i64 (k2 : Int) ∧ BoxP wr2 g16 py oy (.slice da dl dcap) ∧ Eb w6 wr2 g gB qdn fp2 s2 (TK T py.off k2)) (fun _ i _ => dl - (intOf i).toNat)
              case atStart => exact ⟨0, by omega, rfl, rfl, HB3.out, by rw [tk_zero]; exact HE3.out⟩
              case round =>
                obtain ⟨k2, hk2, rfl, rfl, hb4, he4⟩ := hrel
                have HB4 := Lib.hid hb4
                have HE4 := Lib.hid he4
                clear hb4 he4
                have c45 : wr.cell? ⟨g16, 45, none⟩ = some (.slice da dl dcap) := (HB4.out.cells HYA.out).d
                by_cases hl2 : k2 < dl
                · as_aux_lemma =>
                  have m1 : (k2 : Int) < (dl : Int) := by omega
                  have c43 : wr.cell? ⟨g16, 43, none⟩ = some (.int .i64 (o : Int)) := by have h := (HB4.out.cells HYA.out).off; rw [HO.out] at h; exact h
                  have m2 : IntKind.i64.wrap ((o : Int) + (k2 : Int)) = ((o + k2 : Nat) : Int) := by rw [IntKind.wrap_i64]; omega
                  have m3 : 0 ≤ ((o + k2 : Nat) : Int) := by omega
                  have m4 : ((o + k2 : Nat) : Int) < (qdn : Int) := by omega
                  have m5 : ((o + k2 : Nat) : Int).toNat = o + k2 := by omega
                  obtain ⟨tb, htb⟩ : ∃ b, b = T (py.off + (k2 : Int)) := ⟨_, rfl⟩
                  have cb : wr.cell? ⟨gB, o + k2, none⟩ = some (.bool tb) := by
                    have h := HE4.out.bk.row (o + k2) (by omega)
                    have h2 := tk_at T py.off k2
                    rw [HO.out] at h2
                    rw [show (o : Int) + (k2 : Int) = ((o + k2 : Nat) : Int) from by omega] at h2
                    rw [HO.out] at h
                    rw [htb, HO.out, show (o : Int) + (k2 : Int) = ((o + k2 : Nat) : Int) from by omega, ← h2]; exact h
                  have fb := HE4.out.bk.free (o + k2)
                  have HFS : Hid (frB T py.off f0 (k2 + 1) = (frB T py.off f0 k2 || !tb)) := by
                    show _ = _
                    rw [frB, htb]
                  have HE5 := HE4.out.book (i := o + k2) (by omega)
                  have HB5 := HB4.out.away (HE4.out.bk.setA (o + k2)) (by simp; exact H16B.out)
                  replace HE5 : Eb w6 (wr.setCell ⟨gB, o + k2, none⟩ (.bool true)) g gB qdn fp2 s2 (TK T py.off (k2 + 1)) := HE5.congr (fun i hi => by
                    rw [tk_succ, HO.out, show (o : Int) + (k2 : Int) = ((o + k2 : Nat) : Int) from by omega])
                  replace HE5 := Lib.hid HE5
                  replace HB5 := Lib.hid HB5
                  obtain ⟨vf, hvf⟩ : ∃ b, b = frB T py.off f0 k2 := ⟨_, rfl⟩
                  rw [← hvf] at HFS ⊢
                  clear htb hvf HB4 HE4
                  cases vf with
                  | true =>
                    go_wp2_with fail
                    go_roundw
                    case rel => exact ⟨k2 + 1, by omega, by rw [HFS.out]; rfl, by go_num, HB5.out, HE5.out⟩
                    case measure => simp [intOf]; omega
                  | false =>
                    go_wp2_with fail
                    go_roundw
                    case rel => exact ⟨k2 + 1, by omega, by rw [HFS.out]; simp, by go_num, HB5.out, HE5.out⟩
                    case measure => simp [intOf]; omega
                · as_aux_lemma =>
                  obtain rfl : dl = k2 := by omega
                  have m1 : ¬ ((dl : Int) < (dl : Int)) := by omega
                  have HE5 : Hid (Eb w6 wr g gB qdn fp2 s2 (TT T py)) := by have h := HE4.out; rw [HDL.out] at h; exact h
                  have HFE : Hid (frB T py.off f0 dl = fr) := by show _ = _; rw [HFR.out, HDL.out]
                  rw [HFE.out]
                  have c41 : wr.cell? ⟨g16, 41, none⟩ = some (.bool bm) := by rw [HBM.out]; exact (HB4.out.cells HYA.out).more
                  clear HE4 HB4 HE3 HB3 hk2 hl2 HFE HFR
                  obtain ⟨e2, he2⟩ : ∃ b, b = (eb || !bm) := ⟨_, rfl⟩
                  have HE2' : Hid (e2 = true ↔ s2.e ≠ -1) := HE2.out e2 he2
                  have HE2D := Lib.hid he2
                  clear he2 HE2
                  go_upto_region 28 with fail
                  go_cut [14] (fun v wx => v = .bool e2 ∧ wx = wr)
                  case first =>
                    as_aux_lemma =>
                    cases eb with
                    | true =>
                      go_wp2_with fail
                      go_meet
                      exact ⟨by rw [HE2D.out]; rfl, rfl⟩
                    | false =>
                      cases bm with
                      | true =>
                        go_wp2_with fail
                        go_meet
                        exact ⟨by rw [HE2D.out]; rfl, rfl⟩
                      | false =>
                        go_wp2_with fail
                        go_meet
                        exact ⟨by rw [HE2D.out]; rfl, rfl⟩
                  case rest =>
                    as_aux_lemma =>
                    obtain ⟨rfl, hw'⟩ := hcut
                    obtain rfl := hw'.symm
                    clear hw' c41 c45 m1
                    obtain ⟨al, hal⟩ : ∃ b, b = allN (fun n => TT T py (n : Int)) qdn := ⟨_, rfl⟩
                    have HDN : Hid (doneB s2 = (e2 && al)) := by
                      show _ = _
                      rw [HJS2.out.don, hal, HJC.out.off.2.2.1, ← HQN.out]
                      congr 1
                      rw [Bool.eq_iff_iff, HE2'.out, decide_eq_true_eq]
                    have KC : Hid (∀ W, Away [] wr W → Calls Tryz.prog 14 #[.slice (some ⟨gB, 0, none⟩) qdn qdn, .int .i64 (qdn : Int)] W fun E w' => E = .returned (.bool al) ∧ w' = W) := fun W hW => by
                      rw [hal]
                      exact covered_e W gB qdn qdn _ qdn (by omega) (by omega) (HE5.out.bk.on hW).row
                    clear hal
                    have HNW : Hid (nn = if fr = true then (if (e2 && al) = true then 6 else 5) else 3) := by
                      show _ = _
                      rw [HPR.out, HDN.out]
                    go_upto_if 154 with fail
                    go_cut [20] (fun v wx => v = .int .i64 nn ∧ wx = wr)
                    case first =>
                      as_aux_lemma =>
                      cases fr with
                      | false =>
                        go_wp2_with fail
                        go_meet
                        exact ⟨by rw [HNW.out]; rfl, rfl⟩
                      | true =>
                        cases e2 with
                        | false =>
                          go_wp2_with fail
                          go_meet
                          exact ⟨by rw [HNW.out]; rfl, rfl⟩
                        | true =>
                          have K3 := Lib.hid (KC.out wr (Away.refl _ _))
                          cases al with
                          | true =>
                            go_wp2_with fail
                            refine K3.out.mono ?_
                            rintro E vz ⟨rfl, hwz⟩
                            obtain rfl := hwz.symm
                            clear hwz
                            go_wp2_with fail
                            go_meet
                            exact ⟨by rw [HNW.out]; rfl, rfl⟩
                          | false =>
                            go_wp2_with fail
                            refine K3.out.mono ?_
                            rintro E vz ⟨rfl, hwz⟩
                            obtain rfl := hwz.symm
                            clear hwz
                            go_wp2_with fail
                            go_meet
                            exact ⟨by rw [HNW.out]; rfl, rfl⟩
                    case rest =>
                      as_aux_lemma =>
                      obtain ⟨rfl, hw'⟩ := hcut
                      obtain rfl := hw'.symm
                      clear hw' HNW HPR
                      obtain ⟨pw, hpw⟩ : ∃ z, z = (wholeP s2).1 := ⟨_, rfl⟩
                      have HADW : Hid (Ad pw) := by show Ad _; rw [hpw]; exact whole_ad HJS2.out.jx.jn.hd.iv
                      have hw2 : (wholeP s2).2 = (e2 && al) := by
                        rw [← HDN.out]
                        unfold wholeP
                        rw [HJS2.out.jx.jn.hd.ok]
                        cases hd : doneB s2 with
                        | true => rw [if_neg (by simp)]
                        | false => rw [if_pos (by simp)]
                      have K4 := ewhole_c HE5.out.ey
                      unfold TellOut at K4
                      rw [hw2, ← hpw] at K4
                      replace K4 := Lib.hid K4
                      have HPW : Hid (e2 = true → al = true → pw = wholeQ q (firstP s2).1) := fun h1 h2 => by
                        have h := (HJS2.out.whole HJC.out (by rw [HDN.out, h1, h2]; rfl)).1
                        rw [hpw, h]
                      clear hpw hw2
                      go_wp2_with (go_at_call 15; refine K4.out.mono ?_; refine Hid.out ?_)
                      refine Lib.hid ?_
                      first
                        | rintro E v3 wo wd rfl hmw haw
                        | rintro E v3 ⟨wo, wd, rfl, hmw, haw⟩
                      have HMW := Lib.hid hmw
                      have HO2 := Lib.hid hmw.o.one
                      have HD2 := Lib.hid hmw.d.one
                      have HE6 := Lib.hid (HE5.out.on haw)
                      have HLT3 : Hid (∀ z, wo.ownBlock = some z ∨ wd.ownBlock = some z → z < v3.heap.size) := fun z hz => (hmw.lto z hz).1
                      have HAV : Hid (Away [] wr v3) := haw
                      clear hmw haw K4 HE5
                      go_wp2_with (refine wpList_new28 rfl rfl rfl _ _ rfl pw wo wd (fun g => rfl) (fun g => rfl) HADW.out HO2.out HD2.out ?_; refine Hid.out ?_)
                      refine Lib.hid ?_
                      intro g21 v4 hg21 hb21 haw
                      have HB21 := Lib.hid hb21
                      have HE7 := Lib.hid (HE6.out.on haw)
                      have HMW4 := Lib.hid (HMW.out.on haw)
                      have HAV4 := Lib.hid (HAV.out.trans haw)
                      clear hb21 haw hg21 HE6 HMW HAV HLT3 HO2 HD2
                      go_upto_region 35 with fail
                      go_cut [191] (fun v wx => v = .bool false ∧ Away [] v4 wx)
                      case first =>
                        as_aux_lemma =>
                        have hnq : (nn != nn) = false := by simp
                        have hnd : decide (nn = nn) = true := by simp
                        cases e2 with
                        | false =>
                          refine wp_region_cls (C := fun w' => Away [] v4 w') (by kernel_rfl) (by kernel_rfl) (Away.refl _ _).drew ?_
                          go_big_quiet_want; (refine quiet_val ?_ ?_ ?_; rotate_left; (intro w; go_simp; rfl); go_simp; go_big_quiet_on)
                          go_big_quiet_want; (refine quiet_val ?_ ?_ ?_; rotate_left; (intro w; go_simp; rfl); go_simp; go_big_quiet_on)
                          go_big_quiet_want; (refine quiet_val ?_ ?_ ?_; rotate_left; (intro w; go_simp; rfl); go_simp; go_big_quiet_on)
                          go_big_quiet_want; (refine quiet_val ?_ ?_ ?_; rotate_left; (intro w; go_simp; rfl); go_simp; go_big_quiet_on)
                          go_big_quiet_want; (refine quiet_val ?_ ?_ ?_; rotate_left; (intro w; go_simp; rfl); go_simp; go_big_quiet_on)
                          go_big_quiet_want; (refine quiet_val ?_ ?_ ?_; rotate_left; (intro w; go_simp; rfl); go_simp; go_big_quiet_on)
                          go_big_quiet_want; (refine quiet_val ?_ ?_ ?_; rotate_left; (intro w; go_simp; rfl); go_simp; go_big_quiet_on)
                          go_big_quiet_skip
                          go_big_quiet_skip
                          go_big_quiet_skip
                          go_big_quiet_skip
                          go_big_quiet_want; (refine quiet_val ?_ ?_ ?_; rotate_left; (intro w; go_simp; rfl); go_simp; go_big_quiet_on)
                          go_big_quiet_want; (refine quiet_val ?_ ?_ ?_; rotate_left; (intro w; go_simp; rfl); go_simp; go_big_quiet_on)
                          go_big_quiet_want; (refine quiet_val ?_ ?_ ?_; rotate_left; (intro w; go_simp; rfl); go_simp; go_big_quiet_on)
                          go_big_quiet_want; (refine quiet_val ?_ ?_ ?_; rotate_left; (intro w; go_simp; rfl); go_simp; go_big_quiet_on)
                          go_big_quiet_want; (refine quiet_val ?_ ?_ ?_; rotate_left; (intro w; go_simp; rfl); go_simp; go_big_quiet_on)
                          go_big_quiet_want; (refine quiet_val ?_ ?_ ?_; rotate_left; (intro w; go_simp; rfl); go_simp; go_big_quiet_on)
                          go_big_quiet_skip
                          go_big_quiet_skip
                          go_big_quiet_skip
                          go_big_quiet_skip
                          go_big_quiet_skip
                          go_big_quiet_skip
                          go_big_quiet_want; (refine quiet_val ?_ ?_ ?_; rotate_left; (intro w; go_simp; rfl); go_simp; go_big_quiet_on)
                          go_big_quiet_want; (refine quiet_val ?_ ?_ ?_; rotate_left; (intro w; go_simp; rfl); go_simp; go_big_quiet_on)
                          refine wpQuiet_nil ?_
                          intro V hV
                          go_wp2_with fail
                          go_meet
                          exact ⟨rfl, hV⟩
                        | true =>
                          cases al with
                          | false =>
                            refine wp_region_cls (C := fun w' => Away [] v4 w') (by kernel_rfl) (by kernel_rfl) (Away.refl _ _).drew ?_
                            go_big_quiet_want; (refine quiet_val ?_ ?_ ?_; rotate_left; (intro w; go_simp; rfl); go_simp; go_big_quiet_on)
                            go_big_quiet_want; (refine quiet_val ?_ ?_ ?_; rotate_left; (intro w; go_simp; rfl); go_simp; go_big_quiet_on)
                            go_big_quiet_want; (refine quiet_val ?_ ?_ ?_; rotate_left; (intro w; go_simp; rfl); go_simp; go_big_quiet_on)
                            go_big_quiet_want; (refine quiet_val ?_ ?_ ?_; rotate_left; (intro w; go_simp; rfl); go_simp; go_big_quiet_on)
                            go_big_quiet_want; (refine quiet_val ?_ ?_ ?_; rotate_left; (intro w; go_simp; rfl); go_simp; go_big_quiet_on)
                            go_big_quiet_want; (refine quiet_val ?_ ?_ ?_; rotate_left; (intro w; go_simp; rfl); go_simp; go_big_quiet_on)
                            go_big_quiet_want; (refine quiet_val ?_ ?_ ?_; rotate_left; (intro w; go_simp; rfl); go_simp; go_big_quiet_on)
                            go_big_quiet_want; (refine quiet_val ?_ ?_ ?_; rotate_left; (intro w; go_simp; rfl); go_simp; go_big_quiet_on)
                            go_big_quiet_want; (refine quiet_val ?_ ?_ ?_; rotate_left; (intro w; go_simp; rfl); go_simp; go_big_quiet_on)
                            go_big_quiet_want; (refine quiet_val ?_ ?_ ?_; rotate_left; (intro w; go_simp; rfl); go_simp; go_big_quiet_on)
                            go_big_quiet_want; refine quiet_call 14 #[.slice (some ⟨gB, 0, none⟩) qdn qdn, .int .i64 (qdn : Int)] (.bool false) ?_ (fun W hW => (KC.out W (HAV4.out.trans hW)).mono (fun E w1 h => ⟨h.1, by rw [h.2]; exact hW⟩)) ?_
                            · intro w; go_simp; all_goals (with_reducible rfl)
                            go_simp; go_big_quiet_on
                            go_big_quiet_want; (refine quiet_val ?_ ?_ ?_; rotate_left; (intro w; go_simp; rfl); go_simp; go_big_quiet_on)
                            go_big_quiet_want; (refine quiet_val ?_ ?_ ?_; rotate_left; (intro w; go_simp; rfl); go_simp; go_big_quiet_on)
                            go_big_quiet_want; (refine quiet_val ?_ ?_ ?_; rotate_left; (intro w; go_simp; rfl); go_simp; go_big_quiet_on)
                            go_big_quiet_want; (refine quiet_val ?_ ?_ ?_; rotate_left; (intro w; go_simp; rfl); go_simp; go_big_quiet_on)
                            go_big_quiet_want; (refine quiet_val ?_ ?_ ?_; rotate_left; (intro w; go_simp; rfl); go_simp; go_big_quiet_on)
                            go_big_quiet_want; (refine quiet_val ?_ ?_ ?_; rotate_left; (intro w; go_simp; rfl); go_simp; go_big_quiet_on)
                            go_big_quiet_skip
                            go_big_quiet_skip
                            go_big_quiet_skip
                            go_big_quiet_skip
                            go_big_quiet_skip
                            go_big_quiet_skip
                            go_big_quiet_want; (refine quiet_val ?_ ?_ ?_; rotate_left; (intro w; go_simp; rfl); go_simp; go_big_quiet_on)
                            go_big_quiet_want; (refine quiet_val ?_ ?_ ?_; rotate_left; (intro w; go_simp; rfl); go_simp; go_big_quiet_on)
                            refine wpQuiet_nil ?_
                            intro V hV
                            go_wp2_with fail
                            go_meet
                            exact ⟨rfl, hV⟩
                          | true =>
                            have HPQV : Hid (pw = wholeQ q (firstP s2).1) := HPW.out rfl rfl
                            have KW : Hid (∀ W, Away [] v4 W → Calls Tryz.prog 17 #[.agg (csP q (.slice qoa qon qoc) (.slice qda qdn qdc)), .pointer (some ⟨g, 0, none⟩)] W fun E w' => ∃ o d, E = .returned (.agg (csP pw o d)) ∧ Mine w' W.heap.size pw o d ∧ Away [] W w') := fun W hW => by
                              rw [HPQV.out]
                              exact whole_e (HE7.out.on hW).ey q _ _ (HPQ6.out.on (HE7.out.aw.trans hW))
                            have HWPW : Hid (Wf pw) := by
                              show Wf pw
                              rw [HPQV.out]
                              exact wholeQ_wf HPQ6.out.wf (first_ttl HJS2.out.jx.jn.hd.iv)
                            have KS : Hid (∀ W zo zd, Away [] v4 W → (∃ B, Mine W B pw zo zd) → Calls Tryz.prog 16 #[.agg (csP pw wo wd), .agg (csP pw zo zd)] W fun E w' => E = .returned (.bool true) ∧ Away [] W w') := fun W zo zd hW ⟨B, hm⟩ => sameP_yes pw pw wo wd zo zd W ((HMW4.out.on hW).pkt HWPW.out) (hm.pkt HWPW.out) rfl
                            have HZ : Hid (Away [] v4 v4.drew) := (Away.refl _ _).drew
                            refine wp_region_held_drew (S := fun w' => Away [] v4 w') (by kernel_rfl) (by exact (Away.refl _ _).drew) (fun hHeld => ?_)
                            refine wpAnyH_take (i := 0) (v := ?_) (by simp only [List.getElem?_toArray, List.getElem?_cons_zero]; rfl) (by kernel_rfl) (by kernel_rfl) (by kernel_rfl) (by exact fun _ _ _ h => h) (Or.inl ⟨by rfl, ?_⟩) (by assumption) ?_
                            rotate_left
                            · intro wq hSw
                              (try dsimp only at hSw)
                              go_simp
                              all_goals (with_reducible rfl)
                            try simp only [Act.put, List.setIfInBounds_toArray, List.set_cons_zero, List.set_cons_succ]
                            refine wpAnyH_take (i := 1) (v := ?_) (by simp only [List.getElem?_toArray, List.getElem?_cons_succ, List.getElem?_cons_zero]; rfl) (by kernel_rfl) (by kernel_rfl) (by kernel_rfl) (by exact fun _ _ _ h => h) (Or.inl ⟨by rfl, ?_⟩) (by assumption) ?_
                            rotate_left
                            · intro wq hSw
                              (try dsimp only at hSw)
                              go_simp
                              all_goals (with_reducible rfl)
                            try simp only [Act.put, List.setIfInBounds_toArray, List.set_cons_zero, List.set_cons_succ]
                            refine wpAnyH_take (i := 2) (v := ?_) (by simp only [List.getElem?_toArray, List.getElem?_cons_succ, List.getElem?_cons_zero]; rfl) (by kernel_rfl) (by kernel_rfl) (by kernel_rfl) (by exact fun _ _ _ h => h) (Or.inl ⟨by rfl, ?_⟩) (by assumption) ?_
                            rotate_left
                            · intro wq hSw
                              (try dsimp only at hSw)
                              go_simp
                              all_goals (with_reducible rfl)
                            try simp only [Act.put, List.setIfInBounds_toArray, List.set_cons_zero, List.set_cons_succ]
                            refine wpAnyH_take (i := 3) (v := ?_) (by simp only [List.getElem?_toArray, List.getElem?_cons_succ, List.getElem?_cons_zero]; rfl) (by kernel_rfl) (by kernel_rfl) (by kernel_rfl) (by exact fun _ _ _ h => h) (Or.inl ⟨by rfl, ?_⟩) (by assumption) ?_
                            rotate_left
                            · intro wq hSw
                              (try dsimp only at hSw)
                              go_simp
                              all_goals (with_reducible rfl)
                            try simp only [Act.put, List.setIfInBounds_toArray, List.set_cons_zero, List.set_cons_succ]
                            refine wpAnyH_take (i := 4) (v := ?_) (by simp only [List.getElem?_toArray, List.getElem?_cons_succ, List.getElem?_cons_zero]; rfl) (by kernel_rfl) (by kernel_rfl) (by kernel_rfl) (by exact fun _ _ _ h => h) (Or.inl ⟨by rfl, ?_⟩) (by assumption) ?_
                            rotate_left
                            · intro wq hSw
                              (try dsimp only at hSw)
                              go_simp
                              all_goals (with_reducible rfl)
                            try simp only [Act.put, List.setIfInBounds_toArray, List.set_cons_zero, List.set_cons_succ]
                            refine wpAnyH_take (i := 5) (v := ?_) (by simp only [List.getElem?_toArray, List.getElem?_cons_succ, List.getElem?_cons_zero]; rfl) (by kernel_rfl) (by kernel_rfl) (by kernel_rfl) (by exact fun _ _ _ h => h) (Or.inl ⟨by rfl, ?_⟩) (by assumption) ?_
                            rotate_left
                            · intro wq hSw
                              (try dsimp only at hSw)
                              go_simp
                              all_goals (with_reducible rfl)
                            try simp only [Act.put, List.setIfInBounds_toArray, List.set_cons_zero, List.set_cons_succ]
                            refine wpAnyH_take (i := 6) (v := ?_) (by simp only [List.getElem?_toArray, List.getElem?_cons_succ, List.getElem?_cons_zero]; rfl) (by kernel_rfl) (by kernel_rfl) (by kernel_rfl) (by exact fun _ _ _ h => h) (Or.inl ⟨by rfl, ?_⟩) (by assumption) ?_
                            rotate_left
                            · intro wq hSw
                              (try dsimp only at hSw)
                              go_simp
                              all_goals (with_reducible rfl)
                            try simp only [Act.put, List.setIfInBounds_toArray, List.set_cons_zero, List.set_cons_succ]
                            refine wpAnyH_take (i := 7) (v := ?_) (by simp only [List.getElem?_toArray, List.getElem?_cons_succ, List.getElem?_cons_zero]; rfl) (by kernel_rfl) (by kernel_rfl) (by kernel_rfl) (by exact fun _ _ _ h => h) (Or.inl ⟨by rfl, ?_⟩) (by assumption) ?_
                            rotate_left
                            · intro wq hSw
                              (try dsimp only at hSw)
                              go_simp
                              all_goals (with_reducible rfl)
                            try simp only [Act.put, List.setIfInBounds_toArray, List.set_cons_zero, List.set_cons_succ]
                            refine wpAnyH_take (i := 8) (v := ?_) (by simp only [List.getElem?_toArray, List.getElem?_cons_succ, List.getElem?_cons_zero]; rfl) (by kernel_rfl) (by kernel_rfl) (by kernel_rfl) (by exact fun _ _ _ h => h) (Or.inl ⟨by rfl, ?_⟩) (by assumption) ?_
                            rotate_left
                            · intro wq hSw
                              (try dsimp only at hSw)
                              go_simp
                              all_goals (with_reducible rfl)
                            try simp only [Act.put, List.setIfInBounds_toArray, List.set_cons_zero, List.set_cons_succ]
                            refine wpAnyH_take (i := 9) (v := ?_) (by simp only [List.getElem?_toArray, List.getElem?_cons_succ, List.getElem?_cons_zero]; rfl) (by kernel_rfl) (by kernel_rfl) (by kernel_rfl) (by exact fun _ _ _ h => h) (Or.inl ⟨by rfl, ?_⟩) (by assumption) ?_
                            rotate_left
                            · intro wq hSw
                              (try dsimp only at hSw)
                              go_simp
                              all_goals (with_reducible rfl)
                            try simp only [Act.put, List.setIfInBounds_toArray, List.set_cons_zero, List.set_cons_succ]
                            refine wpAnyH_ready (rs := [10]) (by kernel_rfl) (by simp) ?_
                            refine AllReadyH.cons (by simp only [List.getElem?_toArray, List.getElem?_cons_succ, List.getElem?_cons_zero]; rfl) (fun K hK => ?_) AllReadyH.nil
                            go_simp
                            refine ((KC.out _ (HAV4.out.trans HZ.out)).mono ?_)
                            rintro E u10 ⟨rfl, hwz⟩
                            obtain rfl := hwz.symm
                            clear hwz
                            go_wp2_with fail
                            refine hK.out _ _ (by exact HZ.out) (fun hHeld => ?_)
                            clear hK K
                            try simp only [Act.put, List.setIfInBounds_toArray, List.set_cons_zero, List.set_cons_succ]
                            refine wpAnyH_take (i := 11) (v := ?_) (by simp only [List.getElem?_toArray, List.getElem?_cons_succ, List.getElem?_cons_zero]; rfl) (by kernel_rfl) (by kernel_rfl) (by kernel_rfl) (by exact fun _ _ _ h => h) (Or.inl ⟨by rfl, ?_⟩) (by assumption) ?_
                            rotate_left
                            · intro wq hSw
                              (try dsimp only at hSw)
                              go_simp
                              all_goals (with_reducible rfl)
                            try simp only [Act.put, List.setIfInBounds_toArray, List.set_cons_zero, List.set_cons_succ]
                            refine wpAnyH_take (i := 12) (v := ?_) (by simp only [List.getElem?_toArray, List.getElem?_cons_succ, List.getElem?_cons_zero]; rfl) (by kernel_rfl) (by kernel_rfl) (by kernel_rfl) (by exact fun _ _ _ h => h) (Or.inl ⟨by rfl, ?_⟩) (by assumption) ?_
                            rotate_left
                            · intro wq hSw
                              (try dsimp only at hSw)
                              go_simp
                              all_goals (with_reducible rfl)
                            try simp only [Act.put, List.setIfInBounds_toArray, List.set_cons_zero, List.set_cons_succ]
                            refine wpAnyH_take (i := 13) (v := ?_) (by simp only [List.getElem?_toArray, List.getElem?_cons_succ, List.getElem?_cons_zero]; rfl) (by kernel_rfl) (by kernel_rfl) (by kernel_rfl) (by exact fun _ _ _ h => h) (Or.inl ⟨by rfl, ?_⟩) (by assumption) ?_
                            rotate_left
                            · intro wq hSw
                              (try dsimp only at hSw)
                              go_simp
                              all_goals (with_reducible rfl)
                            try simp only [Act.put, List.setIfInBounds_toArray, List.set_cons_zero, List.set_cons_succ]
                            refine wpAnyH_take (i := 14) (v := ?_) (by simp only [List.getElem?_toArray, List.getElem?_cons_succ, List.getElem?_cons_zero]; rfl) (by kernel_rfl) (by kernel_rfl) (by kernel_rfl) (by exact fun _ _ _ h => h) (Or.inl ⟨by rfl, ?_⟩) (by assumption) ?_
                            rotate_left
                            · intro wq hSw
                              (try dsimp only at hSw)
                              go_simp
                              all_goals (with_reducible rfl)
                            try simp only [Act.put, List.setIfInBounds_toArray, List.set_cons_zero, List.set_cons_succ]
                            refine wpAnyH_take (i := 15) (v := ?_) (by simp only [List.getElem?_toArray, List.getElem?_cons_succ, List.getElem?_cons_zero]; rfl) (by kernel_rfl) (by kernel_rfl) (by kernel_rfl) (by exact fun _ _ _ h => h) (Or.inl ⟨by rfl, ?_⟩) (by assumption) ?_
                            rotate_left
                            · intro wq hSw
                              (try dsimp only at hSw)
                              go_simp
                              all_goals (with_reducible rfl)
                            try simp only [Act.put, List.setIfInBounds_toArray, List.set_cons_zero, List.set_cons_succ]
                            refine wpAnyH_take (i := 16) (v := ?_) (by simp only [List.getElem?_toArray, List.getElem?_cons_succ, List.getElem?_cons_zero]; rfl) (by kernel_rfl) (by kernel_rfl) (by kernel_rfl) (by exact fun _ _ _ h => h) (Or.inl ⟨by rfl, ?_⟩) (by assumption) ?_
                            rotate_left
                            · intro wq hSw
                              (try dsimp only at hSw)
                              go_simp
                              all_goals (with_reducible rfl)
                            try simp only [Act.put, List.setIfInBounds_toArray, List.set_cons_zero, List.set_cons_succ]
                            refine wpAnyH_take (i := 17) (by simp only [List.getElem?_toArray, List.getElem?_cons_succ, List.getElem?_cons_zero]; rfl) (by kernel_rfl) (by kernel_rfl) (by kernel_rfl) (by exact fun _ _ _ h => h) (yields_ld (ad := ⟨g21, 0, none⟩) (by rfl) _ rfl rfl (fun w' h => load28_run (HB21.out.on h) HADW.out)) (by assumption) ?_
                            try simp only [Act.put, List.setIfInBounds_toArray, List.set_cons_zero, List.set_cons_succ]
                            refine wpAnyH_take (i := 18) (by simp only [List.getElem?_toArray, List.getElem?_cons_succ, List.getElem?_cons_zero]; rfl) (by kernel_rfl) (by kernel_rfl) (by kernel_rfl) (by exact fun _ _ _ h => h) (yields_ld (ad := ⟨g9, 0, none⟩) (by rfl) _ rfl rfl (fun w' h => load28_run (HB9.out.on (HE7.out.aw.trans h)) HQA.out)) (by assumption) ?_
                            try simp only [Act.put, List.setIfInBounds_toArray, List.set_cons_zero, List.set_cons_succ]
                            refine wpAnyH_take (i := 19) (v := ?_) (by simp only [List.getElem?_toArray, List.getElem?_cons_succ, List.getElem?_cons_zero]; rfl) (by kernel_rfl) (by kernel_rfl) (by kernel_rfl) (by exact fun _ _ _ h => h) (Or.inl ⟨by rfl, ?_⟩) (by assumption) ?_
                            rotate_left
                            · intro wq hSw
                              (try dsimp only at hSw)
                              go_simp
                              all_goals (with_reducible rfl)
                            try simp only [Act.put, List.setIfInBounds_toArray, List.set_cons_zero, List.set_cons_succ]
                            refine wpAnyH_ready (rs := [20]) (by kernel_rfl) (by simp) ?_
                            refine AllReadyH.cons (by simp only [List.getElem?_toArray, List.getElem?_cons_succ, List.getElem?_cons_zero]; rfl) (fun K hK => ?_) AllReadyH.nil
                            go_simp
                            refine ((KW.out _ HZ.out).mono ?_)
                            rintro E u20 ⟨zo, zd, rfl, hmz, haw⟩
                            have HMZ := Lib.hid hmz
                            replace HZ := Lib.hid (HZ.out.trans haw)
                            clear hmz haw
                            go_wp2_with fail
                            refine hK.out _ _ (by exact HZ.out) (fun hHeld => ?_)
                            clear hK K
                            try simp only [Act.put, List.setIfInBounds_toArray, List.set_cons_zero, List.set_cons_succ]
                            refine wpAnyH_ready (rs := [21]) (by kernel_rfl) (by simp) ?_
                            refine AllReadyH.cons (by simp only [List.getElem?_toArray, List.getElem?_cons_succ, List.getElem?_cons_zero]; rfl) (fun K hK => ?_) AllReadyH.nil
                            go_simp
                            refine ((KS.out _ zo zd HZ.out ⟨_, HMZ.out⟩).mono ?_)
                            rintro E u21 ⟨rfl, haw⟩
                            replace HZ := Lib.hid (HZ.out.trans haw)
                            clear haw
                            go_wp2_with fail
                            refine hK.out _ _ (by exact HZ.out) (fun hHeld => ?_)
                            clear hK K
                            try simp only [Act.put, List.setIfInBounds_toArray, List.set_cons_zero, List.set_cons_succ]
                            refine wpAnyH_take (i := 22) (v := ?_) (by simp only [List.getElem?_toArray, List.getElem?_cons_succ, List.getElem?_cons_zero]; rfl) (by kernel_rfl) (by kernel_rfl) (by kernel_rfl) (by exact fun _ _ _ h => h) (Or.inl ⟨by rfl, ?_⟩) (by assumption) ?_
                            rotate_left
                            · intro wq hSw
                              (try dsimp only at hSw)
                              go_simp
                              all_goals (with_reducible rfl)
                            try simp only [Act.put, List.setIfInBounds_toArray, List.set_cons_zero, List.set_cons_succ]
                            refine wpAnyH_take (i := 23) (v := ?_) (by simp only [List.getElem?_toArray, List.getElem?_cons_succ, List.getElem?_cons_zero]; rfl) (by kernel_rfl) (by kernel_rfl) (by kernel_rfl) (by exact fun _ _ _ h => h) (Or.inl ⟨by rfl, ?_⟩) (by assumption) ?_
                            rotate_left
                            · intro wq hSw
                              (try dsimp only at hSw)
                              go_simp
                              all_goals (with_reducible rfl)
                            try simp only [Act.put, List.setIfInBounds_toArray, List.set_cons_zero, List.set_cons_succ]
                            refine wpAnyH_take (i := 24) (v := ?_) (by simp only [List.getElem?_toArray, List.getElem?_cons_succ, List.getElem?_cons_zero]; rfl) (by kernel_rfl) (by kernel_rfl) (by kernel_rfl) (by exact fun _ _ _ h => h) (Or.inl ⟨by rfl, ?_⟩) (by assumption) ?_
                            rotate_left
                            · intro wq hSw
                              (try dsimp only at hSw)
                              go_simp
                              all_goals (with_reducible rfl)
                            try simp only [Act.put, List.setIfInBounds_toArray, List.set_cons_zero, List.set_cons_succ]
                            refine wpAnyH_done (by kernel_rfl) ?_ _
                            go_wp2_with fail
                            go_meet
                            exact ⟨rfl, HZ.out⟩
                      case rest =>
                        as_aux_lemma =>
                        obtain ⟨rfl, haw⟩ := hcut
                        have HE8 := Lib.hid (HE7.out.on haw)
                        have HSM : Hid (∀ y, py = y → y.more = false → s2.e ≠ -1) := fun y h1 h2 => by
                          have h := HE2'.out
                          rw [HE2D.out, HBM.out, h1, h2] at h
                          exact h.1 (by simp)
                        have HJN : Hid (Jl w6 q x c m x0.p on g gB qdn (k + 1) e2 fp2 s2 (TT T py) (YY Y py) wc) := by
                          refine ⟨HE8.out, HJS2.out, HE2'.out, fun j' hj' y hy => ?_⟩
                          by_cases hlt2 : on + j' < k
                          · have h := HL.out.dn j' hlt2 y hy
                            refine ⟨all_mono h.1, fun hm => ?_⟩
                            have h1 := h.2 hm
                            have h2 := HE2'.out
                            rw [HE2D.out] at h2
                            rw [HL.out.en.2 h1] at h2
                            exact h2.1 (by simp)
                          · have h1 := HJ2.out (by omega)
                            have h2 : j' = J := by omega
                            have h3 := HPY.out
                            rw [← h2, hy] at h3
                            have h4 : py = y := (Option.some.inj h3).symm
                            subst h4
                            exact ⟨all_self, fun hm => HSM.out py rfl hm⟩
                        clear haw HE8 HE7 HSM HJ2 HPY
                        go_wp2_with fail
                        go_roundw
                        case rel => exact ⟨k + 1, fp2, s2, TT T py, YY Y py, e2, by omega, rfl, by go_num, HJN.out⟩
                        case measure => simp [intOf]; omega
        · as_aux_lemma =>
          have hke : k = on + n := by omega
          subst hke
          have i6 : ¬ (((on + n : Nat) : Int) < ((on + n : Nat) : Int)) := by omega
          have hdn : doneB s = true := HL.out.js.full HJC.out (fun y hy => by
            obtain ⟨j, hj, hyj⟩ := List.getElem_of_mem hy
            have hcn := HCN.out
            rw [List.length_append] at hcn
            refine HL.out.dn j (by omega) y ?_
            rw [List.getElem?_append_left hj, List.getElem?_eq_getElem hj, hyj])
          obtain ⟨hw1, hw2⟩ := HL.out.js.whole HJC.out hdn
          obtain ⟨hl1, hl2⟩ := HL.out.js.last HJC.out hdn
          obtain ⟨pw, hpw⟩ : ∃ z, z = (wholeP s).1 := ⟨_, rfl⟩
          have HADW : Hid (Ad pw) := by show Ad _; rw [hpw]; exact whole_ad HL.out.js.jx.jn.hd.iv
          have hpd : pw.d = q.d := by rw [hpw]; exact hw2
          have HPD := Lib.hid hpd
          have hw3 : (wholeP s).2 = true := by rw [hw1]
          have K4 := ewhole_c HL.out.mem.ey
          unfold TellOut at K4
          rw [hw3, ← hpw] at K4
          replace K4 := Lib.hid K4
          have HEL := Lib.hid HL.out.mem
          have hin := HL.out.mem.ey.ent
          have K6 : Hid (∀ W, Away [] wr W → Calls Tryz.prog 13 #[.pointer (some ⟨g, 0, none⟩)] W fun E w' => E = .returned (.int .i64 0) ∧ Away [] W w') := fun W hW => by
            have h := eholes_c (hin.on hW)
            rw [hl1] at h
            exact h
          have K7 : Hid (∀ W, Away [] wr W → Calls Tryz.prog 19 #[.pointer (some ⟨g, 0, none⟩)] W fun E w' => E = .returned (.int .i64 (qdn : Int)) ∧ w' = W) := fun W hW => by
            have h := bytes_c (hin.on hW)
            rw [hl2, ← HQN.out] at h
            exact h
          have HQD := Lib.hid HPQ6.out.d
          clear hdn hw1 hw2 hl1 hl2 hpw hpd hw3 hin HL
          go_wp2_with (go_at_call 15; refine K4.out.mono ?_; refine Hid.out ?_)
          refine Lib.hid ?_
          first
            | rintro E v3 wo wd rfl hmw haw
            | rintro E v3 ⟨wo, wd, rfl, hmw, haw⟩
          obtain ⟨wa, wn, wcp, hws⟩ := hmw.d.shp
          subst hws
          have HMW := Lib.hid hmw
          have HO2 := Lib.hid hmw.o.one
          have HAV := Lib.hid haw
          have HE6 := Lib.hid (HEL.out.on haw)
          clear hmw haw K4
          go_wp2_with (refine wpList_new28 rfl rfl rfl _ _ rfl pw wo (.slice wa wn wcp) (fun g => rfl) (fun g => rfl) HADW.out HO2.out rfl ?_; refine Hid.out ?_)
          refine Lib.hid ?_
          intro g23 v4 hg23 hb23 haw
          have HB23 := Lib.hid hb23
          have HAV4 := Lib.hid (HAV.out.trans haw)
          have HE7 := Lib.hid (HE6.out.on haw)
          have HSL : Hid (Sl v4 (.slice wa wn wcp) pw.d) := (HMW.out.on haw).d.sl (by rw [HPD.out]; exact HQW.out.d) (by rw [HPD.out]; exact HQW.out.dn)
          have HA6 : Hid (Away [] w6 v4) := HE7.out.aw
          clear hb23 haw hg23 HO2 HAV HE6 HMW
          have KS : Hid (∀ W, Away [] v4 W → Calls Tryz.prog 18 #[.slice wa wn wcp, .slice qda qdn qdc] W fun E w' => E = .returned (.bool true) ∧ Away [] v4 w') := fun W hW => by
            obtain ⟨q1, q2, q3, q4⟩ := (HSL.out.on hW).of
            obtain ⟨r1, r2, r3, r4⟩ := (HQD.out.on (HA6.out.trans hW)).of
            refine (same_yes wa qda pw.d q.d wn qdn wcp qdc W q1 r1 q3 r3 q4 r4 HPD.out).mono (fun E w' h => ⟨h.1, by rw [h.2]; exact hW⟩)
          go_upto_region 38 with fail
          refine wp_region_cls (C := fun w' => Away [] v4 w') (by kernel_rfl) (by kernel_rfl) (Away.refl _ _).drew ?_
          go_big_quiet_want; (refine quiet_val ?_ ?_ ?_; rotate_left; (intro w; go_simp; rfl); go_simp; go_big_quiet_on)
          go_big_quiet_want; (refine quiet_val ?_ ?_ ?_; rotate_left; (intro w; go_simp; rfl); go_simp; go_big_quiet_on)
          go_big_quiet_want; (refine quiet_val ?_ ?_ ?_; rotate_left; (intro w; go_simp; rfl); go_simp; go_big_quiet_on)
          go_big_quiet_want; refine quiet_ld _ rfl (ad := ⟨g23, 45, none⟩) rfl (fun w' h => ld26 ((HB23.out.on h).cells HADW.out).d) ?_; go_simp; go_big_quiet_on
          go_big_quiet_want; (refine quiet_val ?_ ?_ ?_; rotate_left; (intro w; go_simp; rfl); go_simp; go_big_quiet_on)
          go_big_quiet_want; refine quiet_ld _ rfl (ad := ⟨g9, 45, none⟩) rfl (fun w' h => ld26 ((HB9.out.on (HA6.out.trans h)).cells HQA.out).d) ?_; go_simp; go_big_quiet_on
          go_big_quiet_want; refine quiet_call 18 #[.slice wa wn wcp, .slice qda qdn qdc] (.bool true) ?_ KS.out ?_
          · intro w; go_simp; all_goals (with_reducible rfl)
          go_simp; go_big_quiet_on
          go_big_quiet_want; (refine quiet_val ?_ ?_ ?_; rotate_left; (intro w; go_simp; rfl); go_simp; go_big_quiet_on)
          go_big_quiet_want; (refine quiet_val ?_ ?_ ?_; rotate_left; (intro w; go_simp; rfl); go_simp; go_big_quiet_on)
          go_big_quiet_want; (refine quiet_val ?_ ?_ ?_; rotate_left; (intro w; go_simp; rfl); go_simp; go_big_quiet_on)
          go_big_quiet_want; refine quiet_call 13 #[.pointer (some ⟨g, 0, none⟩)] (.int .i64 0) ?_ (fun W hW => (K6.out W (HAV4.out.trans hW)).mono (fun E w1 h => ⟨h.1, hW.trans h.2⟩)) ?_
          · intro w; go_simp; all_goals (with_reducible rfl)
          go_simp; go_big_quiet_on
          go_big_quiet_want; (refine quiet_val ?_ ?_ ?_; rotate_left; (intro w; go_simp; rfl); go_simp; go_big_quiet_on)
          go_big_quiet_want; (refine quiet_val ?_ ?_ ?_; rotate_left; (intro w; go_simp; rfl); go_simp; go_big_quiet_on)
          go_big_quiet_want; (refine quiet_val ?_ ?_ ?_; rotate_left; (intro w; go_simp; rfl); go_simp; go_big_quiet_on)
          go_big_quiet_want; (refine quiet_val ?_ ?_ ?_; rotate_left; (intro w; go_simp; rfl); go_simp; go_big_quiet_on)
          go_big_quiet_want; refine quiet_call 19 #[.pointer (some ⟨g, 0, none⟩)] (.int .i64 (qdn : Int)) ?_ (fun W hW => (K7.out W (HAV4.out.trans hW)).mono (fun E w1 h => ⟨h.1, by rw [h.2]; exact hW⟩)) ?_
          · intro w; go_simp; all_goals (with_reducible rfl)
          go_simp; go_big_quiet_on
          go_big_quiet_want; (refine quiet_val ?_ ?_ ?_; rotate_left; (intro w; go_simp; rfl); go_simp; go_big_quiet_on)
          go_big_quiet_want; refine quiet_ld _ rfl (ad := ⟨g9, 45, none⟩) rfl (fun w' h => ld26 ((HB9.out.on (HA6.out.trans h)).cells HQA.out).d) ?_; go_simp; go_big_quiet_on
          go_big_quiet_want; (refine quiet_val ?_ ?_ ?_; rotate_left; (intro w; go_simp; rfl); go_simp; go_big_quiet_on)
          go_big_quiet_want; (refine quiet_val ?_ ?_ ?_; rotate_left; (intro w; go_simp; rfl); go_simp; go_big_quiet_on)
          go_big_quiet_want; (refine quiet_val ?_ ?_ ?_; rotate_left; (intro w; go_simp; rfl); go_simp; go_big_quiet_on)
          go_big_quiet_want; (refine quiet_val ?_ ?_ ?_; rotate_left; (intro w; go_simp; rfl); go_simp; go_big_quiet_on)
          refine wpQuiet_nil ?_
          intro V hV
          go_wp2_with fail
          go_ret
          exact ⟨rfl, ((HA.out.trans HA6.out).trans hV).to_below⟩
end entryJoins
open R
namespace entryJoins
theorem contract (H : Type) (enc : TypeId × Value → H) (W : World) (base : Nat) (args : Array Value) (ds gs : List (DataW H)) (before : List MemPlace)
    (hval0 : ∀ (j : Nat) t v, Tryz.f3.params[j]? = some t → args[j]? = some v → Value.okWide Tryz.prog W .any base t v)
    (hW : DataW.Whole enc Tryz.prog Tryz.f3.params.toList Rows.entryJoinsSpec.vars false W args.toList ds gs before)
    (hsz0 : (DataW.weightsEach Tryz.prog (Tryz.f3.params.toList ++ Rows.entryJoinsSpec.plain.varTypes Tryz.prog) (ds ++ gs)).all (· ≤ reachBytes) = true)
    (hL : laidMetH Tryz.prog Rows.entryJoinsRow.laid W) :
    Calls Tryz.prog 3 args W fun e W' => ∃ v, e = .returned v ∧ Rows.entryJoinsSpec.post enc Tryz.prog Tryz.f3 false true false false W args v W' := by
  have hval := hval0
  have hsz := hsz0
  have hW' := hW
  obtain ⟨p, q, hA0, hV, rfl, hfz, hnd⟩ := hW
  have hA : DataW.TrodAll enc Tryz.prog W 0 (fun _ => true) true Tryz.f3.params.toList args.toList ds p := hA0
  rw [Tryz.params3] at hA hval hsz
  obtain ⟨v0, vs0, d0, ds0, p0, q0, hargs, rfl, rfl, h0, r0⟩ := trodAll_cons hA
  obtain ⟨v1, vs1, d1, ds1, p1, q1, rfl, rfl, rfl, h1, r1⟩ := trodAll_cons r0
  obtain ⟨v2, vs2, d2, ds2, p2, q2, rfl, rfl, rfl, h2, r2⟩ := trodAll_cons r1
  obtain ⟨v3, vs3, d3, ds3, p3, q3, rfl, rfl, rfl, h3, r3⟩ := trodAll_cons r2
  obtain ⟨rfl, rfl, rfl⟩ := trodAll_nil r3
  obtain rfl : args = #[v0, v1, v2, v3] := by cases args; simp_all
  obtain ⟨rfl, rfl⟩ := trodVars_none hV
  have k0 := h0
  have lt0 : ∀ x ∈ p0, x.block < W.heap.size := by obtain ⟨m, hm⟩ := k0; exact DataW.trod_lt m _ _ _ hm
  have z0 : ∀ m ∈ d0.weights Tryz.prog 28, m ≤ reachBytes := fun m hm => by
    have := List.all_eq_true.1 hsz m (DataW.weights_mem_each (j := 0) (t := 28) rfl rfl m hm)
    simpa using this
  obtain ⟨x0, ov0, dv0, rfl, w0, ol0, dl0⟩ := open_pkt (hval 0 28 v0 rfl rfl) h0 z0
  obtain ⟨a1, rfl, rfl, rfl, w1⟩ := open_int Tryz.underlying3 (hval 1 3 v1 rfl rfl) h1
  obtain ⟨a2, rfl, rfl, rfl, w2⟩ := open_int Tryz.underlying3 (hval 2 3 v2 rfl rfl) h2
  have k3 := h3
  have lt3 : ∀ x ∈ p3, x.block < W.heap.size := by obtain ⟨m, hm⟩ := k3; exact DataW.trod_lt m _ _ _ hm
  have z3 : ∀ m ∈ d3.weights Tryz.prog 29, m ≤ reachBytes := fun m hm => by
    have := List.all_eq_true.1 hsz m (DataW.weights_mem_each (j := 3) (t := 29) rfl rfl m hm)
    simpa using this
  obtain ⟨a3, len3, cap3, rfl⟩ := okWide_slice Tryz.underlying29 (hval 3 29 v3 rfl rfl)
  obtain ⟨w3, n3⟩ := open_nums h3 z3
  clear hA0 hval0
  refine (walk x0 ov0 dv0 a1 a2 a3 len3 cap3 W (glob_of hL) w0 ol0 dl0 w1 w2 w3 n3).mono fun e W' ⟨he, bel⟩ => ?_
  subst he
  exact ⟨_, rfl, _, _, _, [], _, [], hW', trodAll_mk1 (shut_bool Tryz.underlying4 _), (trodAll_cons_mk (Below.trod laidOut (by kernel_rfl) (of_decide_eq_true (by kernel_rfl)) k0 bel lt0) (trodAll_cons_mk (shut_int Tryz.underlying3 w1) (trodAll_cons_mk (shut_int Tryz.underlying3 w2) (trodAll_cons_mk (Below.trod laidOut (by kernel_rfl) (of_decide_eq_true (by kernel_rfl)) k3 bel lt3) trodAll_mk0)))), rfl, bel.frame _, fun h => by cases h⟩
theorem laid_met (os : Os) : laidMet Tryz.prog Rows.entryJoinsRow.laid ((laidWorld Tryz.prog os).forCall (fun _ _ => 0) ⟨#[], #[.agg (csP zeroPk (.slice none 0 0) (.slice none 0 0)), .int .i64 0, .int .i64 0, .slice none 0 0], []⟩).memory :=
  laidMet_of_run' 8 (by kernel_rfl) (by kernel_rfl)
theorem reads (os : Os) {H : Type} (enc : TypeId × Value → H) : ∃ places, DataW.whole enc Tryz.prog ((laidWorld Tryz.prog os).forCall (fun _ _ => 0) ⟨#[], #[.agg (csP zeroPk (.slice none 0 0) (.slice none 0 0)), .int .i64 0, .int .i64 0, .slice none 0 0], []⟩).memory Tryz.f3.params.toList Rows.entryJoinsSpec.vars false #[.agg (csP zeroPk (.slice none 0 0) (.slice none 0 0)), .int .i64 0, .int .i64 0, .slice none 0 0].toList 8 = some ([.agg [.lit (.int .i64 0), .lit (.int .i64 0), .lit (.int .i64 0), .agg [.lit (.int .i64 0), .agg [.lit (.int .u8 0), .lit (.int .u8 0), .lit (.int .u8 0), .lit (.int .u8 0), .lit (.int .u8 0), .lit (.int .u8 0), .lit (.int .u8 0), .lit (.int .u8 0), .lit (.int .u8 0), .lit (.int .u8 0), .lit (.int .u8 0), .lit (.int .u8 0), .lit (.int .u8 0), .lit (.int .u8 0), .lit (.int .u8 0), .lit (.int .u8 0)]], .agg [.lit (.int .i64 0), .agg [.lit (.int .u8 0), .lit (.int .u8 0), .lit (.int .u8 0), .lit (.int .u8 0), .lit (.int .u8 0), .lit (.int .u8 0), .lit (.int .u8 0), .lit (.int .u8 0), .lit (.int .u8 0), .lit (.int .u8 0), .lit (.int .u8 0), .lit (.int .u8 0), .lit (.int .u8 0), .lit (.int .u8 0), .lit (.int .u8 0), .lit (.int .u8 0)]], .lit (.int .i64 0), .lit (.int .i64 0), .lit (.int .u32 0), .lit (.bool false), .lit (.bool false), .lit (.bool false), .lit (.int .i64 0), .nil, .nil], .lit (.int .i64 0), .lit (.int .i64 0), .nil], [], places) :=
  ⟨[], by kernel_rfl⟩
theorem lifted (os : Os) (started : os.Started) (H : Type) (enc : TypeId × Value → H) (F : Stop.Interp) :
    ReturnsInHanded {} Tryz.checked os 3 .any ((OpenSpec.ofChange Rows.entryJoinsSpec).preRow enc Tryz.prog Tryz.f3 Rows.entryJoinsRow.domain false Rows.entryJoinsRow.laid) (((OpenSpec.ofChange Rows.entryJoinsSpec).at F).post enc Tryz.prog Tryz.f3 false true false false) := by
  obtain ⟨places, hx⟩ := reads os enc
  refine returnsInHanded_of_row (C := Tryz.checked) (s := OpenSpec.ofChange Rows.entryJoinsSpec) ownKn started (by kernel_rfl) Tryz.func3
    (witness_row_at (enc := enc) (C := Tryz.checked) false (laidWorld Tryz.prog os) #[.agg (csP zeroPk (.slice none 0 0) (.slice none 0 0)), .int .i64 0, .int .i64 0, .slice none 0 0] rfl (by kernel_rfl) (by kernel_rfl) (by kernel_rfl)
      (OpenSpec.preRow_of_cond 8 hx (by kernel_rfl) (fun k hk => by cases hk) (by kernel_rfl) (laid_met os))) ?_
  intro W base args ds gs before hval hW _ hcond hsz hL hS _
  exact contract H enc W base args ds gs before hval hW hsz hL
theorem said : Rows.EntryJoinsSaid :=
  OpenClaim.holds_of_cond 3 Tryz.f3 rfl rfl rfl rfl rfl rfl rfl ⟨rfl, rfl, rfl, rfl, rfl⟩ rfl rfl rfl rfl rfl (by kernel_rfl) Tryz.func3 (by kernel_rfl)
    (of_decide_eq_true (by kernel_rfl)) (by unfold Func.isWrapper; first | (rw [if_pos (by decide +kernel)]; kernel_rfl) | (rw [if_neg (by decide +kernel)]; exact ⟨rfl, rfl⟩))
    (fun os started H enc _ F => by rw [OpenClaim.pre_eq_preRow]; exact lifted os started H enc F)
theorem plain (f : FuncId) (fn : Func) (hf : Tryz.pinned.checked.prog.funcNamed "mosaic/mosaiclaw14.EntryJoins" = some f) (hfn : Tryz.pinned.checked.prog.funcs[f]? = some fn) :
    false = Tryz.pinned.checked.prog.looks [] ∧ ∀ (j : Nat) t, fn.params[j]? = some t → Tryz.pinned.checked.prog.wantsStandIn t = false := by
  obtain rfl : f = 3 := Option.some.inj ((show Tryz.prog.funcNamed "mosaic/mosaiclaw14.EntryJoins" = some 3 by kernel_rfl).symm.trans hf) |>.symm
  obtain rfl : fn = Tryz.f3 := (Option.some.inj (Tryz.func3.symm.trans hfn)).symm
  refine ⟨by kernel_rfl, fun j t ht => ?_⟩
  rw [Tryz.params3] at ht
  have hm := Array.mem_of_getElem? ht
  simp only [List.mem_toArray, List.mem_cons, List.not_mem_nil, or_false] at hm
  have hw0 : Tryz.prog.wantsStandIn 28 = false := by kernel_rfl
  have hw1 : Tryz.prog.wantsStandIn 3 = false := by kernel_rfl
  have hw2 : Tryz.prog.wantsStandIn 3 = false := by kernel_rfl
  have hw3 : Tryz.prog.wantsStandIn 29 = false := by kernel_rfl
  rcases hm with rfl | rfl | rfl | rfl
  all_goals first | exact hw0 | exact hw1 | exact hw2 | exact hw3
theorem card : Rows.EntryJoinsCardSaid :=
  Claim7.holds_tied_plain_at .later [] _ _ _ _ said (fun _ h => by cases h) (by kernel_rfl) (fun _ h => by cases h) entryJoins_row_tie rfl ⟨rfl, rfl⟩ (by kernel_rfl) rfl plain (by kernel_rfl)
end entryJoins
theorem entryJoins_holds : Rows.EntryJoinsCardSaid := entryJoins.card
#print axioms entryJoins_holds
end Go.Proofs.YtbkeilboneaejaaGreatDoor
