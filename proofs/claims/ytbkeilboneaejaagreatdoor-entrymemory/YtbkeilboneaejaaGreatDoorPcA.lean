/-
  whole of the law.
-/
import Derived.Test.YtbkeilboneaejaaGreatDoorRecM
import Derived.Test.YtbkeilboneaejaaGreatDoorMndA
import Derived.Deep.CutBlock
import Derived.Deep.DeepCutAuto
import Derived.Test.YtbkeilboneaejaaGreatDoorEPut
import Derived.Test.YtbkeilboneaejaaGreatDoorPc
namespace Go.Proofs.YtbkeilboneaejaaGreatDoor
open Go.ChangeShapes Go.WideShapes Go.ChangeAt Go.RowKit Num
open S6 (wp_region_cls quiet_val quiet_call quiet_ld ld3 ld4 ld5 ld25 ld26 load28_run load24m_run)
set_option linter.unusedVariables false
set_option linter.unusedSimpArgs false
set_option maxHeartbeats 8000000
set_option maxRecDepth 100000

namespace R
theorem lastM_len (b : Bool) : ∀ l : List Pk, (lastM b l).length = l.length
  | [] => rfl
  | [q] => rfl
  | q :: r :: s => by show (lastM b (r :: s)).length + 1 = _; rw [lastM_len b (r :: s)]; rfl
theorem recut_len (p : Pk) (m : Int) : (recutP p m).1.length ≤ 70000 := by
  unfold recutP
  split
  · rename_i h
    split
    · simp
    · split
      · simp
      · rename_i h2
        show (recutL p m).length ≤ _
        unfold recutL
        rw [lastM_len, List.length_map]
        have hd := (un_right h.1 (fun e => h2 (.inl e))).all.1
        have := pcs_len (unP p) m (latP (unP p) 0) (unP p).d.length (fstP (unP p) 0) 0
        unfold cutL; omega
  · simp
/-- Two lists of packets of their own, one behind the other. -/
theorem cuts_app {w w' : World} {B C : Nat} {v v' u : Value} {xs ys : List X} (h : Cuts w B v xs) (k : Cuts w C u ys) (hBC : B ≤ C) (hold : ∀ x ∈ xs, ∀ q, x.o.ownBlock = some q ∨ x.d.ownBlock = some q → q < C) (hv : ∀ q, v.ownBlock = some q → q < C) (hl : LstP w' v' (xs ++ ys)) (hgr : w.grownBy w' v.ownBlock) (hmv : Moved w v v') (hB : B ≤ w.heap.size) : Cuts w' B v' (xs ++ ys) := by
  have hA : ∀ S : List Nat, (∀ k, v.ownBlock = some k → k ∈ S) → Away S w w' := fun S hS => (Away.refl S w).grown hgr (fun k hk => .inl (hS k hk))
  have keep : ∀ y : X, (∀ k, y.o.ownBlock = some k ∨ y.d.ownBlock = some k → v.ownBlock ≠ some k) → Mine w B y.p y.o y.d → Mine w' B y.p y.o y.d := fun y hy hm => by
    cases hb : v.ownBlock with
    | none => exact hm.on (hA [] (fun k hk => by rw [hb] at hk; simp at hk))
    | some g => exact hm.away (hA [g] (fun k hk => by rw [hb] at hk; simp at hk; simp [hk])) (fun k hk e => by simp at e; subst e; exact hy k hk hb)
  have hky : ∀ y ∈ ys, ∀ q, y.o.ownBlock = some q ∨ y.d.ownBlock = some q → C ≤ q ∧ q < w.heap.size := fun y hy q hq => ⟨((k.each y hy).2.lto q hq).2, ((k.each y hy).2.lto q hq).1⟩
  have hvy : ∀ y ∈ ys, ∀ q, y.o.ownBlock = some q ∨ y.d.ownBlock = some q → v.ownBlock ≠ some q := fun y hy q hq e => by have := (hky y hy q hq).1; have := hv q e; omega
  refine ⟨hl, h.new.moved hmv hB, fun y hy => ?_, fun y hy q hq e => ?_, List.pairwise_append.2 ⟨h.apart, k.apart, fun y hy z hz q hq => ?_⟩⟩
  · rcases List.mem_append.1 hy with hy | hy
    · exact ⟨(h.each y hy).1, keep y (h.far y hy) (h.each y hy).2⟩
    · exact ⟨(k.each y hy).1, keep y (hvy y hy) ((k.each y hy).2.mono hBC)⟩
  · rcases hmv q e with e | e
    · rcases List.mem_append.1 hy with hy | hy
      · exact h.far y hy q hq e
      · exact hvy y hy q hq e
    · have : q < w.heap.size := by
        rcases List.mem_append.1 hy with hy | hy
        · exact ((h.each y hy).2.lto q hq).1
        · exact (hky y hy q hq).2
      omega
  · have h1 := hold y hy q hq
    exact ⟨fun e => by have := (hky z hz q (.inl e)).1; omega, fun e => by have := (hky z hz q (.inr e)).1; omega⟩
theorem cut_len {q : Pk} (hu : Unc q) (m id : Int) : (cutP q m id).1.length ≤ 70000 := by
  unfold cutP
  split
  · split
    · simp
    · split
      · simp
      · have hd := hu.all.1
        have := pcs_len q m (latP q id) q.d.length (fstP q id) 0
        show (cutL q m id).length ≤ _
        unfold cutL; omega
  · simp
theorem andN (n M : Int) (h0 : 0 ≤ M) (h1 : M ≤ 1048575) : 0 ≤ bits .and .i64 n M ∧ bits .and .i64 n M ≤ M := by
  have h : (BitVec.ofInt 64 M).toNat = M.toNat := by rw [BitVec.toNat_ofInt]; omega
  have key : (BitVec.ofInt 64 n &&& BitVec.ofInt 64 M).toNat ≤ M.toNat := by rw [BitVec.toNat_and, h]; exact Nat.and_le_right
  have e : bits .and .i64 n M = IntKind.i64.wrap ((BitVec.ofInt 64 n &&& BitVec.ofInt 64 M).toNat : Nat) := rfl
  rw [e, IntKind.wrap_i64]
  generalize (BitVec.ofInt 64 n &&& BitVec.ofInt 64 M).toNat = m at *
  omega
theorem rec_ne {p : Pk} (hw : Wf p) (m : Int) (h : (recutP p m).2 = 0) : (recutP p m).1 ≠ [] := by
  unfold recutP at h ⊢
  split at h
  · rename_i h1
    rw [if_pos h1]
    split at h
    · rename_i h2; rw [if_pos h2]; simp
    · rename_i h2
      rw [if_neg h2]
      split at h
      · simp at h
      · rename_i h3
        rw [if_neg h3]
        show recutL p m ≠ []
        intro e
        have h4 := congrArg List.length e
        unfold recutL at h4
        rw [lastM_len, List.length_map] at h4
        have h5 := un_two (m := m) hw h1.1 h1.2 h2 (fun e => h3 (.inl e))
        rw [h4] at h5
        simp at h5
  · simp at h
def recE (r : Int) (x : Pk) : List Pk := if (recutP x r).2 = 0 then (recutP x r).1 else []
def moreL (r : Int) (l : List Pk) : List Pk := l.flatMap (recE r)
def lowP (q : Pk) : Int := if q.v = 6 then 1280 else 68
/-- What pieces tells: n the number's last ten bits, s the last eight of the smaller one's. -/
def pcsE (q : Pk) (n s : Int) : List Pk :=
  if (cutP q (lowP q + n) 9).2 = 0 then (cutP q (lowP q + n) 9).1 ++ (if q.v = 4 then moreL (68 + s) (cutP q (lowP q + n) 9).1 else []) else []
theorem moreL_snoc {r : Int} {l : List Pk} {k : Nat} {x : Pk} (h : l[k]? = some x) : moreL r (l.take (k + 1)) = moreL r (l.take k) ++ recE r x := by
  have hk : k < l.length := by
    by_cases hk : k < l.length
    · exact hk
    · rw [List.getElem?_eq_none (by omega)] at h; simp at h
  have hx : l[k] = x := by rw [List.getElem?_eq_getElem hk] at h; simpa using h
  unfold moreL
  rw [List.take_succ_eq_append_getElem hk, hx, List.flatMap_append]; simp
theorem pieces_e (q : Pk) (ov dv : Value) (number smaller : Int) (w : World) (hp : Pkt w q ov dv) (hu : Unc q) (hg : Glob w) :
    Calls Tryz.prog 8 #[.agg (csP q ov dv), .int .i64 number, .int .i64 smaller] w fun E w' => ∃ v xs, E = .returned v ∧ Cuts w' w.heap.size v xs ∧ xs.map X.p = pcsE q (bits .and .i64 number 1023) (bits .and .i64 smaller 255) ∧ Away [] w w' := by
  have HAD := Lib.hid hp.wf.ad
  have HU := Lib.hid hu
  have HP := Lib.hid hp; have HG := Lib.hid hg
  obtain ⟨NN, hNN⟩ : ∃ T, bits .and .i64 number 1023 = T := ⟨_, rfl⟩
  obtain ⟨SS, hSS⟩ : ∃ T, bits .and .i64 smaller 255 = T := ⟨_, rfl⟩
  have BN := andN number 1023 (by omega) (by omega); have BS := andN smaller 255 (by omega) (by omega)
  rw [hNN] at BN ⊢; rw [hSS] at BS ⊢
  clear hp hu hg
  go_enter Tryz.func8, Tryz.ntmps8
  go_wp2_with (refine wpList_box28 rfl _ rfl q _ _ rfl ?_; refine Hid.out ?_)
  refine Lib.hid ?_
  intro g w1 hg1 hb haw
  have HA := Lib.hid haw
  have HB := Lib.hid hb
  have c0 := (hb.cells HAD.out).v
  clear hb haw hg1
  go_upto_if 16 with fail
  go_cut [7] (fun v wc => v = .int .i64 (lowP q) ∧ wc = w1)
  case first =>
    by_cases h6 : q.v = 6
    · have hl : lowP q = 1280 := by unfold lowP; rw [if_pos h6]
      have e6 : (q.v == 6) = true := by simpa using h6
      go_wp2_with fail
      go_meet
      exact ⟨by rw [hl], rfl⟩
    · have hl : lowP q = 68 := by unfold lowP; rw [if_neg h6]
      have e6 : (q.v == 6) = false := by simpa using h6
      go_wp2_with fail
      go_meet
      exact ⟨by rw [hl], rfl⟩
  case rest =>
  obtain ⟨rfl, hwc⟩ := hcut
  replace hwc := hwc.symm
  subst hwc
  have hlow : 68 ≤ lowP q ∧ lowP q ≤ 1280 := by unfold lowP; split <;> omega
  obtain ⟨LL, hLL⟩ : ∃ z, z = lowP q := ⟨_, rfl⟩
  have HPE : Hid (pcsE q NN SS = if (cutP q (LL + NN) 9).2 = 0 then (cutP q (LL + NN) 9).1 ++ (if q.v = 4 then moreL (68 + SS) (cutP q (LL + NN) 9).1 else []) else []) := by
    show _ = _; rw [hLL]; rfl
  rw [← hLL] at hlow ⊢
  clear hLL
  have K1 := Lib.hid (ownP_c q ov dv w1 (HP.out.on HA.out))
  unfold OwnOut at K1
  go_wp2_with (first
    | (refine wpList_load28 rfl _ rfl g rfl q _ _ (by exact HB.out) HAD.out ?_)
    | (go_at_call 12; refine K1.out.mono ?_; refine Hid.out ?_))
  refine Lib.hid ?_
  first
    | rintro E w2 oq dq rfl hmi haw
    | rintro E w2 ⟨oq, dq, rfl, hmi, haw⟩
  have HPQ := Lib.hid (hmi.pkt HP.out.wf)
  replace HA := Lib.hid (HA.out.trans haw)
  replace HB := Lib.hid (HB.out.on haw)
  clear hmi haw K1 c0
  have K2 := Lib.hid (cut_c q oq dq (LL + NN) 9 w2 HPQ.out (HG.out.on HA.out) (by omega) (by omega))
  unfold CutOut at K2
  obtain ⟨cl, hcl⟩ : ∃ z, z = (cutP q (LL + NN) 9).1 := ⟨_, rfl⟩
  obtain ⟨ce, hce⟩ : ∃ z, z = (cutP q (LL + NN) 9).2 := ⟨_, rfl⟩
  have hcn : cl.length ≤ 70000 := by rw [hcl]; exact cut_len HU.out _ _
  rw [← hcl, ← hce] at K2
  rw [← hcl, ← hce] at HPE
  clear hcl hce
  go_wp2_with (go_at_call 35; refine K2.out.mono ?_; refine Hid.out ?_)
  refine Lib.hid ?_
  first
    | rintro E w3 v xs rfl hcu hxs haw
    | rintro E w3 ⟨v, xs, rfl, hcu, hxs, haw⟩
  have HXS := Lib.hid hxs
  have HCU0 : Hid (Cuts w3 w2.heap.size v xs) := hcu
  have HA3 := Lib.hid haw
  clear hcu hxs haw K2 HPQ
  by_cases he : ce = 0
  rotate_left
  · have e1 : (ce == 0) = false := by simpa using he
    have HPN : Hid (pcsE q NN SS = []) := by show _ = _; rw [HPE.out, if_neg he]
    go_wp2_with fail
    go_ret
    exact ⟨_, [], rfl, Cuts.nil _ _, by rw [HPN.out]; rfl, HA.out.trans HA3.out⟩
  subst he
  replace HPE : Hid (pcsE q NN SS = cl ++ (if q.v = 4 then moreL (68 + SS) cl else [])) := by show _ = _; rw [HPE.out, if_pos rfl]
  obtain ⟨n, hn⟩ : ∃ n, n = xs.length := ⟨_, rfl⟩
  have hnc : n ≤ 70000 := by rw [hn, ← List.length_map (f := X.p), HXS.out]; exact hcn
  obtain ⟨va, vc, hv, -, -, -, -⟩ := HCU0.out.pks (by omega)
  rw [← hn] at hv
  subst hv
  have HN := Lib.hid hn
  clear hn
  go_wp2_with fail
  go_loopw [8, 11] (fun lv iv wr => ∃ (k : Nat) (cs : List X), iv = .int .i64 (k : Int) ∧ k ≤ n ∧ (k = 0 ∨ q.v = 4) ∧ Cuts wr w2.heap.size lv (xs ++ cs) ∧ cs.map X.p = moreL (68 + SS) (cl.take k) ∧ cs.length ≤ k * 70000 ∧ Away [] w2 wr) (fun _ iv _ => n - (intOf iv).toNat)
  case atStart => exact ⟨0, [], rfl, by omega, .inl rfl, by rw [List.append_nil]; exact HCU0.out, by simp [moreL], by simp, HA3.out⟩
  case round =>
    clear HCU0 HA3
    obtain ⟨k, cs, rfl, hk, hkv, hcu, hcm, hcl2, haw⟩ := hrel
    have HCU := Lib.hid hcu; have HCM := Lib.hid hcm; have HAW := Lib.hid haw
    have hlen : (xs ++ cs).length ≤ n + n * 70000 := by
      rw [List.length_append, ← HN.out]
      have : k * 70000 ≤ n * 70000 := Nat.mul_le_mul_right _ hk
      omega
    have hlen2 : n ≤ (xs ++ cs).length := by rw [List.length_append, ← HN.out]; omega
    have hlen3 : (xs ++ cs).length ≤ 4900070000 := by
      have : n * 70000 ≤ 70000 * 70000 := Nat.mul_le_mul_right _ hnc
      omega
    obtain ⟨la, lc, hlv, -, -, hpk, -⟩ := HCU.out.pks (by omega)
    obtain ⟨L, hL⟩ : ∃ L, L = (xs ++ cs).length := ⟨_, rfl⟩
    rw [← hL] at hlv hlen2 hlen3
    subst hlv
    have HLL := Lib.hid hL
    have c0 := ((HB.out.on HAW.out).cells HAD.out).v
    have HPK := Lib.hid hpk
    clear hcu hcm haw hlen hL hpk
    by_cases hlt : k < n
    · by_cases h4 : q.v = 4
      · rw [h4] at c0
        obtain ⟨x, hxk, hxm⟩ := get_of (show k < xs.length by have := HN.out; omega)
        have hxk2 : (xs ++ cs)[k]? = some x := by rw [List.getElem?_append_left (by have := HN.out; omega)]; exact hxk
        obtain ⟨xb, xo, hxa, hrx, hokx⟩ := HPK.out.at hxk2
        subst hxa
        have HRX : Hid (wr.rangeAt xb (xo + k * 46) (listP x.p x.o x.d)) := hrx
        have HOK : Hid (Pkt wr x.p x.o x.d) := hokx
        have HAX := Lib.hid hokx.wf.ad
        have HCK : Hid (cl[k]? = some x.p) := by show _ = _; rw [← HXS.out, List.getElem?_map, hxk]; rfl
        have p0 : 0 ≤ (k : Int) := by omega
        have p1 : (k : Int) < (L : Int) := by omega
        have p2 : ((k : Int)).toNat = k := by omega
        have p3 : (k : Int) < (n : Int) := by omega
        clear hxk hxk2 hxm hrx hokx
        have K1 := Lib.hid (ownP_c x.p x.o x.d wr HOK.out)
        unfold OwnOut at K1
        go_wp2_with (first
          | (refine wpList_load28m rfl _ rfl xb (xo + k * 46) rfl x.p x.o x.d (by exact HRX.out) HAX.out ?_)
          | (go_at_call 12; refine K1.out.mono ?_; refine Hid.out ?_))
        refine Lib.hid ?_
        first
          | rintro E y1 oq dq rfl hmi haw
          | rintro E y1 ⟨oq, dq, rfl, hmi, haw⟩
        have HXW := Lib.hid HOK.out.wf
        have HPX := Lib.hid (hmi.pkt HXW.out)
        replace HCU := Lib.hid (HCU.out.on haw)
        replace HAW := Lib.hid (HAW.out.trans haw)
        clear hmi haw K1 HRX HOK c0 HPK
        have K2 := Lib.hid (recut_c x.p oq dq (68 + SS) y1 HPX.out (HG.out.on (HA.out.trans HAW.out)))
        unfold RecOut at K2
        obtain ⟨ml, hml⟩ : ∃ z, z = (recutP x.p (68 + SS)).1 := ⟨_, rfl⟩
        obtain ⟨me, hme⟩ : ∃ z, z = (recutP x.p (68 + SS)).2 := ⟨_, rfl⟩
        have hmn : ml.length ≤ 70000 := by rw [hml]; exact recut_len _ _
        have hmz : me = 0 → ml ≠ [] := fun h => by rw [hml]; exact rec_ne HXW.out _ (by rw [← hme]; exact h)
        have HRE : Hid (recE (68 + SS) x.p = if me = 0 then ml else []) := by show _ = _; unfold recE; rw [← hml, ← hme]
        rw [← hml, ← hme] at K2
        clear hml hme
        go_wp2_with (go_at_call 36; refine K2.out.mono ?_; refine Hid.out ?_)
        refine Lib.hid ?_
        first
          | rintro E y2 mv ms rfl hcu2 hms haw
          | rintro E y2 ⟨mv, ms, rfl, hcu2, hms, haw⟩
        have HMS := Lib.hid hcu2; have HMM := Lib.hid hms
        have HOLD : Hid (∀ c ∈ xs ++ cs, ∀ b, c.o.ownBlock = some b ∨ c.d.ownBlock = some b → b < y1.heap.size) := fun c hc b hb => ((HCU.out.each c hc).2.lto b hb).1
        have HVL : Hid (∀ b, (Value.slice (some ⟨xb, xo, none⟩) L lc).ownBlock = some b → b < y1.heap.size) := fun b hb => HCU.out.lst.lt b hb
        have hB6 : w2.heap.size ≤ y1.heap.size := HAW.out.size
        replace HCU := Lib.hid (HCU.out.on haw)
        replace HAW := Lib.hid (HAW.out.trans haw)
        have hB7 : w2.heap.size ≤ y2.heap.size := HAW.out.size
        clear hcu2 hms haw K2 HPX
        by_cases hm0 : me = 0
        · have hmne := hmz hm0
          clear hmz
          subst hm0
          have hmlen : ms.length ≤ 70000 := by rw [← List.length_map (f := X.p), HMM.out]; exact hmn
          replace HRE : Hid (recE (68 + SS) x.p = ml) := by show _ = _; rw [HRE.out, if_pos rfl]
          have HCM3 : Hid ((cs ++ ms).map X.p = moreL (68 + SS) (cl.take (k + 1))) := by
            show _ = _
            rw [moreL_snoc HCK.out, List.map_append, HCM.out, HRE.out, HMM.out]
          have HCL3 : Hid ((cs ++ ms).length ≤ (k + 1) * 70000) := by
            show _ ≤ _
            rw [List.length_append]; omega
          obtain ⟨ma, mc, hmv', hm4, -, hmp, -⟩ := HMS.out.pks (by omega)
          obtain ⟨nm, hnm⟩ : ∃ nm, nm = ms.length := ⟨_, rfl⟩
          rw [← hnm] at hmv' hm4 hmlen
          subst hmv'
          have HNM := Lib.hid hnm; have HMP := Lib.hid hmp
          have hnm2 := hnm
          clear hnm hmp
          have hm1 : 0 < nm := by
            rw [hnm2]
            exact List.length_pos_iff.2 (fun e => hmne (by rw [← HMM.out, e]; rfl))
          obtain ⟨mb, hmb⟩ : ∃ mb, ma = some ⟨mb, 0, none⟩ := by
            rcases HMS.out.lst.2 with ⟨h1, h2⟩ | ⟨g', c', cur, h1, -⟩
            · omega
            · simp only [Value.slice.injEq] at h1; exact ⟨g', h1.1⟩
          subst hmb
          clear hnm2 hmne
          go_wp2_with (at_builtin; refine wpList_appQ rfl _ _ rfl _ (xs ++ cs) ms rfl (by exact HCU.out.lst) ⟨mb, 0, none⟩ nm mc rfl HNM.out.symm (by exact HMP.out) (by have := HLL.out; omega) ?_; refine Hid.out ?_)
          refine Lib.hid ?_
          intro v' y4 hl3 hgr hmv
          have HCU3 : Hid (Cuts y4 w2.heap.size v' (xs ++ (cs ++ ms))) := by
            have := cuts_app HCU.out HMS.out hB6 HOLD.out HVL.out (by first | exact hl3 | (rw [List.append_assoc]; exact hl3)) hgr hmv hB7
            rw [List.append_assoc] at this; exact this
          have HAW3 : Hid (Away [] w2 y4) := HAW.out.grown hgr (fun b hb => .inr (HCU.out.new b hb))
          clear hl3 hgr hmv
          go_wp2_with fail
          go_roundw
          case rel => exact ⟨k + 1, cs ++ ms, by go_num, by omega, .inr h4, HCU3.out, HCM3.out, HCL3.out, HAW3.out⟩
          case measure => simp [intOf]; omega
        · have e1 : (me == 0) = false := by simpa using hm0
          have HRN : Hid (recE (68 + SS) x.p = []) := by show _ = _; rw [HRE.out, if_neg hm0]
          have HCM3 : Hid (cs.map X.p = moreL (68 + SS) (cl.take (k + 1))) := by
            show _ = _
            rw [moreL_snoc HCK.out, HCM.out, HRN.out, List.append_nil]
          have HCL3 : Hid (cs.length ≤ (k + 1) * 70000) := by
            show _ ≤ _
            rw [Nat.add_mul]; exact Nat.le_trans hcl2 (Nat.le_add_right _ _)
          clear hmz
          go_wp2_with fail
          go_roundw
          case rel => exact ⟨k + 1, cs, by go_num, by omega, .inr h4, HCU.out, HCM3.out, HCL3.out, HAW.out⟩
          case measure => simp [intOf]; omega
      · have e4 : (q.v == 4) = false := by simpa using h4
        have p3 : (k : Int) < (n : Int) := by omega
        have hk0 : k = 0 := by rcases hkv with h | h; exact h; exact absurd h h4
        have HFIN : Hid (pcsE q NN SS = (xs ++ cs).map X.p) := by
          show _ = _
          have : cs = [] := by rw [hk0] at hcl2; exact List.length_eq_zero_iff.1 (by omega)
          rw [HPE.out, if_neg h4, List.append_nil, this, List.append_nil, HXS.out]
        go_wp2_with fail
        go_ret
        first | exact ⟨_, xs ++ cs, rfl, HCU.out.mono HA.out.size, HFIN.out.symm, HA.out.trans HAW.out⟩ | exact ⟨_, rfl, xs ++ cs, HCU.out.mono HA.out.size, HFIN.out.symm, HA.out.trans HAW.out⟩
    · have hkn : k = n := by omega
      have p3 : ¬ ((k : Int) < (n : Int)) := by omega
      have HFIN : Hid (pcsE q NN SS = (xs ++ cs).map X.p) := by
        show _ = _
        rw [HPE.out, List.map_append, HXS.out, HCM.out, hkn]
        have hcn2 : cl.take n = cl := List.take_of_length_le (by have := congrArg List.length HXS.out; rw [List.length_map] at this; have := HN.out; omega)
        rw [hcn2]
        by_cases h4 : q.v = 4
        · rw [if_pos h4]
        · have hk0 : n = 0 := by rcases hkv with h | h; omega; exact absurd h h4
          rw [if_neg h4]
          have : cl = [] := List.length_eq_zero_iff.1 (by have := congrArg List.length HXS.out; rw [List.length_map] at this; have := HN.out; omega)
          rw [this]; rfl
      go_wp2_with fail
      go_ret
      first | exact ⟨_, xs ++ cs, rfl, HCU.out.mono HA.out.size, HFIN.out.symm, HA.out.trans HAW.out⟩ | exact ⟨_, rfl, xs ++ cs, HCU.out.mono HA.out.size, HFIN.out.symm, HA.out.trans HAW.out⟩
end R
#print axioms R.pieces_e
end Go.Proofs.YtbkeilboneaejaaGreatDoor

namespace Go.Proofs.YtbkeilboneaejaaGreatDoor
open Go.ChangeShapes Go.WideShapes Go.ChangeAt Go.RowKit Num
open S6 (wp_region_cls quiet_val quiet_call quiet_ld ld3 ld4 ld5 ld25 ld26 load28_run load24m_run)
set_option linter.unusedVariables false
set_option linter.unusedSimpArgs false
set_option maxHeartbeats 8000000
set_option maxRecDepth 100000

namespace R
def BokR (w : World) (g N : Nat) (B : Nat → Bool) : Prop := ∀ i : Nat, i < N → w.cell? ⟨g, i, none⟩ = some (.bool (B i))
def allN (B : Nat → Bool) (n : Nat) : Bool := (List.range n).all B
theorem allN_iff {B : Nat → Bool} {n : Nat} : allN B n = true ↔ ∀ i : Nat, i < n → B i = true := by simp [allN]
theorem allN_no {B : Nat → Bool} {n k : Nat} (h : k < n) (hk : B k = false) : allN B n = false := by
  rw [Bool.eq_false_iff]; intro hc; rw [allN_iff.1 hc k h] at hk; simp at hk
theorem covered_e (w : World) (g N cap : Nat) (B : Nat → Bool) (n : Nat) (hN : N ≤ 1000000) (hn : n ≤ N) (hb : BokR w g N B) :
    Calls Tryz.prog 14 #[.slice (some ⟨g, 0, none⟩) N cap, .int .i64 (n : Int)] w fun E w' => E = .returned (.bool (allN B n)) ∧ w' = w := by
  obtain ⟨z, hz⟩ : ∃ z, z = allN B n := ⟨_, rfl⟩
  rw [← hz]
  have HZ := Lib.hid hz
  have HB := Lib.hid hb
  clear hz hb
  go_enter Tryz.func14, Tryz.ntmps14
  go_wp2_with fail
  go_loopw [5] (fun i wr => ∃ k : Nat, i = .int .i64 (k : Int) ∧ k ≤ n ∧ wr = w ∧ ∀ j : Nat, j < k → B j = true) (fun i _ => n - (intOf i).toNat)
  case atStart => exact ⟨0, rfl, by omega, rfl, by simp⟩
  case round =>
    obtain ⟨k, rfl, hk, hw, hall⟩ := hrel
    obtain rfl := hw.symm
    have HA := Lib.hid hall
    clear hall
    by_cases hlt : k < n
    · have c := HB.out k (by omega)
      have j1 : (k : Int) < (n : Int) := by omega
      have j2 : 0 ≤ (k : Int) := by omega
      have j3 : (k : Int) < (N : Int) := by omega
      have j4 : ((k : Int)).toNat = k := by omega
      cases hBk : B k with
      | true =>
        rw [hBk] at c
        have HK := Lib.hid hBk
        clear hBk
        go_wp2_with fail
        go_roundw
        case rel => exact ⟨k + 1, by go_num, by omega, (by simp), fun j hj => by
          by_cases he : j = k
          · rw [he]; exact HK.out
          · exact HA.out j (by omega)⟩
        case measure => simp [intOf]; omega
      | false =>
        rw [hBk] at c
        obtain rfl : z = false := by rw [HZ.out]; exact allN_no hlt hBk
        clear hBk
        go_wp2_with fail
        go_ret
        exact ⟨rfl, rfl⟩
    · have j1 : ¬ ((k : Int) < (n : Int)) := by omega
      obtain rfl : z = true := by rw [HZ.out]; exact allN_iff.2 (fun i hi => HA.out i (by omega))
      go_wp2_with fail
      go_ret
      exact ⟨rfl, rfl⟩
end R
#print axioms R.covered_e
end Go.Proofs.YtbkeilboneaejaaGreatDoor

namespace Go.Proofs.YtbkeilboneaejaaGreatDoor
open Go.ChangeShapes Go.WideShapes Go.ChangeAt Go.RowKit Num
set_option linter.unusedVariables false
set_option linter.unusedSimpArgs false
set_option maxHeartbeats 4000000
set_option maxRecDepth 100000

theorem put3 (w : World) (ad : Addr) (n : Int) (u : Value) (hc : w.cell? ad = some u) (hf : w.frozen? ad = false) : (Instr.storeAt 3 (.pointer (some ad)) (.int .i64 n)).run Tryz.prog w = .ok () (w.setCell ad (.int .i64 n)) := by
  simp [go_sem, Instr.storeAt, Instr.sureAddr, storeVar, hc, hf]
theorem put4 (w : World) (ad : Addr) (n : Bool) (u : Value) (hc : w.cell? ad = some u) (hf : w.frozen? ad = false) : (Instr.storeAt 4 (.pointer (some ad)) (.bool n)).run Tryz.prog w = .ok () (w.setCell ad (.bool n)) := by
  simp [go_sem, Instr.storeAt, Instr.sureAddr, storeVar, hc, hf]
theorem put25 (w : World) (ad : Addr) (n : Int) (u : Value) (hc : w.cell? ad = some u) (hf : w.frozen? ad = false) : (Instr.storeAt 25 (.pointer (some ad)) (.int .u32 n)).run Tryz.prog w = .ok () (w.setCell ad (.int .u32 n)) := by
  simp [go_sem, Instr.storeAt, Instr.sureAddr, storeVar, hc, hf]
theorem put26 (w : World) (ad : Addr) (b : Option Addr) (n c : Nat) (u : Value) (hc : w.cell? ad = some u) (hf : w.frozen? ad = false) : (Instr.storeAt 26 (.pointer (some ad)) (.slice b n c)).run Tryz.prog w = .ok () (w.setCell ad (.slice b n c)) := by
  simp [go_sem, Instr.storeAt, Instr.sureAddr, storeVar, hc, hf]
theorem csP_len {p : Pk} (ha : Ad p) (ov dv : Value) : (csP p ov dv).size = 46 := by
  have := listP_len (ov := ov) (dv := dv) ha
  simpa [csP] using this
theorem BoxP.some {w : World} {g : Nat} {p : Pk} {ov dv : Value} (h : BoxP w g p ov dv) (ha : Ad p) {i : Nat} (hi : i < 46) : ∃ u, w.cell? ⟨g, i, none⟩ = some u := by
  rw [cell_of_block h]
  exact ⟨(csP p ov dv)[i]'(by rw [csP_len ha]; exact hi), by simp [csP_len ha, hi]⟩
theorem wpList_putF {ops : Array Oper} {rest : List Oper} {o : Oper} {a : Act} {w : World} {Q : Exit → Act → World → Prop} (hw : Region.wanted o (yielded ops a.tmps) = true) (t : TypeId) (x y : Operand) (ho : o.op = .store t x y) (g i : Nat) (hx : a.eval x = .pointer (some ⟨g, i, none⟩)) (v : Value) (hy : a.eval y = v)
    (hst : ∀ u, w.cell? ⟨g, i, none⟩ = some u → w.frozen? ⟨g, i, none⟩ = false → (Instr.storeAt t (.pointer (some ⟨g, i, none⟩)) v).run Tryz.prog w = .ok () (w.setCell ⟨g, i, none⟩ v))
    (p q : Pk) (ov dv ou du : Value) (hb : BoxP w g p ov dv) (ha : Ad p) (hi : i < 46) (hset : (csP p ov dv).setIfInBounds i v = csP q ou du)
    (h : ∀ w1, BoxP w1 g q ou du → Away [g] w w1 → wpList Tryz.prog ops Q rest (a.put o.dst undef) w1) : wpList Tryz.prog ops Q (o :: rest) a w := by
  obtain ⟨u, hu⟩ := hb.some ha hi
  have e := hst u hu (free_of_block hb i)
  refine BigFrame.wpList_want hw fun K hK => ?_
  unfold Oper.wp execOp
  simp only [ho, hx, hy, Sem.run_bind, e, Result.andThen_ok, Sem.run_pure]
  exact hK _ _ (h _ (hb.put i v hset) (away_put i v))
end Go.Proofs.YtbkeilboneaejaaGreatDoor

namespace Go.Proofs.YtbkeilboneaejaaGreatDoor
open Go.ChangeShapes Go.WideShapes Go.ChangeAt Go.RowKit Num
open S6 (wp_region_cls quiet_val quiet_call quiet_ld ld3 ld4 ld5 ld25 ld26 load28_run load24m_run)
set_option linter.unusedVariables false
set_option linter.unusedSimpArgs false
set_option maxHeartbeats 8000000
set_option maxRecDepth 100000

namespace R
def wholeQ (q f : Pk) : Pk := { q with ttl := f.ttl, id := if q.v = 6 then 0 else q.id }
theorem first_ad {w : World} {g : Nat} {s : Es} {fp : List Nat} (h : Ey w g s fp) : Ad (firstP s).1 := by
  unfold firstP
  by_cases h0 : s.fl = 0
  · rw [if_pos h0]; exact ⟨rfl, rfl⟩
  · rw [if_neg h0]
    rcases h.ent with ⟨⟨-, -, h3, -⟩, -⟩ | ⟨lb, lv, dv, ov, mb, mn, h1, -, -⟩
    · exact absurd (by rw [h3]; rfl) h0
    · exact h1.fad
theorem whole_e {w : World} {g : Nat} {s : Es} {fp : List Nat} (h : Ey w g s fp) (q : Pk) (ov dv : Value) (hq : Pkt w q ov dv) :
    Calls Tryz.prog 17 #[.agg (csP q ov dv), .pointer (some ⟨g, 0, none⟩)] w fun E w' => ∃ o d, E = .returned (.agg (csP (wholeQ q (firstP s).1) o d)) ∧ Mine w' w.heap.size (wholeQ q (firstP s).1) o d ∧ Away [] w w' := by
  have HAD := Lib.hid hq.wf.ad
  have HY := Lib.hid h; have HQ := Lib.hid hq
  have HFA := Lib.hid (first_ad h)
  obtain ⟨f, hf⟩ : ∃ f, f = firstP s := ⟨_, rfl⟩
  have HF := Lib.hid hf
  rw [← hf] at HFA ⊢
  clear h hq hf
  go_enter Tryz.func17, Tryz.ntmps17
  go_wp2_with (refine wpList_box28 rfl _ rfl q _ _ rfl ?_; refine Hid.out ?_)
  refine Lib.hid ?_
  intro g2 w1 hg2 hb haw
  have HA := Lib.hid haw
  have HB2 := Lib.hid hb
  clear hb haw
  go_wp2_with (refine wpList_alloc28 rfl rfl ?_; refine Hid.out ?_)
  refine Lib.hid ?_
  intro g4 w2 hg4 hb haw
  have HB4 := Lib.hid hb
  have HG4 : Hid (w.heap.size ≤ g4) := Nat.le_trans HA.out.size hg4
  have hl4 := hb.lt; have hl2 := HB2.out.lt
  have h24 : g2 ≠ g4 := by omega
  replace HA := Lib.hid (HA.out.trans haw)
  replace HB2 := Lib.hid (HB2.out.on haw)
  clear hb haw
  have K1 := efirst_c (HY.out.on HA.out)
  unfold TellOut at K1
  rw [← HF.out] at K1
  obtain ⟨f1, f2⟩ := f
  dsimp only at K1 HFA ⊢
  replace K1 := Lib.hid K1
  go_wp2_with (go_at_call 23; refine K1.out.mono ?_; refine Hid.out ?_)
  refine Lib.hid ?_
  first
    | rintro E w3 fo fd rfl hmi haw
    | rintro E w3 ⟨fo, fd, rfl, hmi, haw⟩
  obtain ⟨foa, fon, foc, rfl⟩ := hmi.o.shp
  obtain ⟨fda, fdn, fdc, rfl⟩ := hmi.d.shp
  replace HA := Lib.hid (HA.out.trans haw)
  replace HB2 := Lib.hid (HB2.out.on haw)
  replace HB4 := Lib.hid (HB4.out.on haw)
  clear hmi haw K1
  go_wp2_with (refine wpList_alloc28 rfl rfl ?_; refine Hid.out ?_)
  refine Lib.hid ?_
  intro g5 w4 hg5 hb haw
  have HB5 := Lib.hid hb
  have h45 := HB4.out.lt; have h25 := HB2.out.lt
  have HG5 : Hid (w.heap.size ≤ g5) := Nat.le_trans HA.out.size hg5
  have HN5 : Hid (g2 ≠ g5 ∧ g4 ≠ g5) := by show _ ∧ _; omega
  replace HA := Lib.hid (HA.out.trans haw)
  replace HB2 := Lib.hid (HB2.out.on haw)
  replace HB4 := Lib.hid (HB4.out.on haw)
  clear hb haw hg5 h45 h25
  go_wp2_with (refine wpList_store28 rfl _ _ rfl g5 rfl f1 (.slice foa fon foc) (.slice fda fdn fdc) rfl zeroPk (.slice none 0 0) (.slice none 0 0) (by exact HB5.out) HFA.out ⟨rfl, rfl⟩ rfl rfl ?_; refine Hid.out ?_)
  refine Lib.hid ?_
  intro w5 hb haw
  replace HB5 := Lib.hid hb
  replace HB2 := Lib.hid (HB2.out.away haw (by simp; exact HN5.out.1))
  replace HB4 := Lib.hid (HB4.out.away haw (by simp; exact HN5.out.2))
  replace HA := Lib.hid (HA.out.next haw (fun x hx => .inr (by simp at hx; subst hx; exact HG5.out)))
  clear hb haw HG5 HN5
  have K2 := Lib.hid (ownP_c q ov dv w5 (HQ.out.on HA.out))
  unfold OwnOut at K2
  go_wp2_with (first
    | (refine wpList_load28 rfl _ rfl g2 rfl q _ _ (by exact HB2.out) HAD.out ?_)
    | (go_at_call 12; refine K2.out.mono ?_; refine Hid.out ?_))
  refine Lib.hid ?_
  first
    | rintro E w6 oq dq rfl hmi haw
    | rintro E w6 ⟨oq, dq, rfl, hmi, haw⟩
  obtain ⟨oa, on, oc, rfl⟩ := hmi.o.shp
  obtain ⟨da, dn, dc, rfl⟩ := hmi.d.shp
  have HM0 := Lib.hid (hmi.mono HA.out.size)
  have HLT := Lib.hid hmi.lto
  have hb45 := HB4.out.lt
  replace HA := Lib.hid (HA.out.trans haw)
  replace HB2 := Lib.hid (HB2.out.on haw)
  replace HB4 := Lib.hid (HB4.out.on haw)
  replace HB5 := Lib.hid (HB5.out.on haw)
  clear hmi haw K2
  go_wp2_with (refine wpList_alloc28 rfl rfl ?_; refine Hid.out ?_)
  refine Lib.hid ?_
  intro g7 w7 hg7 hb haw
  have HB7 := Lib.hid hb
  have h47 := HB4.out.lt; have h27 := HB2.out.lt; have h57 := HB5.out.lt
  have HG7 : Hid (w.heap.size ≤ g7) := Nat.le_trans HA.out.size hg7
  have HN7 : Hid (g2 ≠ g7 ∧ g4 ≠ g7 ∧ g5 ≠ g7) := by show _ ∧ _ ∧ _; omega
  have HNO : Hid (∀ k, (Value.slice oa on oc).ownBlock = some k ∨ (Value.slice da dn dc).ownBlock = some k → k ≠ g4 ∧ k ≠ g7) := fun k hk => by
    have h1 := HLT.out k hk
    exact ⟨by omega, by omega⟩
  replace HA := Lib.hid (HA.out.trans haw)
  replace HB2 := Lib.hid (HB2.out.on haw)
  replace HB4 := Lib.hid (HB4.out.on haw)
  replace HB5 := Lib.hid (HB5.out.on haw)
  replace HM0 := Lib.hid (HM0.out.on haw)
  clear hb haw hg7 h47 h27 h57 HLT hb45
  go_wp2_with (refine wpList_store28 rfl _ _ rfl g7 rfl q (.slice oa on oc) (.slice da dn dc) rfl zeroPk (.slice none 0 0) (.slice none 0 0) (by exact HB7.out) HAD.out ⟨rfl, rfl⟩ rfl rfl ?_; refine Hid.out ?_)
  refine Lib.hid ?_
  intro w8 hb haw
  replace HB7 := Lib.hid hb
  replace HB2 := Lib.hid (HB2.out.away haw (by simp; exact HN7.out.1))
  replace HB4 := Lib.hid (HB4.out.away haw (by simp; exact HN7.out.2.1))
  replace HB5 := Lib.hid (HB5.out.away haw (by simp; exact HN7.out.2.2))
  replace HM0 := Lib.hid (HM0.out.away haw (fun k hk => by simp; exact (HNO.out k hk).2))
  replace HA := Lib.hid (HA.out.next haw (fun x hx => .inr (by simp at hx; subst hx; exact HG7.out)))
  clear hb haw
  have c38 := (HB5.out.cells HFA.out).ttl
  go_wp2_with (refine wpList_putF rfl 3 _ _ rfl g7 38 rfl (.int .i64 f1.ttl) rfl (fun u h1 h2 => put3 _ _ _ u h1 h2) q ({ q with ttl := f1.ttl }) _ _ _ _ (by exact HB7.out) HAD.out (by omega) (by exact (csP_set (p := q) HAD.out _ _).2.2.2.2.2.2.1 _) ?_; refine Hid.out ?_)
  refine Lib.hid ?_
  intro w9 hb haw
  replace HB7 : Hid (BoxP w9 g7 ({ q with ttl := f1.ttl }) (.slice oa on oc) (.slice da dn dc)) := hb
  replace HB2 := Lib.hid (HB2.out.away haw (by simp; exact HN7.out.1))
  replace HB4 := Lib.hid (HB4.out.away haw (by simp; exact HN7.out.2.1))
  replace HM0 := Lib.hid (HM0.out.away haw (fun k hk => by simp; exact (HNO.out k hk).2))
  replace HA := Lib.hid (HA.out.next haw (fun x hx => .inr (by simp at hx; subst hx; exact HG7.out)))
  clear hb haw c38 HB5
  have c0 := (HB2.out.cells HAD.out).v
  by_cases h6 : q.v = 6
  · have HQF : Hid (wholeQ q f1 = { q with ttl := f1.ttl, id := 0 }) := by show _ = _; unfold wholeQ; rw [if_pos h6]
    rw [h6] at c0
    clear h6
    go_wp2_with (refine wpList_putF rfl 25 _ _ rfl g7 39 rfl (.int .u32 0) rfl (fun u h1 h2 => put25 _ _ _ u h1 h2) ({ q with ttl := f1.ttl }) ({ q with ttl := f1.ttl, id := 0 }) _ _ _ _ (by exact HB7.out) HAD.out (by omega) (by exact (csP_set (p := { q with ttl := f1.ttl }) HAD.out _ _).2.2.2.2.2.2.2.1 _) ?_; refine Hid.out ?_)
    refine Lib.hid ?_
    intro w10 hb haw
    have HBE : Hid (BoxP w10 g7 ({ q with ttl := f1.ttl, id := 0 }) (.slice oa on oc) (.slice da dn dc)) := hb
    replace HB4 := Lib.hid (HB4.out.away haw (by simp; exact HN7.out.2.1))
    have HM := Lib.hid (HM0.out.away haw (fun k hk => by simp; exact (HNO.out k hk).2))
    replace HA := Lib.hid (HA.out.next haw (fun x hx => .inr (by simp at hx; subst hx; exact HG7.out)))
    clear hb haw HM0 c0
    go_wp2_with (first
      | (refine wpList_load28 rfl _ rfl g7 rfl ({ q with ttl := f1.ttl, id := 0 }) _ _ (by exact HBE.out) HAD.out ?_)
      | (refine wpList_store28 rfl _ _ rfl g4 rfl ({ q with ttl := f1.ttl, id := 0 }) (.slice oa on oc) (.slice da dn dc) rfl zeroPk (.slice none 0 0) (.slice none 0 0) (by exact HB4.out) HAD.out ⟨rfl, rfl⟩ rfl rfl ?_; refine Hid.out ?_))
    refine Lib.hid ?_
    intro wz hbz haw
    have HBZ := Lib.hid hbz
    have HMZ := Lib.hid (HM.out.away haw (fun k hk => by simp; exact (HNO.out k hk).1))
    have HAZ : Hid (Away [] w wz) := HA.out.next haw (fun x hx => .inr (by simp at hx; subst hx; exact HG4.out))
    clear hbz haw
    go_wp2_with fail
    exact bodyPost_ret (result28 rfl _ _ _ _ _ _ rfl HBZ.out HAD.out) rfl ⟨_, _, by rw [HQF.out]; first | done | rfl, by rw [HQF.out]; exact ⟨HMZ.out.o, HMZ.out.d, HMZ.out.no, HMZ.out.nd, HMZ.out.ap⟩, HAZ.out⟩
  · have HQF : Hid (wholeQ q f1 = { q with ttl := f1.ttl }) := by show _ = _; unfold wholeQ; rw [if_neg h6]
    have e6 : (q.v == 6) = false := by simpa using h6
    have HM := HM0
    clear HM0
    go_wp2_with (first
      | (refine wpList_load28 rfl _ rfl g7 rfl ({ q with ttl := f1.ttl }) _ _ (by exact HB7.out) HAD.out ?_)
      | (refine wpList_store28 rfl _ _ rfl g4 rfl ({ q with ttl := f1.ttl }) (.slice oa on oc) (.slice da dn dc) rfl zeroPk (.slice none 0 0) (.slice none 0 0) (by exact HB4.out) HAD.out ⟨rfl, rfl⟩ rfl rfl ?_; refine Hid.out ?_))
    refine Lib.hid ?_
    intro wz hbz haw
    have HBZ := Lib.hid hbz
    have HMZ := Lib.hid (HM.out.away haw (fun k hk => by simp; exact (HNO.out k hk).1))
    have HAZ : Hid (Away [] w wz) := HA.out.next haw (fun x hx => .inr (by simp at hx; subst hx; exact HG4.out))
    clear hbz haw
    go_wp2_with fail
    exact bodyPost_ret (result28 rfl _ _ _ _ _ _ rfl HBZ.out HAD.out) rfl ⟨_, _, by rw [HQF.out]; first | done | rfl, by rw [HQF.out]; exact ⟨HMZ.out.o, HMZ.out.d, HMZ.out.no, HMZ.out.nd, HMZ.out.ap⟩, HAZ.out⟩
end R
#print axioms R.whole_e
end Go.Proofs.YtbkeilboneaejaaGreatDoor
