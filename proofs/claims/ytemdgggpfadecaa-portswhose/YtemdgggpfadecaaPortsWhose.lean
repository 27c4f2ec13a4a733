/-
  PortsWhose.
-/
import Derived.Test.YtemdgggpfadecaaWh
import Derived.Test.YtemdgggpfadecaaCl
namespace Go.Proofs.Ytemdgggpfadecaa
open Go.ChangeShapes Go.WideShapes Go.ChangeAt Go.RowKit
set_option linter.unusedVariables false
set_option linter.unusedSimpArgs false
set_option maxRecDepth 100000

theorem rank {t : Tb} (h : WfT t) {n : Int} {j : Nat} {y : Bd} (hy : t.bs[j]? = some y) : y.n = n ↔ idxP (isN n) t.bs = some j := by
  constructor
  · rintro rfl
    exact idx_some hy (by simp [isN]) (fun i z hi hz => by have := h.up i j z y hi hz hy; simp [isN]; omega)
  · intro hi
    obtain ⟨z, h1, h2, -⟩ := idx_get hi
    rw [hy] at h1
    simp only [Option.some.injEq] at h1
    rw [h1]; simpa [isN] using h2
theorem rowAt_chg {o : Nat → Nat} {k j : Nat} {w w' : World} {g : Nat} {cs : Array Value} (h : rowAt w g = some cs) (hg : o g = j) (hc : Chg o k w w') (hj : j ≠ k) : rowAt w' g = some cs ∧ give o w k g = j := by
  obtain ⟨t, hh, hs⟩ := rowAt_some h
  exact ⟨rowAt_of (hc.keep hg hj hh) hs, by rw [give_old (lt_of_block hh)]; exact hg⟩
theorem loadR_run {w : World} {g : Nat} {cs : Array Value} (h : rowAt w g = some cs) : (Instr.loadAt 32 (.pointer (some ⟨g, 0, none⟩))).run Try.prog w = .ok (.agg cs) w := by rw [load24_eq, h]; rfl
theorem yields_ixI {ops : Array Oper} {S : World → Prop} {op : Oper} {a : Act} (hw : Region.wanted op (yielded ops a.tmps) = true) (x ix : Operand) (ho : op.op = .indexAddr 37 x ix) (gb n cap i : Nat) (hx : a.eval x = .slice (some ⟨gb, 0, none⟩) n cap) (hix : a.eval ix = .int .i64 (i : Int)) (hi : i < n) : YieldsIf Try.prog ops S op (.pointer (some ⟨gb, i, none⟩)) a :=
  .inl ⟨hw, fun w hw' => by
    have hu : Try.prog.underlying 37 = some (.slice (Try.prog.elem 37)) := by kernel_rfl
    have he : Try.prog.elem 37 = 3 := by kernel_rfl
    have hsz : (sizeOf 3).run Try.prog w = .ok 1 w := by kernel_rfl
    unfold execOp
    simp only [ho, hx, hix, Sem.run_bind]
    rw [run_indexAt_slice w 37 ⟨gb, 0, none⟩ n cap .i64 (i : Int) hu, he, if_pos ⟨by omega, by omega⟩, hsz]
    simp only [Result.andThen, add_plain, Int.toNat_natCast, Nat.zero_add, Nat.mul_one]
    rfl⟩
theorem yields_slice {ops : Array Oper} {S : World → Prop} {op : Oper} {a : Act} {v : Value} (hw : Region.wanted op (yielded ops a.tmps) = true) (x : Operand) (lo hi : Option Operand) (ho : op.op = .slice 41 x lo hi none)
    (h : ∀ w, (Instr.sliceAt 41 (a.eval x) (lo.map a.eval) (hi.map a.eval) none).run Try.prog w = .ok v w) : YieldsIf Try.prog ops S op v a :=
  .inl ⟨hw, fun w hw' => by
    have h1 := h w
    unfold execOp
    simp only [ho, Sem.run_bind, Option.map_none, h1, Result.andThen_ok, Sem.run_pure]⟩
/-- Where it was met among the first j; -1: not yet. -/
def atK (i : Option Nat) (j : Nat) : Int := match i with
  | some k => if k < j then (k : Int) else -1
  | none => -1
theorem bind_is {t : Tb} (h : WfT t) (v : Int) (l : List Int) (p : Int) :
    ((mayP v l = false ∨ p < 0 ∨ 65535 < p) ∧ bindP t v l p = ((0, 0, 1), t)) ∨
    (¬ (mayP v l = false ∨ p < 0 ∨ 65535 < p) ∧ 0 < p ∧ justP t.bs v l p ≠ 0 ∧ 0 < justP t.bs v l p ∧ bindP t v l p = ((0, 0, 200), t)) ∨
    (¬ (mayP v l = false ∨ p < 0 ∨ 65535 < p) ∧ justP t.bs v l p = 0 ∧ (t.bs.length : Int) = t.most ∧ bindP t v l p = ((0, 0, 201), t)) ∨
    (¬ (mayP v l = false ∨ p < 0 ∨ 65535 < p) ∧ justP t.bs v l p = 0 ∧ (t.bs.length : Int) < t.most ∧ ∃ P, (p = 0 → P = freeP t.bs v l) ∧ (p ≠ 0 → P = p) ∧ bindP t v l p = ((t.last + 1, P, 0), ⟨t.most, t.last + 1, t.bs ++ [⟨t.last + 1, v, l, P⟩]⟩) ∧ justP t.bs v l P = 0) := by
  by_cases h1 : mayP v l = false ∨ p < 0 ∨ 65535 < p
  · exact .inl ⟨h1, by unfold bindP; rw [if_pos h1]⟩
  by_cases h2 : justP t.bs v l p ≠ 0
  · have h3 : p ≠ 0 := fun h0 => h2 (by rw [h0]; exact justP_zero h)
    simp only [not_or] at h1
    obtain ⟨y, hy, -⟩ := justP_pos h h2
    have h4 : 0 < justP t.bs v l p := by
      cases hi : idxP (hit v l p) t.bs with
      | none => exact absurd (justP_none hi) h2
      | some k => exact (justP_some h hi).2
    exact .inr (.inl ⟨by simp only [not_or]; exact h1, by omega, h2, h4, by unfold bindP; rw [if_neg (by simp only [not_or]; exact h1), if_pos h2]⟩)
  have h2' : justP t.bs v l p = 0 := by simpa using h2
  by_cases h3 : (t.bs.length : Int) = t.most
  · exact .inr (.inr (.inl ⟨h1, h2', h3, by unfold bindP; rw [if_neg h1, if_neg h2, if_pos h3]⟩))
  have hlen := h.len
  refine .inr (.inr (.inr ⟨h1, h2', by omega, if p = 0 then freeP t.bs v l else p, fun h0 => if_pos h0, fun h0 => if_neg h0, by unfold bindP; rw [if_neg h1, if_neg h2, if_neg h3], ?_⟩))
  split
  · exact (freeP_is h v l).2.2.1
  · exact h2'
set_option maxHeartbeats 64000000 in
theorem walk (sz : Int) (sa : Option Addr) (l : List Opr) (cap : Nat) (W : World) (hr : RowO W sa l) (hl : l.length ≤ 2932031007402) :
    Calls Try.prog 4 #[.int .i64 sz, .slice sa l.length cap] W fun E w' => E = .returned (.bool true) ∧ Below W.heap.size W w' := by
  have HR := Lib.hid hr
  obtain ⟨n, hn⟩ : ∃ n, n = l.length := ⟨_, rfl⟩
  rw [← hn] at hl ⊢
  have HN := Lib.hid hn
  clear hn hr
  go_enter Try.func4, Try.ntmps4
  go_wp2_with fail
  refine (alive_c _).mono ?_
  rintro E w0 ⟨rfl, haw⟩
  have HU0 := Lib.hid ((Out.start W).on haw)
  clear haw
  obtain ⟨hm0, hm1⟩ := and31 sz
  go_wp2_with fail
  obtain ⟨mo, hmo⟩ : ∃ z, z = 1 + bits .and .i64 sz 31 := ⟨_, rfl⟩
  rw [← hmo]
  have hmo0 : 1 ≤ mo := by omega
  have hmo1 : mo ≤ 32 := by omega
  clear hmo hm0 hm1
  refine (new_o (fun _ => 0) 1 mo w0 hmo0 hmo1).mono ?_
  rintro E w1 ⟨g, rfl, ho, hc⟩
  have HO := Lib.hid ho
  have HU := Lib.hid (HU0.out.keep hc (by decide))
  clear ho hc HU0
  go_wp2_with fail
  go_loopw [8, 9, 10] (fun v8 v9 i wr => ∃ (k : Nat) (o : Nat → Nat) (t : Tb), i = .int .i64 (k : Int) ∧ k ≤ n ∧ KB.Ow o 1 wr g t ∧ Bk o 2 wr v8 t.bs ∧ v9 = .int .i64 t.last ∧ Out o W wr ∧ t.last ≤ (k : Int) ∧ t.most = mo) (fun _ _ i _ => n - (intOf i).toNat)
  case atStart => exact ⟨0, _, _, rfl, Nat.zero_le _, HO.out, ⟨KO.LstD.nil _, by simp [Value.ownBlock]⟩, rfl, HU.out, Int.le_refl _, rfl⟩
  case round =>
    clear HO HU
    obtain ⟨k, o, t, rfl, hk, ho, hbk, rfl, hu, hla, hmo⟩ := hrel
    have HO := Lib.hid ho
    have HBK := Lib.hid hbk
    have HU := Lib.hid hu
    have HMO := Lib.hid hmo
    have HWT := Lib.hid ho.wf
    have hl0 := ho.wf.l0
    clear ho hbk hu hmo
    by_cases hkn : k < n
    · have j1 : decide (k < n) = true := by simp; omega
      have j0 : (k : Int) < (n : Int) := by omega
      have j2 : 0 ≤ (k : Int) := by omega
      have j3 : ((k : Int)).toNat = k := by omega
      obtain ⟨x, hx, -⟩ := get_of (show k < l.length by rw [← HN.out]; omega)
      obtain ⟨b, off, hb, hbl, hrg, hox⟩ := HR.out.at hx
      subst hb
      have HX := Lib.hid hox
      have HRG := Lib.hid (range_away HU.out.1 (by simp) hrg)
      clear hrg hox hx hkn hbl
      go_wp2_with (first
        | (refine wpList_load35 rfl _ rfl b (off + k * 20) rfl x HX.out HRG.out ?_)
        | (refine wpList_alloc35 rfl rfl ?_; refine Hid.out ?_))
      refine Lib.hid ?_
      intro g11 w1 hg11 hbx haw
      have HB := Lib.hid hbx
      replace HO := Lib.hid (HO.out.give 9 haw)
      replace HBK := Lib.hid (HBK.out.give 9 haw)
      replace HU := Lib.hid (HU.out.give 9 haw)
      have H9 : Hid (give o wr 9 g11 = 9) := give_new hg11
      clear hbx haw HRG hg11
      generalize give o wr 9 = o at *
      go_wp2_with (refine wpList_store35 rfl _ _ rfl g11 rfl x zeroO HX.out zeroO_ok rfl HB.out ?_; refine Hid.out ?_)
      refine Lib.hid ?_
      intro w2 hbx haw
      have hc : Chg o 9 w1 w2 := Chg.of haw (fun s hs => by simp at hs; subst hs; exact H9.out)
      replace HB := Lib.hid hbx
      replace HO := Lib.hid (HO.out.kp hc (by decide))
      replace HBK := Lib.hid (HBK.out.kp hc (by decide))
      replace HU := Lib.hid (HU.out.kp hc (by decide))
      clear hbx haw hc
      have cv : w2.cell? ⟨g11, 3, none⟩ = some (.int .i64 x.v) := by have := HB.out.cells.2.2.2 0 _ rfl; simpa using this
      go_wp2_with (first
        | (refine wpList_build4 rfl _ rfl x.v rfl ?_)
        | (refine wpList_alloc32 rfl rfl ?_; refine Hid.out ?_))
      refine Lib.hid ?_
      intro g12 w3 hg12 hr12 haw
      have H12 := Lib.hid hr12
      have hlt11 := lt_of_block HB.out
      replace HB := Lib.hid (HB.out.on haw (by simp))
      have H9' : Hid (give o w2 9 g11 = 9) := by show _ = _; rw [give_old hlt11]; exact H9.out
      replace H9 := H9'
      replace HO := Lib.hid (HO.out.give 9 haw)
      replace HBK := Lib.hid (HBK.out.give 9 haw)
      replace HU := Lib.hid (HU.out.give 9 haw)
      have H129 : Hid (give o w2 9 g12 = 9) := give_new hg12
      have hne : g11 ≠ g12 := by omega
      clear hr12 haw cv H9' hlt11 hg12
      generalize give o w2 9 = o at *
      go_wp2_with (refine wpList_store32 rfl _ _ rfl g12 rfl x.v z16 rfl rfl _ H12.out ?_; refine Hid.out ?_)
      refine Lib.hid ?_
      intro w4 hr4 haw
      have hc : Chg o 9 w3 w4 := Chg.of haw (fun s hs => by simp at hs; subst hs; exact H129.out)
      replace H12 := Lib.hid hr4
      replace HB := Lib.hid (HB.out.on haw (by simpa using hne))
      replace HO := Lib.hid (HO.out.kp hc (by decide))
      replace HBK := Lib.hid (HBK.out.kp hc (by decide))
      replace HU := Lib.hid (HU.out.kp hc (by decide))
      clear hr4 haw hc hne
      obtain ⟨c0, -, c2, -⟩ := HB.out.cells
      go_upto_block 2 with fail
      go_cut [8, 9] (fun v8 v9 wc => ∃ (o : Nat → Nat) (t : Tb), KB.Ow o 1 wc g t ∧ Bk o 2 wc v8 t.bs ∧ v9 = .int .i64 t.last ∧ BoxO wc g11 x ∧ rowAt wc g12 = some (csA x.v z16) ∧ Out o W wc ∧ t.last ≤ (k : Int) + 1 ∧ t.most = mo)
      case first =>
       by_cases h1 : x.kd = 1
       · have e1k : (x.kd == 1) = true := by simpa using h1
         clear h1
         as_aux_lemma =>
           go_wp2_with (refine wpList_load32m rfl _ rfl g11 3 rfl x.v x.l HX.out.2.2.2.2.1 HB.out.cells.2.2.2 ?_)
           refine (bind_o HO.out x.v x.l HX.out.2.2.2.2 x.n (by omega)).mono ?_
           rintro E w5 ⟨rfl, ho, hc⟩
           obtain ⟨h12, h129⟩ := rowAt_chg H12.out H129.out hc (by decide)
           obtain ⟨hb9, h9⟩ := BoxO.chg HB.out H9.out hc (by decide)
           replace H12 := Lib.hid h12
           replace H129 := Lib.hid h129
           replace HB := Lib.hid hb9
           replace H9 := Lib.hid h9
           replace HU := Lib.hid (HU.out.keep hc (by decide))
           replace HBK := Lib.hid (HBK.out.keep hc (by decide))
           replace HO := Lib.hid ho
           clear ho hc h12 h129 hb9 h9 c0 c2
           generalize give o w4 1 = o at *
           obtain ⟨c0, -, c2, -⟩ := HB.out.cells
           go_wp2_with (refine wpList_load32m rfl _ rfl g11 3 rfl x.v x.l HX.out.2.2.2.2.1 HB.out.cells.2.2.2 ?_)
           refine (kind_c x.v x.l HX.out.2.2.2.2.1 _).mono ?_
           rintro E w6 ⟨rfl, hbl⟩
           have haw := Away.of_below hbl
           replace HO := Lib.hid (HO.out.on haw)
           replace HBK := Lib.hid (HBK.out.on haw)
           replace HB := Lib.hid (HB.out.on haw (by simp))
           replace H12 := Lib.hid (rowAt_away H12.out haw (by simp))
           replace HU := Lib.hid (HU.out.on haw)
           clear haw hbl c0 c2
           obtain ⟨c0, -, c2, -⟩ := HB.out.cells
           obtain ⟨kd, hkd⟩ : ∃ z, z = kindP x.v x.l := ⟨_, rfl⟩
           have HMP : Hid (mayP x.v x.l = (decide (kd = 1) || decide (kd = 5))) := by show _ = _; rw [hkd]; rfl
           rw [← hkd]
           clear hkd
           obtain ⟨bad, hbad⟩ : ∃ z, z = ((!(decide (kd = 1) || decide (kd = 5))) || (decide (x.n < 0) || decide (65535 < x.n))) := ⟨_, rfl⟩
           have HBAD := Lib.hid hbad
           have HBIF : Hid (bad = true ↔ (mayP x.v x.l = false ∨ x.n < 0 ∨ 65535 < x.n)) := by
             show _ ↔ _
             rw [hbad, HMP.out]
             simp
           clear hbad
           go_upto_region 27 with fail
           go_cut [140] (fun v wc => v = .bool bad ∧ wc = w6)
           case first =>
             as_aux_lemma =>
               by_cases h1 : kd = 1
               · have e1 : (kd != 1) = false := by simp [h1]
                 have h1' : decide (kd = 1) = true := by simpa using h1
                 by_cases h0 : x.n < 0
                 · have e0 : decide (x.n < 0) = true := by simpa using h0
                   rw [h1', e0] at HBAD
                   clear h1 h0
                   go_wp2_with fail
                   go_meet
                   exact ⟨by rw [HBAD.out]; rfl, rfl⟩
                 · have e0 : decide (x.n < 0) = false := by simpa using h0
                   rw [h1', e0] at HBAD
                   clear h1 h0
                   go_wp2_with fail
                   go_meet
                   exact ⟨by rw [HBAD.out]; rfl, rfl⟩
               · have e1 : (kd != 1) = true := by simpa using h1
                 have h1' : decide (kd = 1) = false := by simpa using h1
                 by_cases h5 : kd = 5
                 · have e5 : (kd != 5) = false := by simp [h5]
                   have h5' : decide (kd = 5) = true := by simpa using h5
                   by_cases h0 : x.n < 0
                   · have e0 : decide (x.n < 0) = true := by simpa using h0
                     rw [h1', h5', e0] at HBAD
                     clear h1 h0 h5
                     go_wp2_with fail
                     go_meet
                     exact ⟨by rw [HBAD.out]; rfl, rfl⟩
                   · have e0 : decide (x.n < 0) = false := by simpa using h0
                     rw [h1', h5', e0] at HBAD
                     clear h1 h0 h5
                     go_wp2_with fail
                     go_meet
                     exact ⟨by rw [HBAD.out]; rfl, rfl⟩
                 · have e5 : (kd != 5) = true := by simpa using h5
                   have h5' : decide (kd = 5) = false := by simpa using h5
                   rw [h1', h5'] at HBAD
                   clear h1 h5
                   go_wp2_with fail
                   go_meet
                   exact ⟨by rw [HBAD.out]; rfl, rfl⟩
           case rest =>
           obtain ⟨rfl, hwc⟩ := hcut
           obtain rfl := hwc.symm
           clear HBAD HMP
           rcases bind_is HWT.out x.v x.l x.n with ⟨hb1, hbe⟩ | ⟨hb1, hb2, hb3, hb4, hbe⟩ | ⟨hb1, hb2, hb3, hbe⟩ | ⟨hb1, hb2, hb3, P, hp0, hp1, hbe, hjP⟩
           · as_aux_lemma =>
               obtain rfl : bad = true := HBIF.out.2 hb1
               rw [hbe] at HO ⊢
               clear hbe hb1
               have HWN := Lib.hid HO.out.wf
               go_wp2_with fail
               go_meet
               exact ⟨o, t, HO.out, HBK.out, rfl, HB.out, H12.out, HU.out, by omega, HMO.out⟩
           · as_aux_lemma =>
               obtain rfl : bad = false := by cases bad with | false => rfl | true => exact absurd (HBIF.out.1 rfl) hb1
               rw [hbe] at HO ⊢
               clear hbe hb1
               have HWN := Lib.hid HO.out.wf
               have e0 : decide (0 < x.n) = true := by simpa using hb2
               have e1 : decide (0 < justP t.bs x.v x.l x.n) = true := by simpa using hb4
               clear hb2 hb3 hb4
               go_wp2_with (refine wpList_load32m rfl _ rfl g11 3 rfl x.v x.l HX.out.2.2.2.2.1 HB.out.cells.2.2.2 ?_)
               refine (ljust_o HBK.out HWT.out x.v x.l HX.out.2.2.2.2.1 x.n).mono ?_
               rintro E w7 ⟨rfl, haw⟩
               replace HO := Lib.hid (HO.out.on haw)
               replace HBK := Lib.hid (HBK.out.on haw)
               replace HB := Lib.hid (HB.out.on haw (by simp))
               replace H12 := Lib.hid (rowAt_away H12.out haw (by simp))
               replace HU := Lib.hid (HU.out.on haw)
               clear haw c0 c2
               obtain ⟨c0, -, c2, -⟩ := HB.out.cells
               go_wp2_with fail
               go_meet
               exact ⟨o, t, HO.out, HBK.out, rfl, HB.out, H12.out, HU.out, by omega, HMO.out⟩
           · as_aux_lemma =>
               have hb0 : Hid (0 ≤ x.n) := by show _ ≤ _; simp only [not_or] at hb1; omega
               obtain rfl : bad = false := by cases bad with | false => rfl | true => exact absurd (HBIF.out.1 rfl) hb1
               rw [hbe] at HO ⊢
               clear hbe hb1
               have HWN := Lib.hid HO.out.wf
               by_cases hxp : 0 < x.n
               · have e0 : decide (0 < x.n) = true := by simpa using hxp
                 go_wp2_with (refine wpList_load32m rfl _ rfl g11 3 rfl x.v x.l HX.out.2.2.2.2.1 HB.out.cells.2.2.2 ?_)
                 refine (ljust_o HBK.out HWT.out x.v x.l HX.out.2.2.2.2.1 x.n).mono ?_
                 rintro E w7 ⟨rfl, haw⟩
                 replace HO := Lib.hid (HO.out.on haw)
                 replace HBK := Lib.hid (HBK.out.on haw)
                 replace HB := Lib.hid (HB.out.on haw (by simp))
                 replace H12 := Lib.hid (rowAt_away H12.out haw (by simp))
                 replace HU := Lib.hid (HU.out.on haw)
                 clear haw c0 c2
                 obtain ⟨c0, -, c2, -⟩ := HB.out.cells
                 rw [hb2]
                 have hxn : x.n ≠ 0 := by omega
                 clear hxp
                 as_aux_lemma =>
                   clear hxn
                   obtain ⟨va, vc, hv, -⟩ := HBK.out.1.sl
                   subst hv
                   have em : decide (mo ≤ (t.bs.length : Int)) = true := by have := HMO.out; simp; omega
                   clear hb3
                   go_wp2_with fail
                   go_meet
                   exact ⟨o, t, HO.out, HBK.out, rfl, HB.out, H12.out, HU.out, by omega, HMO.out⟩
               have e0 : decide (0 < x.n) = false := by simpa using hxp
               have hxn : x.n = 0 := by have h8 := hb0.out; omega
               clear hxp
               as_aux_lemma =>
                 clear hxn
                 obtain ⟨va, vc, hv, -⟩ := HBK.out.1.sl
                 subst hv
                 have em : decide (mo ≤ (t.bs.length : Int)) = true := by have := HMO.out; simp; omega
                 clear hb3
                 go_wp2_with fail
                 go_meet
                 exact ⟨o, t, HO.out, HBK.out, rfl, HB.out, H12.out, HU.out, by omega, HMO.out⟩
           · as_aux_lemma =>
               have hb0 : Hid (0 ≤ x.n) := by show _ ≤ _; simp only [not_or] at hb1; omega
               obtain rfl : bad = false := by cases bad with | false => rfl | true => exact absurd (HBIF.out.1 rfl) hb1
               rw [hbe] at HO ⊢
               clear hbe hb1
               have HWN := Lib.hid HO.out.wf
               by_cases hxp : 0 < x.n
               · have e0 : decide (0 < x.n) = true := by simpa using hxp
                 go_wp2_with (refine wpList_load32m rfl _ rfl g11 3 rfl x.v x.l HX.out.2.2.2.2.1 HB.out.cells.2.2.2 ?_)
                 refine (ljust_o HBK.out HWT.out x.v x.l HX.out.2.2.2.2.1 x.n).mono ?_
                 rintro E w7 ⟨rfl, haw⟩
                 replace HO := Lib.hid (HO.out.on haw)
                 replace HBK := Lib.hid (HBK.out.on haw)
                 replace HB := Lib.hid (HB.out.on haw (by simp))
                 replace H12 := Lib.hid (rowAt_away H12.out haw (by simp))
                 replace HU := Lib.hid (HU.out.on haw)
                 clear haw c0 c2
                 obtain ⟨c0, -, c2, -⟩ := HB.out.cells
                 rw [hb2]
                 have hxn : x.n ≠ 0 := by omega
                 clear hxp
                 as_aux_lemma =>
                   obtain rfl : P = x.n := hp1 hxn
                   obtain ⟨va, vc, hv, -⟩ := HBK.out.1.sl
                   subst hv
                   have em : decide (mo ≤ (t.bs.length : Int)) = false := by have := HMO.out; simp; omega
                   have el : decide (t.last + 1 ≤ t.last) = false := by simp; omega
                   have ez : (x.n == 0) = false := by simpa using hxn
                   clear hp0 hp1 hxn hb3
                   go_wp2_with (refine wpList_load32m rfl _ rfl g11 3 rfl x.v x.l HX.out.2.2.2.2.1 HB.out.cells.2.2.2 ?_)
                   refine (ljust_o HBK.out HWT.out x.v x.l HX.out.2.2.2.2.1 x.n).mono ?_
                   rintro E w8 ⟨rfl, haw⟩
                   replace HO := Lib.hid (HO.out.on haw)
                   replace HBK := Lib.hid (HBK.out.on haw)
                   replace HB := Lib.hid (HB.out.on haw (by simp))
                   replace H12 := Lib.hid (rowAt_away H12.out haw (by simp))
                   replace HU := Lib.hid (HU.out.on haw)
                   clear haw c0 c2
                   obtain ⟨c0, -, c2, -⟩ := HB.out.cells
                   rw [hb2]
                   go_wp2_with fail
                   go_loopw [17] (fun i wr => ∃ q : Int, i = .int .i64 q ∧ KB.Ow o 1 wr g (⟨t.most, t.last + 1, t.bs ++ [⟨t.last + 1, x.v, x.l, x.n⟩]⟩ : Tb) ∧ Bk o 2 wr (.slice va t.bs.length vc) t.bs ∧ BoxO wr g11 x ∧ rowAt wr g12 = some (csA x.v z16) ∧ Out o W wr) (fun i _ => 0)
                   case atStart => exact ⟨49152, rfl, HO.out, HBK.out, HB.out, H12.out, HU.out⟩
                   case round =>
                     clear HO HBK HB H12 HU c0 c2
                     obtain ⟨q, rfl, ho, hbk, hbo, h12, hu⟩ := hrel
                     have HO := Lib.hid ho
                     have HBK := Lib.hid hbk
                     have HB := Lib.hid hbo
                     have H12 := Lib.hid h12
                     have HU := Lib.hid hu
                     clear ho hbk hbo h12 hu
                     obtain ⟨c0, -, c2, -⟩ := HB.out.cells
                     go_wp2_with (first
                       | (refine wpList_load32m rfl _ rfl g11 3 rfl x.v x.l HX.out.2.2.2.2.1 HB.out.cells.2.2.2 ?_)
                       | (refine KO.wpList_buildE rfl _ _ _ rfl ⟨t.last + 1, x.v, x.l, x.n⟩ HX.out.2.2.2.2.1 rfl rfl rfl ?_)
                       | (refine KO.wpList_buildS rfl _ rfl ⟨t.last + 1, x.v, x.l, x.n⟩ rfl HX.out.2.2.2.2.1 ?_; refine Hid.out ?_))
                     refine Lib.hid ?_
                     intro gb wj hgb hbx haw
                     have HBN := Lib.hid hbx
                     replace HO := Lib.hid (HO.out.on haw)
                     replace HBK := Lib.hid (HBK.out.on haw)
                     replace HB := Lib.hid (HB.out.on haw (by simp))
                     replace H12 := Lib.hid (rowAt_away H12.out haw (by simp))
                     replace HU := Lib.hid (HU.out.on haw)
                     clear haw hbx c0 c2 hgb
                     go_wp2_with (at_builtin; refine KO.wpList_appD rfl _ _ rfl (.slice va t.bs.length vc) t.bs rfl HBK.out.1 gb 1 rfl ⟨t.last + 1, x.v, x.l, x.n⟩ HBN.out HX.out.2.2.2.2.1 (by have := HWT.out.le; omega) ?_; refine Hid.out ?_)
                     refine Lib.hid ?_
                     intro v2 wk hl2 hgr hmv
                     obtain ⟨hbk, hc⟩ := HBK.out.app hl2 hgr hmv
                     obtain ⟨h12, h129⟩ := rowAt_chg H12.out H129.out hc (by decide)
                     obtain ⟨hb9, h9⟩ := BoxO.chg HB.out H9.out hc (by decide)
                     replace H12 := Lib.hid h12
                     replace H129 := Lib.hid h129
                     replace HB := Lib.hid hb9
                     replace H9 := Lib.hid h9
                     replace HU := Lib.hid (HU.out.keep hc (by decide))
                     replace HO := Lib.hid (HO.out.keep hc (by decide))
                     replace HBK := Lib.hid (show Bk _ 2 wk v2 (⟨t.most, t.last + 1, t.bs ++ [⟨t.last + 1, x.v, x.l, x.n⟩]⟩ : Tb).bs from hbk)
                     clear hbk hc hb9 h9 h12 h129 hl2 hgr hmv HBN
                     generalize give o wj 2 = o at *
                     obtain ⟨c0, -, c2, -⟩ := HB.out.cells
                     go_wp2_with fail
                     go_meet
                     exact ⟨o, (⟨t.most, t.last + 1, t.bs ++ [⟨t.last + 1, x.v, x.l, x.n⟩]⟩ : Tb), HO.out, HBK.out, rfl, HB.out, H12.out, HU.out, by show t.last + 1 ≤ _; omega, HMO.out⟩
               have e0 : decide (0 < x.n) = false := by simpa using hxp
               have hxn : x.n = 0 := by have h8 := hb0.out; omega
               clear hxp
               as_aux_lemma =>
                 have hP := hp0 hxn
                 have HFI := Lib.hid (freeP_is HWT.out x.v x.l)
                 rw [← hP] at HFI
                 obtain ⟨P0, P1⟩ : 49152 ≤ P ∧ P ≤ 65535 := ⟨HFI.out.1, HFI.out.2.1⟩
                 obtain ⟨va, vc, hv, -⟩ := HBK.out.1.sl
                 subst hv
                 have em : decide (mo ≤ (t.bs.length : Int)) = false := by have := HMO.out; simp; omega
                 have el : decide (t.last + 1 ≤ t.last) = false := by simp; omega
                 have ez : (x.n == 0) = true := by simpa using hxn
                 have eq1 : decide (P < 49152) = false := by simp; omega
                 have eq2 : decide (65535 < P) = false := by simp; omega
                 clear hp0 hp1 hxn hb3 hP
                 go_wp2_with (refine wpList_load32m rfl _ rfl g11 3 rfl x.v x.l HX.out.2.2.2.2.1 HB.out.cells.2.2.2 ?_)
                 refine (ljust_o HBK.out HWT.out x.v x.l HX.out.2.2.2.2.1 P).mono ?_
                 rintro E w8 ⟨rfl, haw⟩
                 replace HO := Lib.hid (HO.out.on haw)
                 replace HBK := Lib.hid (HBK.out.on haw)
                 replace HB := Lib.hid (HB.out.on haw (by simp))
                 replace H12 := Lib.hid (rowAt_away H12.out haw (by simp))
                 replace HU := Lib.hid (HU.out.on haw)
                 clear haw c0 c2
                 obtain ⟨c0, -, c2, -⟩ := HB.out.cells
                 rw [hjP]
                 go_wp2_with fail
                 go_loopw [17] (fun i wr => ∃ q : Int, i = .int .i64 q ∧ 49152 ≤ q ∧ q ≤ P ∧ KB.Ow o 1 wr g (⟨t.most, t.last + 1, t.bs ++ [⟨t.last + 1, x.v, x.l, P⟩]⟩ : Tb) ∧ Bk o 2 wr (.slice va t.bs.length vc) t.bs ∧ BoxO wr g11 x ∧ rowAt wr g12 = some (csA x.v z16) ∧ Out o W wr) (fun i _ => (65536 - intOf i).toNat)
                 case atStart => exact ⟨49152, rfl, by omega, by omega, HO.out, HBK.out, HB.out, H12.out, HU.out⟩
                 case round =>
                   clear HO HBK HB H12 HU c0 c2
                   obtain ⟨q, rfl, hq0, hq1, ho, hbk, hbo, h12, hu⟩ := hrel
                   have HO := Lib.hid ho
                   have HBK := Lib.hid hbk
                   have HB := Lib.hid hbo
                   have H12 := Lib.hid h12
                   have HU := Lib.hid hu
                   clear ho hbk hbo h12 hu
                   obtain ⟨c0, -, c2, -⟩ := HB.out.cells
                   by_cases hqP : q < P
                   · have eqP : decide (q < P) = true := by simpa using hqP
                     have HJQ : Hid (justP t.bs x.v x.l q ≠ 0) := HFI.out.2.2.2 q hq0 hqP
                     go_wp2_with (refine wpList_load32m rfl _ rfl g11 3 rfl x.v x.l HX.out.2.2.2.2.1 HB.out.cells.2.2.2 ?_)
                     refine (ljust_o HBK.out HWT.out x.v x.l HX.out.2.2.2.2.1 q).mono ?_
                     rintro E w9 ⟨rfl, haw⟩
                     replace HO := Lib.hid (HO.out.on haw)
                     replace HBK := Lib.hid (HBK.out.on haw)
                     replace HB := Lib.hid (HB.out.on haw (by simp))
                     replace H12 := Lib.hid (rowAt_away H12.out haw (by simp))
                     replace HU := Lib.hid (HU.out.on haw)
                     clear haw c0 c2
                     obtain ⟨c0, -, c2, -⟩ := HB.out.cells
                     obtain ⟨jq, hjq⟩ : ∃ z, z = justP t.bs x.v x.l q := ⟨_, rfl⟩
                     rw [← hjq] at HJQ ⊢
                     have ejq : (jq == 0) = false := by simpa using HJQ.out
                     clear hjq
                     go_wp2_with fail
                     go_roundw
                     case rel => exact ⟨q + 1, by go_num, by omega, by omega, HO.out, HBK.out, HB.out, H12.out, HU.out⟩
                     case measure => simp [intOf]; omega
                   have eqP : decide (q < P) = false := by simpa using hqP
                   clear hqP
                   go_wp2_with (first
                     | (refine wpList_load32m rfl _ rfl g11 3 rfl x.v x.l HX.out.2.2.2.2.1 HB.out.cells.2.2.2 ?_)
                     | (refine KO.wpList_buildE rfl _ _ _ rfl ⟨t.last + 1, x.v, x.l, P⟩ HX.out.2.2.2.2.1 rfl rfl rfl ?_)
                     | (refine KO.wpList_buildS rfl _ rfl ⟨t.last + 1, x.v, x.l, P⟩ rfl HX.out.2.2.2.2.1 ?_; refine Hid.out ?_))
                   refine Lib.hid ?_
                   intro gb wj hgb hbx haw
                   have HBN := Lib.hid hbx
                   replace HO := Lib.hid (HO.out.on haw)
                   replace HBK := Lib.hid (HBK.out.on haw)
                   replace HB := Lib.hid (HB.out.on haw (by simp))
                   replace H12 := Lib.hid (rowAt_away H12.out haw (by simp))
                   replace HU := Lib.hid (HU.out.on haw)
                   clear haw hbx c0 c2 hgb
                   go_wp2_with (at_builtin; refine KO.wpList_appD rfl _ _ rfl (.slice va t.bs.length vc) t.bs rfl HBK.out.1 gb 1 rfl ⟨t.last + 1, x.v, x.l, P⟩ HBN.out HX.out.2.2.2.2.1 (by have := HWT.out.le; omega) ?_; refine Hid.out ?_)
                   refine Lib.hid ?_
                   intro v2 wk hl2 hgr hmv
                   obtain ⟨hbk, hc⟩ := HBK.out.app hl2 hgr hmv
                   obtain ⟨h12, h129⟩ := rowAt_chg H12.out H129.out hc (by decide)
                   obtain ⟨hb9, h9⟩ := BoxO.chg HB.out H9.out hc (by decide)
                   replace H12 := Lib.hid h12
                   replace H129 := Lib.hid h129
                   replace HB := Lib.hid hb9
                   replace H9 := Lib.hid h9
                   replace HU := Lib.hid (HU.out.keep hc (by decide))
                   replace HO := Lib.hid (HO.out.keep hc (by decide))
                   replace HBK := Lib.hid (show Bk _ 2 wk v2 (⟨t.most, t.last + 1, t.bs ++ [⟨t.last + 1, x.v, x.l, P⟩]⟩ : Tb).bs from hbk)
                   clear hbk hc hb9 h9 h12 h129 hl2 hgr hmv HBN
                   generalize give o wj 2 = o at *
                   obtain ⟨c0, -, c2, -⟩ := HB.out.cells
                   go_wp2_with fail
                   go_meet
                   exact ⟨o, (⟨t.most, t.last + 1, t.bs ++ [⟨t.last + 1, x.v, x.l, P⟩]⟩ : Tb), HO.out, HBK.out, rfl, HB.out, H12.out, HU.out, by show t.last + 1 ≤ _; omega, HMO.out⟩
       have e1k : (x.kd == 1) = false := by simpa using h1
       by_cases h4 : x.kd = 4
       · have e4k : (x.kd == 4) = true := by simpa using h4
         clear h1 h4
         as_aux_lemma =>
           obtain ⟨va, vc, hv, -⟩ := HBK.out.1.sl
           subst hv
           obtain ⟨m, hm⟩ : ∃ z, z = t.bs.length := ⟨_, rfl⟩
           have HM := Lib.hid hm
           have hm32 : m ≤ 32 := by have := HWT.out.le; omega
           rw [← hm] at HBK ⊢
           clear hm
           obtain ⟨io, hio⟩ : ∃ z, z = idxP (isN x.n) t.bs := ⟨_, rfl⟩
           have HIO := Lib.hid hio
           clear hio
           go_wp2_with fail
           go_loopw [18, 19] (fun at_ i wr => ∃ j : Nat, i = .int .i64 (j : Int) ∧ j ≤ m ∧ at_ = .int .i64 (atK io j) ∧ KB.Ow o 1 wr g t ∧ Bk o 2 wr (.slice va m vc) t.bs ∧ BoxO wr g11 x ∧ rowAt wr g12 = some (csA x.v z16) ∧ Out o W wr) (fun _ i _ => m - (intOf i).toNat)
           case atStart => exact ⟨0, rfl, Nat.zero_le _, by rcases io with _ | i <;> rfl, HO.out, HBK.out, HB.out, H12.out, HU.out⟩
           case round =>
             clear HO HBK HB H12 HU c0 c2
             obtain ⟨j, rfl, hj, rfl, ho, hbk, hbo, h12, hu⟩ := hrel
             have HO := Lib.hid ho
             have HBK := Lib.hid hbk
             have HB := Lib.hid hbo
             have H12 := Lib.hid h12
             have HU := Lib.hid hu
             clear ho hbk hbo h12 hu
             by_cases hjm : j < m
             · have j1 : decide (j < m) = true := by simp; omega
               have j0' : (j : Int) < (m : Int) := by omega
               obtain ⟨y, hy, hym⟩ := get_of (show j < t.bs.length by rw [← HM.out]; omega)
               obtain ⟨la, lc, hla2, hat⟩ := HBK.out.1.shape HWT.out.okd
               obtain ⟨b, hb, hrg⟩ := hat j y hy
               simp only [Value.slice.injEq] at hla2
               obtain ⟨rfl, -, -⟩ := hla2
               subst hb
               have HRG := Lib.hid hrg
               have HRK := Lib.hid (rank HWT.out (n := x.n) hy)
               clear hrg hat hy hym
               by_cases hyn : y.n = x.n
               · have eyn : (y.n == x.n) = true := by simpa using hyn
                 have HAK : Hid (atK io (j + 1) = (j : Int)) := by
                   show _ = _
                   rw [HIO.out, (HRK.out).1 hyn]
                   simp [atK]
                 clear hyn hjm
                 go_wp2_with fail
                 refine wp_region_held_drew (S := (fun w' => w'.rangeAt b (j * 19) (listD y) ∧ BoxO w' g11 x)) (by kernel_rfl) ⟨by exact HRG.out, by exact HB.out⟩ (fun hHeld => ?_)
                 have haw := (Away.refl [] wr).drew
                 replace HO := Lib.hid (HO.out.on haw)
                 replace HBK := Lib.hid (HBK.out.on haw)
                 replace HB := Lib.hid (HB.out.on haw (by simp))
                 replace H12 := Lib.hid (rowAt_away H12.out haw (by simp))
                 replace HU := Lib.hid (HU.out.on haw)
                 clear haw HRG
                 refine wpAnyH_take (i := 0) (v := ?_) (by simp only [List.getElem?_toArray, List.getElem?_cons_zero]; rfl) (by kernel_rfl) (by kernel_rfl) (by kernel_rfl) (by exact fun _ _ _ h => h) (Or.inl ⟨by rfl, ?_⟩) (by assumption) ?_
                 rotate_left
                 · intro wq hSw
                   (try dsimp only at hSw)
                   go_simp
                   all_goals (with_reducible rfl)
                 try simp only [Act.put, List.setIfInBounds_toArray, List.set_cons_zero, List.set_cons_succ]
                 refine wpAnyH_take (i := 1) (v := ?_) (by simp only [List.getElem?_toArray, List.getElem?_cons_succ, List.getElem?_cons_zero]; rfl) (by kernel_rfl) (by kernel_rfl) (by kernel_rfl) (by exact fun _ _ _ h => h) (Or.inl ⟨by rfl, ?_⟩) (by assumption) ?_
                 rotate_left
                 · intro wq hSw
                   (try dsimp only at hSw)
                   go_simp
                   all_goals (with_reducible rfl)
                 try simp only [Act.put, List.setIfInBounds_toArray, List.set_cons_zero, List.set_cons_succ]
                 refine wpAnyH_take (i := 2) (by simp only [List.getElem?_toArray, List.getElem?_cons_succ, List.getElem?_cons_zero]; rfl) (by kernel_rfl) (by kernel_rfl) (by kernel_rfl) (by exact fun _ _ _ h => h) (KO.yields_ixE (by rfl) _ _ rfl b m vc j rfl rfl (by omega)) (by assumption) ?_
                 try simp only [Act.put, List.setIfInBounds_toArray, List.set_cons_zero, List.set_cons_succ]
                 refine wpAnyH_take (i := 3) (v := ?_) (by simp only [List.getElem?_toArray, List.getElem?_cons_succ, List.getElem?_cons_zero]; rfl) (by kernel_rfl) (by kernel_rfl) (by kernel_rfl) (by exact fun _ _ _ h => h) (Or.inl ⟨by rfl, ?_⟩) (by assumption) ?_
                 rotate_left
                 · intro wq hSw
                   (try dsimp only at hSw)
                   go_simp
                   all_goals (with_reducible rfl)
                 try simp only [Act.put, List.setIfInBounds_toArray, List.set_cons_zero, List.set_cons_succ]
                 refine wpAnyH_take (i := 4) (by simp only [List.getElem?_toArray, List.getElem?_cons_succ, List.getElem?_cons_zero]; rfl) (by kernel_rfl) (by kernel_rfl) (by kernel_rfl) (by exact fun _ _ _ h => h) (yields_ld (ad := ⟨b, j * 19, none⟩) (by rfl) _ rfl rfl (fun w' h => ld3 (range_n h.1))) (by assumption) ?_
                 try simp only [Act.put, List.setIfInBounds_toArray, List.set_cons_zero, List.set_cons_succ]
                 refine wpAnyH_take (i := 5) (v := ?_) (by simp only [List.getElem?_toArray, List.getElem?_cons_succ, List.getElem?_cons_zero]; rfl) (by kernel_rfl) (by kernel_rfl) (by kernel_rfl) (by exact fun _ _ _ h => h) (Or.inl ⟨by rfl, ?_⟩) (by assumption) ?_
                 rotate_left
                 · intro wq hSw
                   (try dsimp only at hSw)
                   go_simp
                   all_goals (with_reducible rfl)
                 try simp only [Act.put, List.setIfInBounds_toArray, List.set_cons_zero, List.set_cons_succ]
                 refine wpAnyH_take (i := 6) (by simp only [List.getElem?_toArray, List.getElem?_cons_succ, List.getElem?_cons_zero]; rfl) (by kernel_rfl) (by kernel_rfl) (by kernel_rfl) (by exact fun _ _ _ h => h) (yields_ld (ad := ⟨g11, 2, none⟩) (by rfl) _ rfl rfl (fun w' h => ld3 h.2.cells.2.2.1)) (by assumption) ?_
                 try simp only [Act.put, List.setIfInBounds_toArray, List.set_cons_zero, List.set_cons_succ]
                 refine wpAnyH_take (i := 7) (v := ?_) (by simp only [List.getElem?_toArray, List.getElem?_cons_succ, List.getElem?_cons_zero]; rfl) (by kernel_rfl) (by kernel_rfl) (by kernel_rfl) (by exact fun _ _ _ h => h) (Or.inl ⟨by rfl, ?_⟩) (by assumption) ?_
                 rotate_left
                 · intro wq hSw
                   (try dsimp only at hSw)
                   go_simp
                   all_goals (with_reducible rfl)
                 try simp only [Act.put, List.setIfInBounds_toArray, List.set_cons_zero, List.set_cons_succ]
                 clear hHeld
                 refine wpAnyH_done (by kernel_rfl) ?_ _
                 go_wp2_with fail
                 go_roundw
                 case rel => exact ⟨j + 1, by go_num, by omega, by rw [HAK.out], HO.out, HBK.out, HB.out, H12.out, HU.out⟩
                 case measure => simp [intOf]; omega
               · have eyn : (y.n == x.n) = false := by simpa using hyn
                 have HAK : Hid (atK io (j + 1) = atK io j) := by
                   show _ = _
                   have hne : io ≠ some j := by rw [HIO.out]; intro hc; exact hyn ((HRK.out).2 hc)
                   rcases io with _ | i
                   · rfl
                   · unfold atK
                     have : i ≠ j := fun hc => hne (by rw [hc])
                     simp only
                     split <;> split <;> omega
                 clear hyn hjm
                 go_wp2_with fail
                 refine wp_region_held_drew (S := (fun w' => w'.rangeAt b (j * 19) (listD y) ∧ BoxO w' g11 x)) (by kernel_rfl) ⟨by exact HRG.out, by exact HB.out⟩ (fun hHeld => ?_)
                 have haw := (Away.refl [] wr).drew
                 replace HO := Lib.hid (HO.out.on haw)
                 replace HBK := Lib.hid (HBK.out.on haw)
                 replace HB := Lib.hid (HB.out.on haw (by simp))
                 replace H12 := Lib.hid (rowAt_away H12.out haw (by simp))
                 replace HU := Lib.hid (HU.out.on haw)
                 clear haw HRG
                 refine wpAnyH_take (i := 0) (v := ?_) (by simp only [List.getElem?_toArray, List.getElem?_cons_zero]; rfl) (by kernel_rfl) (by kernel_rfl) (by kernel_rfl) (by exact fun _ _ _ h => h) (Or.inl ⟨by rfl, ?_⟩) (by assumption) ?_
                 rotate_left
                 · intro wq hSw
                   (try dsimp only at hSw)
                   go_simp
                   all_goals (with_reducible rfl)
                 try simp only [Act.put, List.setIfInBounds_toArray, List.set_cons_zero, List.set_cons_succ]
                 refine wpAnyH_take (i := 1) (v := ?_) (by simp only [List.getElem?_toArray, List.getElem?_cons_succ, List.getElem?_cons_zero]; rfl) (by kernel_rfl) (by kernel_rfl) (by kernel_rfl) (by exact fun _ _ _ h => h) (Or.inl ⟨by rfl, ?_⟩) (by assumption) ?_
                 rotate_left
                 · intro wq hSw
                   (try dsimp only at hSw)
                   go_simp
                   all_goals (with_reducible rfl)
                 try simp only [Act.put, List.setIfInBounds_toArray, List.set_cons_zero, List.set_cons_succ]
                 refine wpAnyH_take (i := 2) (by simp only [List.getElem?_toArray, List.getElem?_cons_succ, List.getElem?_cons_zero]; rfl) (by kernel_rfl) (by kernel_rfl) (by kernel_rfl) (by exact fun _ _ _ h => h) (KO.yields_ixE (by rfl) _ _ rfl b m vc j rfl rfl (by omega)) (by assumption) ?_
                 try simp only [Act.put, List.setIfInBounds_toArray, List.set_cons_zero, List.set_cons_succ]
                 refine wpAnyH_take (i := 3) (v := ?_) (by simp only [List.getElem?_toArray, List.getElem?_cons_succ, List.getElem?_cons_zero]; rfl) (by kernel_rfl) (by kernel_rfl) (by kernel_rfl) (by exact fun _ _ _ h => h) (Or.inl ⟨by rfl, ?_⟩) (by assumption) ?_
                 rotate_left
                 · intro wq hSw
                   (try dsimp only at hSw)
                   go_simp
                   all_goals (with_reducible rfl)
                 try simp only [Act.put, List.setIfInBounds_toArray, List.set_cons_zero, List.set_cons_succ]
                 refine wpAnyH_take (i := 4) (by simp only [List.getElem?_toArray, List.getElem?_cons_succ, List.getElem?_cons_zero]; rfl) (by kernel_rfl) (by kernel_rfl) (by kernel_rfl) (by exact fun _ _ _ h => h) (yields_ld (ad := ⟨b, j * 19, none⟩) (by rfl) _ rfl rfl (fun w' h => ld3 (range_n h.1))) (by assumption) ?_
                 try simp only [Act.put, List.setIfInBounds_toArray, List.set_cons_zero, List.set_cons_succ]
                 refine wpAnyH_take (i := 5) (v := ?_) (by simp only [List.getElem?_toArray, List.getElem?_cons_succ, List.getElem?_cons_zero]; rfl) (by kernel_rfl) (by kernel_rfl) (by kernel_rfl) (by exact fun _ _ _ h => h) (Or.inl ⟨by rfl, ?_⟩) (by assumption) ?_
                 rotate_left
                 · intro wq hSw
                   (try dsimp only at hSw)
                   go_simp
                   all_goals (with_reducible rfl)
                 try simp only [Act.put, List.setIfInBounds_toArray, List.set_cons_zero, List.set_cons_succ]
                 refine wpAnyH_take (i := 6) (by simp only [List.getElem?_toArray, List.getElem?_cons_succ, List.getElem?_cons_zero]; rfl) (by kernel_rfl) (by kernel_rfl) (by kernel_rfl) (by exact fun _ _ _ h => h) (yields_ld (ad := ⟨g11, 2, none⟩) (by rfl) _ rfl rfl (fun w' h => ld3 h.2.cells.2.2.1)) (by assumption) ?_
                 try simp only [Act.put, List.setIfInBounds_toArray, List.set_cons_zero, List.set_cons_succ]
                 refine wpAnyH_take (i := 7) (v := ?_) (by simp only [List.getElem?_toArray, List.getElem?_cons_succ, List.getElem?_cons_zero]; rfl) (by kernel_rfl) (by kernel_rfl) (by kernel_rfl) (by exact fun _ _ _ h => h) (Or.inl ⟨by rfl, ?_⟩) (by assumption) ?_
                 rotate_left
                 · intro wq hSw
                   (try dsimp only at hSw)
                   go_simp
                   all_goals (with_reducible rfl)
                 try simp only [Act.put, List.setIfInBounds_toArray, List.set_cons_zero, List.set_cons_succ]
                 clear hHeld
                 refine wpAnyH_done (by kernel_rfl) ?_ _
                 go_wp2_with fail
                 go_roundw
                 case rel => exact ⟨j + 1, by go_num, by omega, by rw [HAK.out], HO.out, HBK.out, HB.out, H12.out, HU.out⟩
                 case measure => simp [intOf]; omega
             have j1 : decide (j < m) = false := by simp; omega
             have hjm2 : m = j := by omega
             subst hjm2
             clear hjm
             obtain ⟨c0, -, c2, -⟩ := HB.out.cells
             rcases io with _ | i
             · have HCE : Hid (closeP t x.n = (1, t)) := by show _ = _; unfold closeP; rw [← HIO.out]
               simp only [atK]
               go_wp2_with fail
               refine (close_o HO.out x.n).mono ?_
               rintro E w8 ⟨rfl, ho, hc⟩
               obtain ⟨h12, h129⟩ := rowAt_chg H12.out H129.out hc (by decide)
               obtain ⟨hb9, h9⟩ := BoxO.chg HB.out H9.out hc (by decide)
               replace H12 := Lib.hid h12
               replace H129 := Lib.hid h129
               replace HB := Lib.hid hb9
               replace H9 := Lib.hid h9
               replace HU := Lib.hid (HU.out.keep hc (by decide))
               replace HBK := Lib.hid (HBK.out.keep hc (by decide))
               rw [HCE.out] at ho ⊢
               replace HO := Lib.hid ho
               clear ho hc h12 h129 hb9 h9 c0 c2
               generalize give o wr 1 = o at *
               obtain ⟨c0, -, c2, -⟩ := HB.out.cells
               have HWN := HWT
               go_wp2_with fail
               go_meet
               exact ⟨o, t, HO.out, HBK.out, rfl, HB.out, H12.out, HU.out, by omega, HMO.out⟩
             have hi : i < m := by rw [HM.out]; exact idx_lt HIO.out.symm
             have HCE : Hid (closeP t x.n = (0, ⟨t.most, t.last, t.bs.eraseIdx i⟩)) := by show _ = _; unfold closeP; rw [← HIO.out]
             have hak : atK (some i) m = (i : Int) := by simp [atK, hi]
             rw [hak]
             have eat : decide ((0 : Int) ≤ (i : Int)) = true := by simp
             clear hak
             go_wp2_with fail
             refine (close_o HO.out x.n).mono ?_
             rintro E w8 ⟨rfl, ho, hc⟩
             obtain ⟨h12, h129⟩ := rowAt_chg H12.out H129.out hc (by decide)
             obtain ⟨hb9, h9⟩ := BoxO.chg HB.out H9.out hc (by decide)
             replace H12 := Lib.hid h12
             replace H129 := Lib.hid h129
             replace HB := Lib.hid hb9
             replace H9 := Lib.hid h9
             replace HU := Lib.hid (HU.out.keep hc (by decide))
             replace HBK := Lib.hid (HBK.out.keep hc (by decide))
             rw [HCE.out] at ho ⊢
             replace HO := Lib.hid ho
             clear ho hc h12 h129 hb9 h9 c0 c2
             generalize give o wr 1 = o at *
             have HWN := Lib.hid HO.out.wf
             obtain ⟨y, hy, hym⟩ := get_of (show i < t.bs.length by rw [← HM.out]; omega)
             obtain ⟨la, lc, hla2, hat⟩ := HBK.out.1.shape HWT.out.okd
             obtain ⟨b, hb, -⟩ := hat i y hy
             simp only [Value.slice.injEq] at hla2
             obtain ⟨rfl, -, -⟩ := hla2
             subst hb
             have hmc : m ≤ vc := by
               have h1 := HBK.out.1
               rw [HM.out] at h1
               obtain ⟨_, _, _, h2, _⟩ := h1.blk
               rw [HM.out]; exact h2
             obtain ⟨mm, hmm⟩ : ∃ z, m = i + 1 + z := ⟨m - (i + 1), by omega⟩
             obtain ⟨D, hD⟩ : ∃ D, D = KO.fromA b vc (i + 1) := ⟨_, rfl⟩
             have HD := Lib.hid hD
             have hs1 := fun wx => KO.slice_h (some ⟨b, 0, none⟩) m vc i (i : Int) rfl (by omega) wx
             have hs2 := fun wx => KO.slice_l (some ⟨b, 0, none⟩) D m vc (i + 1) ((i : Int) + 1) (by rw [hD, KO.fromA_eq]) (by omega) (by omega) wx
             rw [show m - (i + 1) = mm from by omega] at hs2
             have HS1 := Lib.hid hs1
             have HS2 := Lib.hid hs2
             have HMM := Lib.hid hmm
             have hiw : IntKind.i64.wrap ((i : Int) + 1) = (i : Int) + 1 := by rw [IntKind.wrap_i64]; omega
             clear hat hy hym hD hs1 hs2 hmm
             go_wp2_with fail
             refine wp_region_held_drew (S := (fun _ => True)) (by kernel_rfl) trivial (fun hHeld => ?_)
             have haw := (Away.refl [] w8).drew
             replace HO := Lib.hid (HO.out.on haw)
             replace HBK := Lib.hid (HBK.out.on haw)
             replace HB := Lib.hid (HB.out.on haw (by simp))
             replace H12 := Lib.hid (rowAt_away H12.out haw (by simp))
             replace HU := Lib.hid (HU.out.on haw)
             clear haw
             generalize w8.drew = w8 at *
             refine wpAnyH_take (i := 0) (v := ?_) (by simp only [List.getElem?_toArray, List.getElem?_cons_zero]; rfl) (by kernel_rfl) (by kernel_rfl) (by kernel_rfl) (by exact fun _ _ _ h => h) (Or.inl ⟨by rfl, ?_⟩) (by assumption) ?_
             rotate_left
             · intro wq hSw
               (try dsimp only at hSw)
               go_simp
               all_goals (with_reducible rfl)
             try simp only [Act.put, List.setIfInBounds_toArray, List.set_cons_zero, List.set_cons_succ]
             refine wpAnyH_take (i := 1) (v := ?_) (by simp only [List.getElem?_toArray, List.getElem?_cons_succ, List.getElem?_cons_zero]; rfl) (by kernel_rfl) (by kernel_rfl) (by kernel_rfl) (by exact fun _ _ _ h => h) (Or.inl ⟨by rfl, ?_⟩) (by assumption) ?_
             rotate_left
             · intro wq hSw
               (try dsimp only at hSw)
               go_simp
               all_goals (with_reducible rfl)
             try simp only [Act.put, List.setIfInBounds_toArray, List.set_cons_zero, List.set_cons_succ]
             refine wpAnyH_take (i := 2) (by simp only [List.getElem?_toArray, List.getElem?_cons_succ, List.getElem?_cons_zero]; rfl) (by kernel_rfl) (by kernel_rfl) (by kernel_rfl) (by exact fun _ _ _ h => h) (yields_slice (by rfl) _ _ _ rfl (by intro wx; exact HS1.out wx)) (by assumption) ?_
             try simp only [Act.put, List.setIfInBounds_toArray, List.set_cons_zero, List.set_cons_succ]
             refine wpAnyH_take (i := 3) (v := ?_) (by simp only [List.getElem?_toArray, List.getElem?_cons_succ, List.getElem?_cons_zero]; rfl) (by kernel_rfl) (by kernel_rfl) (by kernel_rfl) (by exact fun _ _ _ h => h) (Or.inl ⟨by rfl, ?_⟩) (by assumption) ?_
             rotate_left
             · intro wq hSw
               (try dsimp only at hSw)
               go_simp
               all_goals (with_reducible rfl)
             try simp only [Act.put, List.setIfInBounds_toArray, List.set_cons_zero, List.set_cons_succ]
             refine wpAnyH_take (i := 4) (v := ?_) (by simp only [List.getElem?_toArray, List.getElem?_cons_succ, List.getElem?_cons_zero]; rfl) (by kernel_rfl) (by kernel_rfl) (by kernel_rfl) (by exact fun _ _ _ h => h) (Or.inl ⟨by rfl, ?_⟩) (by assumption) ?_
             rotate_left
             · intro wq hSw
               (try dsimp only at hSw)
               go_simp
               all_goals (with_reducible rfl)
             try simp only [Act.put, List.setIfInBounds_toArray, List.set_cons_zero, List.set_cons_succ]
             refine wpAnyH_take (i := 5) (v := ?_) (by simp only [List.getElem?_toArray, List.getElem?_cons_succ, List.getElem?_cons_zero]; rfl) (by kernel_rfl) (by kernel_rfl) (by kernel_rfl) (by exact fun _ _ _ h => h) (Or.inl ⟨by rfl, ?_⟩) (by assumption) ?_
             rotate_left
             · intro wq hSw
               (try dsimp only at hSw)
               go_simp
               all_goals (with_reducible rfl)
             try simp only [Act.put, List.setIfInBounds_toArray, List.set_cons_zero, List.set_cons_succ]
             refine wpAnyH_take (i := 6) (by simp only [List.getElem?_toArray, List.getElem?_cons_succ, List.getElem?_cons_zero]; rfl) (by kernel_rfl) (by kernel_rfl) (by kernel_rfl) (by exact fun _ _ _ h => h) (yields_slice (by rfl) _ _ _ rfl (by intro wx; exact HS2.out wx)) (by assumption) ?_
             try simp only [Act.put, List.setIfInBounds_toArray, List.set_cons_zero, List.set_cons_succ]
             refine wpAnyH_ready (rs := [7]) (by kernel_rfl) (by simp) ?_
             refine AllReadyH.cons (by simp only [List.getElem?_toArray, List.getElem?_cons_succ, List.getElem?_cons_zero]; rfl) (fun K hK => ?_) AllReadyH.nil
             refine KO.step_del rfl _ _ rfl b vc i mm m t.bs HBK.out.1 HM.out HWT.out.okd (by have := HMM.out; omega) _ HD.out _ rfl rfl (fun w9 hl9 haw => ?_)
             have hc : Chg o 2 _ w9 := Chg.of haw (fun s hs => by simp at hs; subst hs; exact HBK.out.2 s rfl)
             obtain ⟨h12, h129⟩ := rowAt_chg H12.out H129.out hc (by decide)
             obtain ⟨hb9, h9⟩ := BoxO.chg HB.out H9.out hc (by decide)
             replace H12 := Lib.hid h12
             replace H129 := Lib.hid h129
             replace HB := Lib.hid hb9
             replace H9 := Lib.hid h9
             replace HU := Lib.hid (HU.out.keep hc (by decide))
             replace HO := Lib.hid (HO.out.keep hc (by decide))
             replace HBK := Lib.hid (show Bk (give o w8 2) 2 w9 (.slice (some ⟨b, 0, none⟩) (i + mm) vc) (t.bs.eraseIdx i) from ⟨hl9, fun s hs => by rw [give_old (HBK.out.1.lt s hs)]; exact HBK.out.2 s hs⟩)
             clear hc hl9 haw hb9 h9 h12 h129 hHeld
             generalize give o w8 2 = o at *
             refine hK.out _ _ trivial (fun hHeld => ?_)
             clear hK K
             try simp only [Act.put, List.setIfInBounds_toArray, List.set_cons_zero, List.set_cons_succ]
             refine wpAnyH_take (i := 8) (v := ?_) (by simp only [List.getElem?_toArray, List.getElem?_cons_succ, List.getElem?_cons_zero]; rfl) (by kernel_rfl) (by kernel_rfl) (by kernel_rfl) (by exact fun _ _ _ h => h) (Or.inl ⟨by rfl, ?_⟩) (by assumption) ?_
             rotate_left
             · intro wq hSw
               (try dsimp only at hSw)
               go_simp
               all_goals (with_reducible rfl)
             try simp only [Act.put, List.setIfInBounds_toArray, List.set_cons_zero, List.set_cons_succ]
             clear hHeld
             refine wpAnyH_done (by kernel_rfl) ?_ _
             obtain ⟨c0, -, c2, -⟩ := HB.out.cells
             go_wp2_with fail
             go_meet
             exact ⟨o, (⟨t.most, t.last, t.bs.eraseIdx i⟩ : Tb), HO.out, HBK.out, rfl, HB.out, H12.out, HU.out, by show t.last ≤ _; omega, HMO.out⟩
       have e4k : (x.kd == 4) = false := by simpa using h4
       clear h1 h4
       go_wp2_with fail
       go_meet
       exact ⟨o, t, HO.out, HBK.out, rfl, HB.out, H12.out, HU.out, by omega, HMO.out⟩
      case rest =>
      clear HO HBK HB H12 HU H9 H129 c0 c2 HMO HWT hla hl0
      obtain ⟨o, t, ho, hbk, rfl, hbo, h12, hu, hla, hmo⟩ := hcut
      have HO := Lib.hid ho
      have HWN := Lib.hid ho.wf
      have HBK := Lib.hid hbk
      have HB := Lib.hid hbo
      have H12 := Lib.hid h12
      have HU := Lib.hid hu
      have HMO := Lib.hid hmo
      clear ho hbk hbo h12 hu hmo
      obtain ⟨c0, -, c2, -⟩ := HB.out.cells
      as_aux_lemma =>
        obtain ⟨jw, hjw⟩ : ∃ z, z = justP (t).bs x.v x.l x.n := ⟨_, rfl⟩
        have HJW := Lib.hid hjw
        clear hjw
        go_wp2_with (refine wpList_load32m rfl _ rfl g11 3 rfl x.v x.l HX.out.2.2.2.2.1 HB.out.cells.2.2.2 ?_)
        refine (ljust_o HBK.out HWN.out x.v x.l HX.out.2.2.2.2.1 x.n).mono ?_
        rintro E wa ⟨rfl, haw⟩
        replace HO := Lib.hid (HO.out.on haw)
        replace HBK := Lib.hid (HBK.out.on haw)
        replace HB := Lib.hid (HB.out.on haw (by simp))
        replace H12 := Lib.hid (rowAt_away H12.out haw (by simp))
        replace HU := Lib.hid (HU.out.on haw)
        clear haw c0 c2
        obtain ⟨c0, -, c2, -⟩ := HB.out.cells
        rw [← HJW.out]
        by_cases hj0 : jw = 0
        · have HFE : Hid (findP (t).bs x.v x.l x.n = justP (t).bs x.v z16 x.n) := by show _ = _; unfold findP; rw [← HJW.out, if_pos hj0]
          have ej : (jw == 0) = true := by simpa using hj0
          clear hj0
          go_wp2_with (refine wpList_load24 rfl _ rfl g12 rfl _ H12.out ?_)
          refine (ljust_o HBK.out HWN.out x.v z16 rfl x.n).mono ?_
          rintro E wb ⟨rfl, haw⟩
          replace HO := Lib.hid (HO.out.on haw)
          replace HBK := Lib.hid (HBK.out.on haw)
          replace HB := Lib.hid (HB.out.on haw (by simp))
          replace H12 := Lib.hid (rowAt_away H12.out haw (by simp))
          replace HU := Lib.hid (HU.out.on haw)
          clear haw c0 c2
          obtain ⟨c0, -, c2, -⟩ := HB.out.cells
          go_wp2_with (refine wpList_load32m rfl _ rfl g11 3 rfl x.v x.l HX.out.2.2.2.2.1 HB.out.cells.2.2.2 ?_)
          refine (find_o HO.out x.v x.l HX.out.2.2.2.2.1 x.n).mono ?_
          rintro E wc ⟨rfl, haw⟩
          rw [HFE.out]
          replace HO := Lib.hid (HO.out.on haw)
          replace HBK := Lib.hid (HBK.out.on haw)
          replace HB := Lib.hid (HB.out.on haw (by simp))
          replace H12 := Lib.hid (rowAt_away H12.out haw (by simp))
          replace HU := Lib.hid (HU.out.on haw)
          clear haw c0 c2
          go_wp2_with fail
          refine (all_o HO.out 8).mono ?_
          rintro E wd ⟨rl, rfl, hli, haw⟩
          obtain ⟨ra, rc, rfl, -, -⟩ := hli.1.sl
          obtain ⟨va2, vc2, hv2, -⟩ := HBK.out.1.sl
          replace HO := Lib.hid (HO.out.on haw)
          replace HBK := Lib.hid (HBK.out.on haw)
          replace HB := Lib.hid (HB.out.on haw (by simp))
          replace H12 := Lib.hid (rowAt_away H12.out haw (by simp))
          replace HU := Lib.hid (HU.out.on haw)
          clear haw hli
          try subst hv2
          rw [List.length_map]
          go_wp2_with fail
          go_roundw
          case rel => exact ⟨k + 1, o, t, by go_num, by omega, HO.out, HBK.out, rfl, HU.out, by omega, HMO.out⟩
          case measure => simp [intOf]; omega
        have HFE : Hid (findP (t).bs x.v x.l x.n = jw) := by show _ = _; unfold findP; rw [← HJW.out, if_neg hj0]
        have ej : (jw == 0) = false := by simpa using hj0
        clear hj0
        go_wp2_with (refine wpList_load32m rfl _ rfl g11 3 rfl x.v x.l HX.out.2.2.2.2.1 HB.out.cells.2.2.2 ?_)
        refine (find_o HO.out x.v x.l HX.out.2.2.2.2.1 x.n).mono ?_
        rintro E wc ⟨rfl, haw⟩
        rw [HFE.out]
        replace HO := Lib.hid (HO.out.on haw)
        replace HBK := Lib.hid (HBK.out.on haw)
        replace HB := Lib.hid (HB.out.on haw (by simp))
        replace H12 := Lib.hid (rowAt_away H12.out haw (by simp))
        replace HU := Lib.hid (HU.out.on haw)
        clear haw c0 c2
        go_wp2_with fail
        refine (all_o HO.out 8).mono ?_
        rintro E wd ⟨rl, rfl, hli, haw⟩
        obtain ⟨ra, rc, rfl, -, -⟩ := hli.1.sl
        obtain ⟨va2, vc2, hv2, -⟩ := HBK.out.1.sl
        replace HO := Lib.hid (HO.out.on haw)
        replace HBK := Lib.hid (HBK.out.on haw)
        replace HB := Lib.hid (HB.out.on haw (by simp))
        replace H12 := Lib.hid (rowAt_away H12.out haw (by simp))
        replace HU := Lib.hid (HU.out.on haw)
        clear haw hli
        try subst hv2
        rw [List.length_map]
        go_wp2_with fail
        go_roundw
        case rel => exact ⟨k + 1, o, t, by go_num, by omega, HO.out, HBK.out, rfl, HU.out, by omega, HMO.out⟩
        case measure => simp [intOf]; omega
    have j1 : decide (k < n) = false := by simp; omega
    clear hkn
    go_wp2_with fail
    refine (all_o HO.out 8).mono ?_
    rintro E wz ⟨rl, rfl, hli, haw⟩
    replace HO := Lib.hid (HO.out.on haw)
    replace HBK := Lib.hid (HBK.out.on haw)
    replace HU := Lib.hid (HU.out.on haw)
    have HLI := Lib.hid hli.1
    obtain ⟨ra, lc, rfl, -, -⟩ := hli.1.sl
    obtain ⟨va, vc, hv, -⟩ := HBK.out.1.sl
    subst hv
    clear hli haw
    obtain ⟨m, hm⟩ : ∃ z, z = t.bs.length := ⟨_, rfl⟩
    rw [List.length_map, ← hm] at HLI ⊢
    rw [← hm] at HBK
    have hm32 : m ≤ 32 := by have := HWT.out.le; omega
    have HM := Lib.hid hm
    clear hm
    go_wp2_with fail
    go_loopw [22] (fun i wr => ∃ k : Nat, i = .int .i64 (k : Int) ∧ k ≤ m ∧ Away [] wz wr) (fun i _ => m - (intOf i).toNat)
    case atStart => exact ⟨0, rfl, Nat.zero_le _, Away.refl _ _⟩
    case round =>
      obtain ⟨k, rfl, hk, hz⟩ := hrel
      have HZ := Lib.hid hz
      clear hz
      by_cases hkn : k < m
      · as_aux_lemma =>
          have j1 : decide (k < m) = true := by simp; omega
          have j0 : (k : Int) < (m : Int) := by omega
          have j2 : 0 ≤ (k : Int) := by omega
          have j3 : ((k : Int)).toNat = k := by omega
          obtain ⟨y, hy, hym⟩ := get_of (show k < t.bs.length by rw [← HM.out]; omega)
          rcases k with _ | k
          · have HY := Lib.hid hy
            have HYO := Lib.hid (HWT.out.okd y hym)
            have HAT := Lib.hid (at_num HWT.out hy)
            obtain ⟨la, lc0, hla2, hat⟩ := (HBK.out.1.on HZ.out).shape HWT.out.okd
            obtain ⟨b, hb, hrg⟩ := hat (0) y hy
            simp only [Value.slice.injEq] at hla2
            obtain ⟨rfl, -, -⟩ := hla2
            subst hb
            obtain ⟨ll, lc1, hll, -, hcl⟩ := (HLI.out.on HZ.out).sl
            simp only [Value.slice.injEq] at hll
            obtain ⟨rfl, -, -⟩ := hll
            obtain ⟨gl, hgl, hcell⟩ := hcl (0) y.n (by simp [hy])
            subst hgl
            have HRG := Lib.hid hrg
            have HCL := Lib.hid hcell
            have cb := range_n hrg
            have hbl := block_lt_of_cell cb
            have hgll := block_lt_of_cell hcell
            have KAT : Hid (Calls Try.prog 17 #[.pointer (some ⟨g, 0, none⟩), .int .i64 y.n] wr fun E w' => E = .returned (.tuple #[.agg (csA y.v y.l), .int .i64 y.p, .int .i64 0]) ∧ Away [] wr w') := by
              have := at_o (HO.out.on HZ.out) y.n
              rw [HAT.out] at this
              exact this
            clear hat hrg hcl hcell hy hym
            go_wp2_with fail
            refine KAT.out.mono ?_
            rintro E w2 ⟨rfl, haw⟩
            replace HZ := Lib.hid (HZ.out.trans haw)
            replace HRG := Lib.hid (range_away haw (by simp) HRG.out)
            replace HCL := Lib.hid (haw.cell (by simp) HCL.out)
            have hsz := haw.size
            clear haw cb KAT
            go_wp2_with (refine wpList_alloc32 rfl rfl ?_; refine Hid.out ?_)
            refine Lib.hid ?_
            intro g23 w3 hg23 hr23 haw
            have hz0 := HZ.out.size
            replace HZ := Lib.hid (HZ.out.trans haw)
            replace HRG := Lib.hid (range_away haw (by simp) HRG.out)
            replace HCL := Lib.hid (haw.cell (by simp) HCL.out)
            have HR23 := Lib.hid hr23
            clear haw hr23
            go_wp2_with (refine wpList_store32 rfl _ _ rfl g23 rfl y.v y.l HYO.out rfl _ HR23.out ?_; refine Hid.out ?_)
            refine Lib.hid ?_
            intro w4 hr4 haw
            replace HZ := Lib.hid (HZ.out.next haw (fun x hx => .inr (by simp at hx; subst hx; omega)))
            replace HRG := Lib.hid (range_away haw (by simp; omega) HRG.out)
            replace HCL := Lib.hid (haw.cell (by simp; omega) HCL.out)
            replace HR23 := Lib.hid hr4
            clear haw hr4 hsz hbl hgll hg23 hz0
            have hqe := fun w => eq32 y.v y.v y.l y.l HYO.out HYO.out w
            have hqb : (decide (y.v = y.v) && eqL y.l y.l) = true := by simp [eqL]
            rw [hqb] at hqe
            have hgd := guard24
            clear hqb
            go_wp2_with fail
            refine wp_region_held_drew (S := (fun w' => rowAt w' g23 = some (csA y.v y.l) ∧ w'.rangeAt b ((0) * 19) (listD y) ∧ w'.cell? ⟨gl, 0, none⟩ = some (.int .i64 y.n))) (by kernel_rfl) ⟨by exact HR23.out, by exact HRG.out, by exact HCL.out⟩ (fun hHeld => ?_)
            replace HZ := Lib.hid (HZ.out.drew)
            refine wpAnyH_take (i := 0) (v := ?_) (by simp only [List.getElem?_toArray, List.getElem?_cons_zero]; rfl) (by kernel_rfl) (by kernel_rfl) (by kernel_rfl) (by exact fun _ _ _ h => h) (Or.inl ⟨by rfl, ?_⟩) (by assumption) ?_
            rotate_left
            · intro wq hSw
              (try dsimp only at hSw)
              go_simp
              all_goals (with_reducible rfl)
            try simp only [Act.put, List.setIfInBounds_toArray, List.set_cons_zero, List.set_cons_succ]
            refine wpAnyH_take (i := 1) (v := ?_) (by simp only [List.getElem?_toArray, List.getElem?_cons_succ, List.getElem?_cons_zero]; rfl) (by kernel_rfl) (by kernel_rfl) (by kernel_rfl) (by exact fun _ _ _ h => h) (Or.inl ⟨by rfl, ?_⟩) (by assumption) ?_
            rotate_left
            · intro wq hSw
              (try dsimp only at hSw)
              go_simp
              all_goals (with_reducible rfl)
            try simp only [Act.put, List.setIfInBounds_toArray, List.set_cons_zero, List.set_cons_succ]
            refine wpAnyH_take (i := 2) (v := ?_) (by simp only [List.getElem?_toArray, List.getElem?_cons_succ, List.getElem?_cons_zero]; rfl) (by kernel_rfl) (by kernel_rfl) (by kernel_rfl) (by exact fun _ _ _ h => h) (Or.inl ⟨by rfl, ?_⟩) (by assumption) ?_
            rotate_left
            · intro wq hSw
              (try dsimp only at hSw)
              go_simp
              all_goals (with_reducible rfl)
            try simp only [Act.put, List.setIfInBounds_toArray, List.set_cons_zero, List.set_cons_succ]
            refine wpAnyH_take (i := 3) (by simp only [List.getElem?_toArray, List.getElem?_cons_succ, List.getElem?_cons_zero]; rfl) (by kernel_rfl) (by kernel_rfl) (by kernel_rfl) (by exact fun _ _ _ h => h) (yields_ld (ad := ⟨g23, 0, none⟩) (by rfl) _ rfl rfl (fun w' h => loadR_run h.1)) (by assumption) ?_
            try simp only [Act.put, List.setIfInBounds_toArray, List.set_cons_zero, List.set_cons_succ]
            refine wpAnyH_take (i := 4) (v := ?_) (by simp only [List.getElem?_toArray, List.getElem?_cons_succ, List.getElem?_cons_zero]; rfl) (by kernel_rfl) (by kernel_rfl) (by kernel_rfl) (by exact fun _ _ _ h => h) (Or.inl ⟨by rfl, ?_⟩) (by assumption) ?_
            rotate_left
            · intro wq hSw
              (try dsimp only at hSw)
              go_simp
              all_goals (with_reducible rfl)
            try simp only [Act.put, List.setIfInBounds_toArray, List.set_cons_zero, List.set_cons_succ]
            refine wpAnyH_take (i := 5) (v := ?_) (by simp only [List.getElem?_toArray, List.getElem?_cons_succ, List.getElem?_cons_zero]; rfl) (by kernel_rfl) (by kernel_rfl) (by kernel_rfl) (by exact fun _ _ _ h => h) (Or.inl ⟨by rfl, ?_⟩) (by assumption) ?_
            rotate_left
            · intro wq hSw
              (try dsimp only at hSw)
              go_simp
              all_goals (with_reducible rfl)
            try simp only [Act.put, List.setIfInBounds_toArray, List.set_cons_zero, List.set_cons_succ]
            refine wpAnyH_take (i := 6) (by simp only [List.getElem?_toArray, List.getElem?_cons_succ, List.getElem?_cons_zero]; rfl) (by kernel_rfl) (by kernel_rfl) (by kernel_rfl) (by exact fun _ _ _ h => h) (KO.yields_ixE (by rfl) _ _ rfl b m vc (0) rfl rfl (by omega)) (by assumption) ?_
            try simp only [Act.put, List.setIfInBounds_toArray, List.set_cons_zero, List.set_cons_succ]
            refine wpAnyH_take (i := 7) (v := ?_) (by simp only [List.getElem?_toArray, List.getElem?_cons_succ, List.getElem?_cons_zero]; rfl) (by kernel_rfl) (by kernel_rfl) (by kernel_rfl) (by exact fun _ _ _ h => h) (Or.inl ⟨by rfl, ?_⟩) (by assumption) ?_
            rotate_left
            · intro wq hSw
              (try dsimp only at hSw)
              go_simp
              all_goals (with_reducible rfl)
            try simp only [Act.put, List.setIfInBounds_toArray, List.set_cons_zero, List.set_cons_succ]
            refine wpAnyH_take (i := 8) (by simp only [List.getElem?_toArray, List.getElem?_cons_succ, List.getElem?_cons_zero]; rfl) (by kernel_rfl) (by kernel_rfl) (by kernel_rfl) (by exact fun _ _ _ h => h) (yields_ld (ad := ⟨b, (0) * 19 + 1, none⟩) (by rfl) _ rfl rfl (fun w' h => load32m_run (range_a h.2.1 HYO.out) HYO.out)) (by assumption) ?_
            try simp only [Act.put, List.setIfInBounds_toArray, List.set_cons_zero, List.set_cons_succ]
            refine wpAnyH_take (i := 9) (v := ?_) (by simp only [List.getElem?_toArray, List.getElem?_cons_succ, List.getElem?_cons_zero]; rfl) (by kernel_rfl) (by kernel_rfl) (by kernel_rfl) (by exact fun _ _ _ h => h) (Or.inl ⟨by rfl, ?_⟩) (by assumption) ?_
            rotate_left
            · intro wq hSw
              (try dsimp only at hSw)
              go_simp
              all_goals (with_reducible rfl)
            try simp only [Act.put, List.setIfInBounds_toArray, List.set_cons_zero, List.set_cons_succ]
            refine wpAnyH_take (i := 10) (v := ?_) (by simp only [List.getElem?_toArray, List.getElem?_cons_succ, List.getElem?_cons_zero]; rfl) (by kernel_rfl) (by kernel_rfl) (by kernel_rfl) (by exact fun _ _ _ h => h) (Or.inl ⟨by rfl, ?_⟩) (by assumption) ?_
            rotate_left
            · intro wq hSw
              (try dsimp only at hSw)
              go_simp
              all_goals (with_reducible rfl)
            try simp only [Act.put, List.setIfInBounds_toArray, List.set_cons_zero, List.set_cons_succ]
            refine wpAnyH_take (i := 11) (v := ?_) (by simp only [List.getElem?_toArray, List.getElem?_cons_succ, List.getElem?_cons_zero]; rfl) (by kernel_rfl) (by kernel_rfl) (by kernel_rfl) (by exact fun _ _ _ h => h) (Or.inl ⟨by rfl, ?_⟩) (by assumption) ?_
            rotate_left
            · intro wq hSw
              (try dsimp only at hSw)
              go_simp
              all_goals (with_reducible rfl)
            try simp only [Act.put, List.setIfInBounds_toArray, List.set_cons_zero, List.set_cons_succ]
            refine wpAnyH_take (i := 12) (v := ?_) (by simp only [List.getElem?_toArray, List.getElem?_cons_succ, List.getElem?_cons_zero]; rfl) (by kernel_rfl) (by kernel_rfl) (by kernel_rfl) (by exact fun _ _ _ h => h) (Or.inl ⟨by rfl, ?_⟩) (by assumption) ?_
            rotate_left
            · intro wq hSw
              (try dsimp only at hSw)
              go_simp
              all_goals (with_reducible rfl)
            try simp only [Act.put, List.setIfInBounds_toArray, List.set_cons_zero, List.set_cons_succ]
            refine wpAnyH_take (i := 13) (v := ?_) (by simp only [List.getElem?_toArray, List.getElem?_cons_succ, List.getElem?_cons_zero]; rfl) (by kernel_rfl) (by kernel_rfl) (by kernel_rfl) (by exact fun _ _ _ h => h) (Or.inl ⟨by rfl, ?_⟩) (by assumption) ?_
            rotate_left
            · intro wq hSw
              (try dsimp only at hSw)
              go_simp
              all_goals (with_reducible rfl)
            try simp only [Act.put, List.setIfInBounds_toArray, List.set_cons_zero, List.set_cons_succ]
            refine wpAnyH_take (i := 14) (v := ?_) (by simp only [List.getElem?_toArray, List.getElem?_cons_succ, List.getElem?_cons_zero]; rfl) (by kernel_rfl) (by kernel_rfl) (by kernel_rfl) (by exact fun _ _ _ h => h) (Or.inl ⟨by rfl, ?_⟩) (by assumption) ?_
            rotate_left
            · intro wq hSw
              (try dsimp only at hSw)
              go_simp
              all_goals (with_reducible rfl)
            try simp only [Act.put, List.setIfInBounds_toArray, List.set_cons_zero, List.set_cons_succ]
            refine wpAnyH_take (i := 15) (by simp only [List.getElem?_toArray, List.getElem?_cons_succ, List.getElem?_cons_zero]; rfl) (by kernel_rfl) (by kernel_rfl) (by kernel_rfl) (by exact fun _ _ _ h => h) (KO.yields_ixE (by rfl) _ _ rfl b m vc (0) rfl rfl (by omega)) (by assumption) ?_
            try simp only [Act.put, List.setIfInBounds_toArray, List.set_cons_zero, List.set_cons_succ]
            refine wpAnyH_take (i := 16) (v := ?_) (by simp only [List.getElem?_toArray, List.getElem?_cons_succ, List.getElem?_cons_zero]; rfl) (by kernel_rfl) (by kernel_rfl) (by kernel_rfl) (by exact fun _ _ _ h => h) (Or.inl ⟨by rfl, ?_⟩) (by assumption) ?_
            rotate_left
            · intro wq hSw
              (try dsimp only at hSw)
              go_simp
              all_goals (with_reducible rfl)
            try simp only [Act.put, List.setIfInBounds_toArray, List.set_cons_zero, List.set_cons_succ]
            refine wpAnyH_take (i := 17) (by simp only [List.getElem?_toArray, List.getElem?_cons_succ, List.getElem?_cons_zero]; rfl) (by kernel_rfl) (by kernel_rfl) (by kernel_rfl) (by exact fun _ _ _ h => h) (yields_ld (ad := ⟨b, (0) * 19 + 18, none⟩) (by rfl) _ rfl rfl (fun w' h => ld3 (range_p h.2.1 HYO.out))) (by assumption) ?_
            try simp only [Act.put, List.setIfInBounds_toArray, List.set_cons_zero, List.set_cons_succ]
            refine wpAnyH_take (i := 18) (v := ?_) (by simp only [List.getElem?_toArray, List.getElem?_cons_succ, List.getElem?_cons_zero]; rfl) (by kernel_rfl) (by kernel_rfl) (by kernel_rfl) (by exact fun _ _ _ h => h) (Or.inl ⟨by rfl, ?_⟩) (by assumption) ?_
            rotate_left
            · intro wq hSw
              (try dsimp only at hSw)
              go_simp
              all_goals (with_reducible rfl)
            try simp only [Act.put, List.setIfInBounds_toArray, List.set_cons_zero, List.set_cons_succ]
            refine wpAnyH_take (i := 19) (v := ?_) (by simp only [List.getElem?_toArray, List.getElem?_cons_succ, List.getElem?_cons_zero]; rfl) (by kernel_rfl) (by kernel_rfl) (by kernel_rfl) (by exact fun _ _ _ h => h) (Or.inl ⟨by rfl, ?_⟩) (by assumption) ?_
            rotate_left
            · intro wq hSw
              (try dsimp only at hSw)
              go_simp
              all_goals (with_reducible rfl)
            try simp only [Act.put, List.setIfInBounds_toArray, List.set_cons_zero, List.set_cons_succ]
            refine wpAnyH_take (i := 20) (v := ?_) (by simp only [List.getElem?_toArray, List.getElem?_cons_succ, List.getElem?_cons_zero]; rfl) (by kernel_rfl) (by kernel_rfl) (by kernel_rfl) (by exact fun _ _ _ h => h) (Or.inl ⟨by rfl, ?_⟩) (by assumption) ?_
            rotate_left
            · intro wq hSw
              (try dsimp only at hSw)
              go_simp
              all_goals (with_reducible rfl)
            try simp only [Act.put, List.setIfInBounds_toArray, List.set_cons_zero, List.set_cons_succ]
            refine wpAnyH_take (i := 21) (v := ?_) (by simp only [List.getElem?_toArray, List.getElem?_cons_succ, List.getElem?_cons_zero]; rfl) (by kernel_rfl) (by kernel_rfl) (by kernel_rfl) (by exact fun _ _ _ h => h) (Or.inl ⟨by rfl, ?_⟩) (by assumption) ?_
            rotate_left
            · intro wq hSw
              (try dsimp only at hSw)
              go_simp
              all_goals (with_reducible rfl)
            try simp only [Act.put, List.setIfInBounds_toArray, List.set_cons_zero, List.set_cons_succ]
            refine wpAnyH_take (i := 22) (v := ?_) (by simp only [List.getElem?_toArray, List.getElem?_cons_succ, List.getElem?_cons_zero]; rfl) (by kernel_rfl) (by kernel_rfl) (by kernel_rfl) (by exact fun _ _ _ h => h) (Or.inl ⟨by rfl, ?_⟩) (by assumption) ?_
            rotate_left
            · intro wq hSw
              (try dsimp only at hSw)
              go_simp
              all_goals (with_reducible rfl)
            try simp only [Act.put, List.setIfInBounds_toArray, List.set_cons_zero, List.set_cons_succ]
            refine wpAnyH_take (i := 23) (by simp only [List.getElem?_toArray, List.getElem?_cons_succ, List.getElem?_cons_zero]; rfl) (by kernel_rfl) (by kernel_rfl) (by kernel_rfl) (by exact fun _ _ _ h => h) (yields_ixI (by rfl) _ _ rfl gl m lc (0) rfl rfl (by omega)) (by assumption) ?_
            try simp only [Act.put, List.setIfInBounds_toArray, List.set_cons_zero, List.set_cons_succ]
            refine wpAnyH_take (i := 24) (by simp only [List.getElem?_toArray, List.getElem?_cons_succ, List.getElem?_cons_zero]; rfl) (by kernel_rfl) (by kernel_rfl) (by kernel_rfl) (by exact fun _ _ _ h => h) (yields_ld (ad := ⟨gl, 0, none⟩) (by rfl) _ rfl rfl (fun w' h => ld3 h.2.2)) (by assumption) ?_
            try simp only [Act.put, List.setIfInBounds_toArray, List.set_cons_zero, List.set_cons_succ]
            refine wpAnyH_take (i := 25) (v := ?_) (by simp only [List.getElem?_toArray, List.getElem?_cons_succ, List.getElem?_cons_zero]; rfl) (by kernel_rfl) (by kernel_rfl) (by kernel_rfl) (by exact fun _ _ _ h => h) (Or.inl ⟨by rfl, ?_⟩) (by assumption) ?_
            rotate_left
            · intro wq hSw
              (try dsimp only at hSw)
              go_simp
              all_goals (with_reducible rfl)
            try simp only [Act.put, List.setIfInBounds_toArray, List.set_cons_zero, List.set_cons_succ]
            refine wpAnyH_take (i := 26) (v := ?_) (by simp only [List.getElem?_toArray, List.getElem?_cons_succ, List.getElem?_cons_zero]; rfl) (by kernel_rfl) (by kernel_rfl) (by kernel_rfl) (by exact fun _ _ _ h => h) (Or.inl ⟨by rfl, ?_⟩) (by assumption) ?_
            rotate_left
            · intro wq hSw
              (try dsimp only at hSw)
              go_simp
              all_goals (with_reducible rfl)
            try simp only [Act.put, List.setIfInBounds_toArray, List.set_cons_zero, List.set_cons_succ]
            refine wpAnyH_take (i := 27) (by simp only [List.getElem?_toArray, List.getElem?_cons_succ, List.getElem?_cons_zero]; rfl) (by kernel_rfl) (by kernel_rfl) (by kernel_rfl) (by exact fun _ _ _ h => h) (KO.yields_ixE (by rfl) _ _ rfl b m vc (0) rfl rfl (by omega)) (by assumption) ?_
            try simp only [Act.put, List.setIfInBounds_toArray, List.set_cons_zero, List.set_cons_succ]
            refine wpAnyH_take (i := 28) (v := ?_) (by simp only [List.getElem?_toArray, List.getElem?_cons_succ, List.getElem?_cons_zero]; rfl) (by kernel_rfl) (by kernel_rfl) (by kernel_rfl) (by exact fun _ _ _ h => h) (Or.inl ⟨by rfl, ?_⟩) (by assumption) ?_
            rotate_left
            · intro wq hSw
              (try dsimp only at hSw)
              go_simp
              all_goals (with_reducible rfl)
            try simp only [Act.put, List.setIfInBounds_toArray, List.set_cons_zero, List.set_cons_succ]
            refine wpAnyH_take (i := 29) (by simp only [List.getElem?_toArray, List.getElem?_cons_succ, List.getElem?_cons_zero]; rfl) (by kernel_rfl) (by kernel_rfl) (by kernel_rfl) (by exact fun _ _ _ h => h) (yields_ld (ad := ⟨b, (0) * 19, none⟩) (by rfl) _ rfl rfl (fun w' h => ld3 (range_n h.2.1))) (by assumption) ?_
            try simp only [Act.put, List.setIfInBounds_toArray, List.set_cons_zero, List.set_cons_succ]
            refine wpAnyH_take (i := 30) (v := ?_) (by simp only [List.getElem?_toArray, List.getElem?_cons_succ, List.getElem?_cons_zero]; rfl) (by kernel_rfl) (by kernel_rfl) (by kernel_rfl) (by exact fun _ _ _ h => h) (Or.inl ⟨by rfl, ?_⟩) (by assumption) ?_
            rotate_left
            · intro wq hSw
              (try dsimp only at hSw)
              go_simp
              all_goals (with_reducible rfl)
            try simp only [Act.put, List.setIfInBounds_toArray, List.set_cons_zero, List.set_cons_succ]
            refine wpAnyH_take (i := 31) (v := ?_) (by simp only [List.getElem?_toArray, List.getElem?_cons_succ, List.getElem?_cons_zero]; rfl) (by kernel_rfl) (by kernel_rfl) (by kernel_rfl) (by exact fun _ _ _ h => h) (Or.inl ⟨by rfl, ?_⟩) (by assumption) ?_
            rotate_left
            · intro wq hSw
              (try dsimp only at hSw)
              go_simp
              all_goals (with_reducible rfl)
            try simp only [Act.put, List.setIfInBounds_toArray, List.set_cons_zero, List.set_cons_succ]
            refine wpAnyH_take (i := 32) (v := ?_) (by simp only [List.getElem?_toArray, List.getElem?_cons_succ, List.getElem?_cons_zero]; rfl) (by kernel_rfl) (by kernel_rfl) (by kernel_rfl) (by exact fun _ _ _ h => h) (Or.inl ⟨by rfl, ?_⟩) (by assumption) ?_
            rotate_left
            · intro wq hSw
              (try dsimp only at hSw)
              go_simp
              all_goals (with_reducible rfl)
            try simp only [Act.put, List.setIfInBounds_toArray, List.set_cons_zero, List.set_cons_succ]
            refine wpAnyH_take (i := 33) (v := ?_) (by simp only [List.getElem?_toArray, List.getElem?_cons_succ, List.getElem?_cons_zero]; rfl) (by kernel_rfl) (by kernel_rfl) (by kernel_rfl) (by exact fun _ _ _ h => h) (Or.inl ⟨by rfl, ?_⟩) (by assumption) ?_
            rotate_left
            · intro wq hSw
              (try dsimp only at hSw)
              go_simp
              all_goals (with_reducible rfl)
            try simp only [Act.put, List.setIfInBounds_toArray, List.set_cons_zero, List.set_cons_succ]
            refine wpAnyH_take (i := 34) (v := ?_) (by simp only [List.getElem?_toArray, List.getElem?_cons_succ, List.getElem?_cons_zero]; rfl) (by kernel_rfl) (by kernel_rfl) (by kernel_rfl) (by exact fun _ _ _ h => h) (Or.inl ⟨by rfl, ?_⟩) (by assumption) ?_
            rotate_left
            · intro wq hSw
              (try dsimp only at hSw)
              go_simp
              all_goals (with_reducible rfl)
            try simp only [Act.put, List.setIfInBounds_toArray, List.set_cons_zero, List.set_cons_succ]
            refine wpAnyH_take (i := 35) (v := ?_) (by simp only [List.getElem?_toArray, List.getElem?_cons_succ, List.getElem?_cons_zero]; rfl) (by kernel_rfl) (by kernel_rfl) (by kernel_rfl) (by exact fun _ _ _ h => h) (Or.inl ⟨by rfl, ?_⟩) (by assumption) ?_
            rotate_left
            · intro wq hSw
              (try dsimp only at hSw)
              go_simp
              all_goals (with_reducible rfl)
            try simp only [Act.put, List.setIfInBounds_toArray, List.set_cons_zero, List.set_cons_succ]
            refine wpAnyH_take (i := 36) (v := undef) (by simp only [List.getElem?_toArray, List.getElem?_cons_succ, List.getElem?_cons_zero]; rfl) (by kernel_rfl) (by kernel_rfl) (by kernel_rfl) (by exact fun _ _ _ h => h) (Or.inr ⟨by rfl, rfl⟩) (by assumption) ?_
            try simp only [Act.put, List.setIfInBounds_toArray, List.set_cons_zero, List.set_cons_succ]
            refine wpAnyH_take (i := 37) (v := undef) (by simp only [List.getElem?_toArray, List.getElem?_cons_succ, List.getElem?_cons_zero]; rfl) (by kernel_rfl) (by kernel_rfl) (by kernel_rfl) (by exact fun _ _ _ h => h) (Or.inr ⟨by rfl, rfl⟩) (by assumption) ?_
            try simp only [Act.put, List.setIfInBounds_toArray, List.set_cons_zero, List.set_cons_succ]
            refine wpAnyH_take (i := 38) (v := undef) (by simp only [List.getElem?_toArray, List.getElem?_cons_succ, List.getElem?_cons_zero]; rfl) (by kernel_rfl) (by kernel_rfl) (by kernel_rfl) (by exact fun _ _ _ h => h) (Or.inr ⟨by rfl, rfl⟩) (by assumption) ?_
            try simp only [Act.put, List.setIfInBounds_toArray, List.set_cons_zero, List.set_cons_succ]
            refine wpAnyH_take (i := 39) (v := undef) (by simp only [List.getElem?_toArray, List.getElem?_cons_succ, List.getElem?_cons_zero]; rfl) (by kernel_rfl) (by kernel_rfl) (by kernel_rfl) (by exact fun _ _ _ h => h) (Or.inr ⟨by rfl, rfl⟩) (by assumption) ?_
            try simp only [Act.put, List.setIfInBounds_toArray, List.set_cons_zero, List.set_cons_succ]
            refine wpAnyH_take (i := 40) (v := undef) (by simp only [List.getElem?_toArray, List.getElem?_cons_succ, List.getElem?_cons_zero]; rfl) (by kernel_rfl) (by kernel_rfl) (by kernel_rfl) (by exact fun _ _ _ h => h) (Or.inr ⟨by rfl, rfl⟩) (by assumption) ?_
            try simp only [Act.put, List.setIfInBounds_toArray, List.set_cons_zero, List.set_cons_succ]
            refine wpAnyH_take (i := 41) (v := undef) (by simp only [List.getElem?_toArray, List.getElem?_cons_succ, List.getElem?_cons_zero]; rfl) (by kernel_rfl) (by kernel_rfl) (by kernel_rfl) (by exact fun _ _ _ h => h) (Or.inr ⟨by rfl, rfl⟩) (by assumption) ?_
            try simp only [Act.put, List.setIfInBounds_toArray, List.set_cons_zero, List.set_cons_succ]
            refine wpAnyH_take (i := 42) (v := undef) (by simp only [List.getElem?_toArray, List.getElem?_cons_succ, List.getElem?_cons_zero]; rfl) (by kernel_rfl) (by kernel_rfl) (by kernel_rfl) (by exact fun _ _ _ h => h) (Or.inr ⟨by rfl, rfl⟩) (by assumption) ?_
            try simp only [Act.put, List.setIfInBounds_toArray, List.set_cons_zero, List.set_cons_succ]
            refine wpAnyH_take (i := 43) (v := undef) (by simp only [List.getElem?_toArray, List.getElem?_cons_succ, List.getElem?_cons_zero]; rfl) (by kernel_rfl) (by kernel_rfl) (by kernel_rfl) (by exact fun _ _ _ h => h) (Or.inr ⟨by rfl, rfl⟩) (by assumption) ?_
            try simp only [Act.put, List.setIfInBounds_toArray, List.set_cons_zero, List.set_cons_succ]
            refine wpAnyH_take (i := 44) (v := undef) (by simp only [List.getElem?_toArray, List.getElem?_cons_succ, List.getElem?_cons_zero]; rfl) (by kernel_rfl) (by kernel_rfl) (by kernel_rfl) (by exact fun _ _ _ h => h) (Or.inr ⟨by rfl, rfl⟩) (by assumption) ?_
            try simp only [Act.put, List.setIfInBounds_toArray, List.set_cons_zero, List.set_cons_succ]
            refine wpAnyH_take (i := 45) (v := undef) (by simp only [List.getElem?_toArray, List.getElem?_cons_succ, List.getElem?_cons_zero]; rfl) (by kernel_rfl) (by kernel_rfl) (by kernel_rfl) (by exact fun _ _ _ h => h) (Or.inr ⟨by rfl, rfl⟩) (by assumption) ?_
            try simp only [Act.put, List.setIfInBounds_toArray, List.set_cons_zero, List.set_cons_succ]
            refine wpAnyH_take (i := 46) (v := ?_) (by simp only [List.getElem?_toArray, List.getElem?_cons_succ, List.getElem?_cons_zero]; rfl) (by kernel_rfl) (by kernel_rfl) (by kernel_rfl) (by exact fun _ _ _ h => h) (Or.inl ⟨by rfl, ?_⟩) (by assumption) ?_
            rotate_left
            · intro wq hSw
              (try dsimp only at hSw)
              go_simp
              all_goals (with_reducible rfl)
            try simp only [Act.put, List.setIfInBounds_toArray, List.set_cons_zero, List.set_cons_succ]
            refine wpAnyH_take (i := 47) (v := ?_) (by simp only [List.getElem?_toArray, List.getElem?_cons_succ, List.getElem?_cons_zero]; rfl) (by kernel_rfl) (by kernel_rfl) (by kernel_rfl) (by exact fun _ _ _ h => h) (Or.inl ⟨by rfl, ?_⟩) (by assumption) ?_
            rotate_left
            · intro wq hSw
              (try dsimp only at hSw)
              go_simp
              all_goals (with_reducible rfl)
            try simp only [Act.put, List.setIfInBounds_toArray, List.set_cons_zero, List.set_cons_succ]
            clear hHeld
            refine wpAnyH_done (by kernel_rfl) ?_ _
            go_wp2_with fail
            go_roundw
            case rel => exact ⟨(0) + 1, by go_num, by omega, HZ.out⟩
            case measure => simp [intOf]; omega
          · obtain ⟨y0, hy0, -⟩ := get_of (show k < t.bs.length by rw [← HM.out]; omega)
            have hup := HWT.out.up k (k + 1) y0 y (by omega) hy0 hy
            have ele : decide (y.n ≤ y0.n) = false := by simp; omega
            have egt : decide ((0 : Int) < ((k + 1 : Nat) : Int)) = true := by first | (simp; omega) | simp
            have hw1 : IntKind.i64.wrap (k : Int) = (k : Int) := by rw [IntKind.wrap_i64]; omega
            clear hup hkn
            have HY := Lib.hid hy
            have HYO := Lib.hid (HWT.out.okd y hym)
            have HAT := Lib.hid (at_num HWT.out hy)
            obtain ⟨la, lc0, hla2, hat⟩ := (HBK.out.1.on HZ.out).shape HWT.out.okd
            obtain ⟨b, hb, hrg⟩ := hat (k + 1) y hy
            simp only [Value.slice.injEq] at hla2
            obtain ⟨rfl, -, -⟩ := hla2
            subst hb
            obtain ⟨ll, lc1, hll, -, hcl⟩ := (HLI.out.on HZ.out).sl
            simp only [Value.slice.injEq] at hll
            obtain ⟨rfl, -, -⟩ := hll
            obtain ⟨gl, hgl, hcell⟩ := hcl (k + 1) y.n (by simp [hy])
            subst hgl
            obtain ⟨gl', hgl', hcell0⟩ := hcl k y0.n (by simp [hy0])
            simp only [Option.some.injEq, Addr.mk.injEq, and_true] at hgl'
            subst hgl'
            have HC0 := Lib.hid hcell0
            have HRG := Lib.hid hrg
            have HCL := Lib.hid hcell
            have cb := range_n hrg
            have hbl := block_lt_of_cell cb
            have hgll := block_lt_of_cell hcell
            have KAT : Hid (Calls Try.prog 17 #[.pointer (some ⟨g, 0, none⟩), .int .i64 y.n] wr fun E w' => E = .returned (.tuple #[.agg (csA y.v y.l), .int .i64 y.p, .int .i64 0]) ∧ Away [] wr w') := by
              have := at_o (HO.out.on HZ.out) y.n
              rw [HAT.out] at this
              exact this
            clear hat hrg hcl hcell hy hym
            go_wp2_with fail
            refine KAT.out.mono ?_
            rintro E w2 ⟨rfl, haw⟩
            replace HZ := Lib.hid (HZ.out.trans haw)
            replace HRG := Lib.hid (range_away haw (by simp) HRG.out)
            replace HCL := Lib.hid (haw.cell (by simp) HCL.out)
            replace HC0 := Lib.hid (haw.cell (by simp) HC0.out)
            have hsz := haw.size
            clear haw cb KAT
            go_wp2_with (refine wpList_alloc32 rfl rfl ?_; refine Hid.out ?_)
            refine Lib.hid ?_
            intro g23 w3 hg23 hr23 haw
            have hz0 := HZ.out.size
            replace HZ := Lib.hid (HZ.out.trans haw)
            replace HRG := Lib.hid (range_away haw (by simp) HRG.out)
            replace HCL := Lib.hid (haw.cell (by simp) HCL.out)
            replace HC0 := Lib.hid (haw.cell (by simp) HC0.out)
            have HR23 := Lib.hid hr23
            clear haw hr23
            go_wp2_with (refine wpList_store32 rfl _ _ rfl g23 rfl y.v y.l HYO.out rfl _ HR23.out ?_; refine Hid.out ?_)
            refine Lib.hid ?_
            intro w4 hr4 haw
            replace HZ := Lib.hid (HZ.out.next haw (fun x hx => .inr (by simp at hx; subst hx; omega)))
            replace HRG := Lib.hid (range_away haw (by simp; omega) HRG.out)
            replace HCL := Lib.hid (haw.cell (by simp; omega) HCL.out)
            replace HC0 := Lib.hid (haw.cell (by simp; omega) HC0.out)
            replace HR23 := Lib.hid hr4
            clear haw hr4 hsz hbl hgll hg23 hz0
            have hqe := fun w => eq32 y.v y.v y.l y.l HYO.out HYO.out w
            have hqb : (decide (y.v = y.v) && eqL y.l y.l) = true := by simp [eqL]
            rw [hqb] at hqe
            have hgd := guard24
            clear hqb
            go_wp2_with fail
            refine wp_region_held_drew (S := (fun w' => rowAt w' g23 = some (csA y.v y.l) ∧ w'.rangeAt b ((k + 1) * 19) (listD y) ∧ w'.cell? ⟨gl, k + 1, none⟩ = some (.int .i64 y.n) ∧ w'.cell? ⟨gl, k, none⟩ = some (.int .i64 y0.n))) (by kernel_rfl) ⟨by exact HR23.out, by exact HRG.out, by exact HCL.out, by exact HC0.out⟩ (fun hHeld => ?_)
            replace HZ := Lib.hid (HZ.out.drew)
            refine wpAnyH_take (i := 0) (v := ?_) (by simp only [List.getElem?_toArray, List.getElem?_cons_zero]; rfl) (by kernel_rfl) (by kernel_rfl) (by kernel_rfl) (by exact fun _ _ _ h => h) (Or.inl ⟨by rfl, ?_⟩) (by assumption) ?_
            rotate_left
            · intro wq hSw
              (try dsimp only at hSw)
              go_simp
              all_goals (with_reducible rfl)
            try simp only [Act.put, List.setIfInBounds_toArray, List.set_cons_zero, List.set_cons_succ]
            refine wpAnyH_take (i := 1) (v := ?_) (by simp only [List.getElem?_toArray, List.getElem?_cons_succ, List.getElem?_cons_zero]; rfl) (by kernel_rfl) (by kernel_rfl) (by kernel_rfl) (by exact fun _ _ _ h => h) (Or.inl ⟨by rfl, ?_⟩) (by assumption) ?_
            rotate_left
            · intro wq hSw
              (try dsimp only at hSw)
              go_simp
              all_goals (with_reducible rfl)
            try simp only [Act.put, List.setIfInBounds_toArray, List.set_cons_zero, List.set_cons_succ]
            refine wpAnyH_take (i := 2) (v := ?_) (by simp only [List.getElem?_toArray, List.getElem?_cons_succ, List.getElem?_cons_zero]; rfl) (by kernel_rfl) (by kernel_rfl) (by kernel_rfl) (by exact fun _ _ _ h => h) (Or.inl ⟨by rfl, ?_⟩) (by assumption) ?_
            rotate_left
            · intro wq hSw
              (try dsimp only at hSw)
              go_simp
              all_goals (with_reducible rfl)
            try simp only [Act.put, List.setIfInBounds_toArray, List.set_cons_zero, List.set_cons_succ]
            refine wpAnyH_take (i := 3) (by simp only [List.getElem?_toArray, List.getElem?_cons_succ, List.getElem?_cons_zero]; rfl) (by kernel_rfl) (by kernel_rfl) (by kernel_rfl) (by exact fun _ _ _ h => h) (yields_ld (ad := ⟨g23, 0, none⟩) (by rfl) _ rfl rfl (fun w' h => loadR_run h.1)) (by assumption) ?_
            try simp only [Act.put, List.setIfInBounds_toArray, List.set_cons_zero, List.set_cons_succ]
            refine wpAnyH_take (i := 4) (v := ?_) (by simp only [List.getElem?_toArray, List.getElem?_cons_succ, List.getElem?_cons_zero]; rfl) (by kernel_rfl) (by kernel_rfl) (by kernel_rfl) (by exact fun _ _ _ h => h) (Or.inl ⟨by rfl, ?_⟩) (by assumption) ?_
            rotate_left
            · intro wq hSw
              (try dsimp only at hSw)
              go_simp
              all_goals (with_reducible rfl)
            try simp only [Act.put, List.setIfInBounds_toArray, List.set_cons_zero, List.set_cons_succ]
            refine wpAnyH_take (i := 5) (v := ?_) (by simp only [List.getElem?_toArray, List.getElem?_cons_succ, List.getElem?_cons_zero]; rfl) (by kernel_rfl) (by kernel_rfl) (by kernel_rfl) (by exact fun _ _ _ h => h) (Or.inl ⟨by rfl, ?_⟩) (by assumption) ?_
            rotate_left
            · intro wq hSw
              (try dsimp only at hSw)
              go_simp
              all_goals (with_reducible rfl)
            try simp only [Act.put, List.setIfInBounds_toArray, List.set_cons_zero, List.set_cons_succ]
            refine wpAnyH_take (i := 6) (by simp only [List.getElem?_toArray, List.getElem?_cons_succ, List.getElem?_cons_zero]; rfl) (by kernel_rfl) (by kernel_rfl) (by kernel_rfl) (by exact fun _ _ _ h => h) (KO.yields_ixE (by rfl) _ _ rfl b m vc (k + 1) rfl rfl (by omega)) (by assumption) ?_
            try simp only [Act.put, List.setIfInBounds_toArray, List.set_cons_zero, List.set_cons_succ]
            refine wpAnyH_take (i := 7) (v := ?_) (by simp only [List.getElem?_toArray, List.getElem?_cons_succ, List.getElem?_cons_zero]; rfl) (by kernel_rfl) (by kernel_rfl) (by kernel_rfl) (by exact fun _ _ _ h => h) (Or.inl ⟨by rfl, ?_⟩) (by assumption) ?_
            rotate_left
            · intro wq hSw
              (try dsimp only at hSw)
              go_simp
              all_goals (with_reducible rfl)
            try simp only [Act.put, List.setIfInBounds_toArray, List.set_cons_zero, List.set_cons_succ]
            refine wpAnyH_take (i := 8) (by simp only [List.getElem?_toArray, List.getElem?_cons_succ, List.getElem?_cons_zero]; rfl) (by kernel_rfl) (by kernel_rfl) (by kernel_rfl) (by exact fun _ _ _ h => h) (yields_ld (ad := ⟨b, (k + 1) * 19 + 1, none⟩) (by rfl) _ rfl rfl (fun w' h => load32m_run (range_a h.2.1 HYO.out) HYO.out)) (by assumption) ?_
            try simp only [Act.put, List.setIfInBounds_toArray, List.set_cons_zero, List.set_cons_succ]
            refine wpAnyH_take (i := 9) (v := ?_) (by simp only [List.getElem?_toArray, List.getElem?_cons_succ, List.getElem?_cons_zero]; rfl) (by kernel_rfl) (by kernel_rfl) (by kernel_rfl) (by exact fun _ _ _ h => h) (Or.inl ⟨by rfl, ?_⟩) (by assumption) ?_
            rotate_left
            · intro wq hSw
              (try dsimp only at hSw)
              go_simp
              all_goals (with_reducible rfl)
            try simp only [Act.put, List.setIfInBounds_toArray, List.set_cons_zero, List.set_cons_succ]
            refine wpAnyH_take (i := 10) (v := ?_) (by simp only [List.getElem?_toArray, List.getElem?_cons_succ, List.getElem?_cons_zero]; rfl) (by kernel_rfl) (by kernel_rfl) (by kernel_rfl) (by exact fun _ _ _ h => h) (Or.inl ⟨by rfl, ?_⟩) (by assumption) ?_
            rotate_left
            · intro wq hSw
              (try dsimp only at hSw)
              go_simp
              all_goals (with_reducible rfl)
            try simp only [Act.put, List.setIfInBounds_toArray, List.set_cons_zero, List.set_cons_succ]
            refine wpAnyH_take (i := 11) (v := ?_) (by simp only [List.getElem?_toArray, List.getElem?_cons_succ, List.getElem?_cons_zero]; rfl) (by kernel_rfl) (by kernel_rfl) (by kernel_rfl) (by exact fun _ _ _ h => h) (Or.inl ⟨by rfl, ?_⟩) (by assumption) ?_
            rotate_left
            · intro wq hSw
              (try dsimp only at hSw)
              go_simp
              all_goals (with_reducible rfl)
            try simp only [Act.put, List.setIfInBounds_toArray, List.set_cons_zero, List.set_cons_succ]
            refine wpAnyH_take (i := 12) (v := ?_) (by simp only [List.getElem?_toArray, List.getElem?_cons_succ, List.getElem?_cons_zero]; rfl) (by kernel_rfl) (by kernel_rfl) (by kernel_rfl) (by exact fun _ _ _ h => h) (Or.inl ⟨by rfl, ?_⟩) (by assumption) ?_
            rotate_left
            · intro wq hSw
              (try dsimp only at hSw)
              go_simp
              all_goals (with_reducible rfl)
            try simp only [Act.put, List.setIfInBounds_toArray, List.set_cons_zero, List.set_cons_succ]
            refine wpAnyH_take (i := 13) (v := ?_) (by simp only [List.getElem?_toArray, List.getElem?_cons_succ, List.getElem?_cons_zero]; rfl) (by kernel_rfl) (by kernel_rfl) (by kernel_rfl) (by exact fun _ _ _ h => h) (Or.inl ⟨by rfl, ?_⟩) (by assumption) ?_
            rotate_left
            · intro wq hSw
              (try dsimp only at hSw)
              go_simp
              all_goals (with_reducible rfl)
            try simp only [Act.put, List.setIfInBounds_toArray, List.set_cons_zero, List.set_cons_succ]
            refine wpAnyH_take (i := 14) (v := ?_) (by simp only [List.getElem?_toArray, List.getElem?_cons_succ, List.getElem?_cons_zero]; rfl) (by kernel_rfl) (by kernel_rfl) (by kernel_rfl) (by exact fun _ _ _ h => h) (Or.inl ⟨by rfl, ?_⟩) (by assumption) ?_
            rotate_left
            · intro wq hSw
              (try dsimp only at hSw)
              go_simp
              all_goals (with_reducible rfl)
            try simp only [Act.put, List.setIfInBounds_toArray, List.set_cons_zero, List.set_cons_succ]
            refine wpAnyH_take (i := 15) (by simp only [List.getElem?_toArray, List.getElem?_cons_succ, List.getElem?_cons_zero]; rfl) (by kernel_rfl) (by kernel_rfl) (by kernel_rfl) (by exact fun _ _ _ h => h) (KO.yields_ixE (by rfl) _ _ rfl b m vc (k + 1) rfl rfl (by omega)) (by assumption) ?_
            try simp only [Act.put, List.setIfInBounds_toArray, List.set_cons_zero, List.set_cons_succ]
            refine wpAnyH_take (i := 16) (v := ?_) (by simp only [List.getElem?_toArray, List.getElem?_cons_succ, List.getElem?_cons_zero]; rfl) (by kernel_rfl) (by kernel_rfl) (by kernel_rfl) (by exact fun _ _ _ h => h) (Or.inl ⟨by rfl, ?_⟩) (by assumption) ?_
            rotate_left
            · intro wq hSw
              (try dsimp only at hSw)
              go_simp
              all_goals (with_reducible rfl)
            try simp only [Act.put, List.setIfInBounds_toArray, List.set_cons_zero, List.set_cons_succ]
            refine wpAnyH_take (i := 17) (by simp only [List.getElem?_toArray, List.getElem?_cons_succ, List.getElem?_cons_zero]; rfl) (by kernel_rfl) (by kernel_rfl) (by kernel_rfl) (by exact fun _ _ _ h => h) (yields_ld (ad := ⟨b, (k + 1) * 19 + 18, none⟩) (by rfl) _ rfl rfl (fun w' h => ld3 (range_p h.2.1 HYO.out))) (by assumption) ?_
            try simp only [Act.put, List.setIfInBounds_toArray, List.set_cons_zero, List.set_cons_succ]
            refine wpAnyH_take (i := 18) (v := ?_) (by simp only [List.getElem?_toArray, List.getElem?_cons_succ, List.getElem?_cons_zero]; rfl) (by kernel_rfl) (by kernel_rfl) (by kernel_rfl) (by exact fun _ _ _ h => h) (Or.inl ⟨by rfl, ?_⟩) (by assumption) ?_
            rotate_left
            · intro wq hSw
              (try dsimp only at hSw)
              go_simp
              all_goals (with_reducible rfl)
            try simp only [Act.put, List.setIfInBounds_toArray, List.set_cons_zero, List.set_cons_succ]
            refine wpAnyH_take (i := 19) (v := ?_) (by simp only [List.getElem?_toArray, List.getElem?_cons_succ, List.getElem?_cons_zero]; rfl) (by kernel_rfl) (by kernel_rfl) (by kernel_rfl) (by exact fun _ _ _ h => h) (Or.inl ⟨by rfl, ?_⟩) (by assumption) ?_
            rotate_left
            · intro wq hSw
              (try dsimp only at hSw)
              go_simp
              all_goals (with_reducible rfl)
            try simp only [Act.put, List.setIfInBounds_toArray, List.set_cons_zero, List.set_cons_succ]
            refine wpAnyH_take (i := 20) (v := ?_) (by simp only [List.getElem?_toArray, List.getElem?_cons_succ, List.getElem?_cons_zero]; rfl) (by kernel_rfl) (by kernel_rfl) (by kernel_rfl) (by exact fun _ _ _ h => h) (Or.inl ⟨by rfl, ?_⟩) (by assumption) ?_
            rotate_left
            · intro wq hSw
              (try dsimp only at hSw)
              go_simp
              all_goals (with_reducible rfl)
            try simp only [Act.put, List.setIfInBounds_toArray, List.set_cons_zero, List.set_cons_succ]
            refine wpAnyH_take (i := 21) (v := ?_) (by simp only [List.getElem?_toArray, List.getElem?_cons_succ, List.getElem?_cons_zero]; rfl) (by kernel_rfl) (by kernel_rfl) (by kernel_rfl) (by exact fun _ _ _ h => h) (Or.inl ⟨by rfl, ?_⟩) (by assumption) ?_
            rotate_left
            · intro wq hSw
              (try dsimp only at hSw)
              go_simp
              all_goals (with_reducible rfl)
            try simp only [Act.put, List.setIfInBounds_toArray, List.set_cons_zero, List.set_cons_succ]
            refine wpAnyH_take (i := 22) (v := ?_) (by simp only [List.getElem?_toArray, List.getElem?_cons_succ, List.getElem?_cons_zero]; rfl) (by kernel_rfl) (by kernel_rfl) (by kernel_rfl) (by exact fun _ _ _ h => h) (Or.inl ⟨by rfl, ?_⟩) (by assumption) ?_
            rotate_left
            · intro wq hSw
              (try dsimp only at hSw)
              go_simp
              all_goals (with_reducible rfl)
            try simp only [Act.put, List.setIfInBounds_toArray, List.set_cons_zero, List.set_cons_succ]
            refine wpAnyH_take (i := 23) (by simp only [List.getElem?_toArray, List.getElem?_cons_succ, List.getElem?_cons_zero]; rfl) (by kernel_rfl) (by kernel_rfl) (by kernel_rfl) (by exact fun _ _ _ h => h) (yields_ixI (by rfl) _ _ rfl gl m lc (k + 1) rfl rfl (by omega)) (by assumption) ?_
            try simp only [Act.put, List.setIfInBounds_toArray, List.set_cons_zero, List.set_cons_succ]
            refine wpAnyH_take (i := 24) (by simp only [List.getElem?_toArray, List.getElem?_cons_succ, List.getElem?_cons_zero]; rfl) (by kernel_rfl) (by kernel_rfl) (by kernel_rfl) (by exact fun _ _ _ h => h) (yields_ld (ad := ⟨gl, k + 1, none⟩) (by rfl) _ rfl rfl (fun w' h => ld3 h.2.2.1)) (by assumption) ?_
            try simp only [Act.put, List.setIfInBounds_toArray, List.set_cons_zero, List.set_cons_succ]
            refine wpAnyH_take (i := 25) (v := ?_) (by simp only [List.getElem?_toArray, List.getElem?_cons_succ, List.getElem?_cons_zero]; rfl) (by kernel_rfl) (by kernel_rfl) (by kernel_rfl) (by exact fun _ _ _ h => h) (Or.inl ⟨by rfl, ?_⟩) (by assumption) ?_
            rotate_left
            · intro wq hSw
              (try dsimp only at hSw)
              go_simp
              all_goals (with_reducible rfl)
            try simp only [Act.put, List.setIfInBounds_toArray, List.set_cons_zero, List.set_cons_succ]
            refine wpAnyH_take (i := 26) (v := ?_) (by simp only [List.getElem?_toArray, List.getElem?_cons_succ, List.getElem?_cons_zero]; rfl) (by kernel_rfl) (by kernel_rfl) (by kernel_rfl) (by exact fun _ _ _ h => h) (Or.inl ⟨by rfl, ?_⟩) (by assumption) ?_
            rotate_left
            · intro wq hSw
              (try dsimp only at hSw)
              go_simp
              all_goals (with_reducible rfl)
            try simp only [Act.put, List.setIfInBounds_toArray, List.set_cons_zero, List.set_cons_succ]
            refine wpAnyH_take (i := 27) (by simp only [List.getElem?_toArray, List.getElem?_cons_succ, List.getElem?_cons_zero]; rfl) (by kernel_rfl) (by kernel_rfl) (by kernel_rfl) (by exact fun _ _ _ h => h) (KO.yields_ixE (by rfl) _ _ rfl b m vc (k + 1) rfl rfl (by omega)) (by assumption) ?_
            try simp only [Act.put, List.setIfInBounds_toArray, List.set_cons_zero, List.set_cons_succ]
            refine wpAnyH_take (i := 28) (v := ?_) (by simp only [List.getElem?_toArray, List.getElem?_cons_succ, List.getElem?_cons_zero]; rfl) (by kernel_rfl) (by kernel_rfl) (by kernel_rfl) (by exact fun _ _ _ h => h) (Or.inl ⟨by rfl, ?_⟩) (by assumption) ?_
            rotate_left
            · intro wq hSw
              (try dsimp only at hSw)
              go_simp
              all_goals (with_reducible rfl)
            try simp only [Act.put, List.setIfInBounds_toArray, List.set_cons_zero, List.set_cons_succ]
            refine wpAnyH_take (i := 29) (by simp only [List.getElem?_toArray, List.getElem?_cons_succ, List.getElem?_cons_zero]; rfl) (by kernel_rfl) (by kernel_rfl) (by kernel_rfl) (by exact fun _ _ _ h => h) (yields_ld (ad := ⟨b, (k + 1) * 19, none⟩) (by rfl) _ rfl rfl (fun w' h => ld3 (range_n h.2.1))) (by assumption) ?_
            try simp only [Act.put, List.setIfInBounds_toArray, List.set_cons_zero, List.set_cons_succ]
            refine wpAnyH_take (i := 30) (v := ?_) (by simp only [List.getElem?_toArray, List.getElem?_cons_succ, List.getElem?_cons_zero]; rfl) (by kernel_rfl) (by kernel_rfl) (by kernel_rfl) (by exact fun _ _ _ h => h) (Or.inl ⟨by rfl, ?_⟩) (by assumption) ?_
            rotate_left
            · intro wq hSw
              (try dsimp only at hSw)
              go_simp
              all_goals (with_reducible rfl)
            try simp only [Act.put, List.setIfInBounds_toArray, List.set_cons_zero, List.set_cons_succ]
            refine wpAnyH_take (i := 31) (v := ?_) (by simp only [List.getElem?_toArray, List.getElem?_cons_succ, List.getElem?_cons_zero]; rfl) (by kernel_rfl) (by kernel_rfl) (by kernel_rfl) (by exact fun _ _ _ h => h) (Or.inl ⟨by rfl, ?_⟩) (by assumption) ?_
            rotate_left
            · intro wq hSw
              (try dsimp only at hSw)
              go_simp
              all_goals (with_reducible rfl)
            try simp only [Act.put, List.setIfInBounds_toArray, List.set_cons_zero, List.set_cons_succ]
            refine wpAnyH_take (i := 32) (v := ?_) (by simp only [List.getElem?_toArray, List.getElem?_cons_succ, List.getElem?_cons_zero]; rfl) (by kernel_rfl) (by kernel_rfl) (by kernel_rfl) (by exact fun _ _ _ h => h) (Or.inl ⟨by rfl, ?_⟩) (by assumption) ?_
            rotate_left
            · intro wq hSw
              (try dsimp only at hSw)
              go_simp
              all_goals (with_reducible rfl)
            try simp only [Act.put, List.setIfInBounds_toArray, List.set_cons_zero, List.set_cons_succ]
            refine wpAnyH_take (i := 33) (v := ?_) (by simp only [List.getElem?_toArray, List.getElem?_cons_succ, List.getElem?_cons_zero]; rfl) (by kernel_rfl) (by kernel_rfl) (by kernel_rfl) (by exact fun _ _ _ h => h) (Or.inl ⟨by rfl, ?_⟩) (by assumption) ?_
            rotate_left
            · intro wq hSw
              (try dsimp only at hSw)
              go_simp
              all_goals (with_reducible rfl)
            try simp only [Act.put, List.setIfInBounds_toArray, List.set_cons_zero, List.set_cons_succ]
            refine wpAnyH_take (i := 34) (v := ?_) (by simp only [List.getElem?_toArray, List.getElem?_cons_succ, List.getElem?_cons_zero]; rfl) (by kernel_rfl) (by kernel_rfl) (by kernel_rfl) (by exact fun _ _ _ h => h) (Or.inl ⟨by rfl, ?_⟩) (by assumption) ?_
            rotate_left
            · intro wq hSw
              (try dsimp only at hSw)
              go_simp
              all_goals (with_reducible rfl)
            try simp only [Act.put, List.setIfInBounds_toArray, List.set_cons_zero, List.set_cons_succ]
            refine wpAnyH_take (i := 35) (v := ?_) (by simp only [List.getElem?_toArray, List.getElem?_cons_succ, List.getElem?_cons_zero]; rfl) (by kernel_rfl) (by kernel_rfl) (by kernel_rfl) (by exact fun _ _ _ h => h) (Or.inl ⟨by rfl, ?_⟩) (by assumption) ?_
            rotate_left
            · intro wq hSw
              (try dsimp only at hSw)
              go_simp
              all_goals (with_reducible rfl)
            try simp only [Act.put, List.setIfInBounds_toArray, List.set_cons_zero, List.set_cons_succ]
            refine wpAnyH_take (i := 36) (v := ?_) (by simp only [List.getElem?_toArray, List.getElem?_cons_succ, List.getElem?_cons_zero]; rfl) (by kernel_rfl) (by kernel_rfl) (by kernel_rfl) (by exact fun _ _ _ h => h) (Or.inl ⟨by rfl, ?_⟩) (by assumption) ?_
            rotate_left
            · intro wq hSw
              (try dsimp only at hSw)
              go_simp
              all_goals (with_reducible rfl)
            try simp only [Act.put, List.setIfInBounds_toArray, List.set_cons_zero, List.set_cons_succ]
            refine wpAnyH_take (i := 37) (v := ?_) (by simp only [List.getElem?_toArray, List.getElem?_cons_succ, List.getElem?_cons_zero]; rfl) (by kernel_rfl) (by kernel_rfl) (by kernel_rfl) (by exact fun _ _ _ h => h) (Or.inl ⟨by rfl, ?_⟩) (by assumption) ?_
            rotate_left
            · intro wq hSw
              (try dsimp only at hSw)
              go_simp
              all_goals (with_reducible rfl)
            try simp only [Act.put, List.setIfInBounds_toArray, List.set_cons_zero, List.set_cons_succ]
            refine wpAnyH_take (i := 38) (by simp only [List.getElem?_toArray, List.getElem?_cons_succ, List.getElem?_cons_zero]; rfl) (by kernel_rfl) (by kernel_rfl) (by kernel_rfl) (by exact fun _ _ _ h => h) (yields_ixI (by rfl) _ _ rfl gl m lc (k + 1) rfl rfl (by omega)) (by assumption) ?_
            try simp only [Act.put, List.setIfInBounds_toArray, List.set_cons_zero, List.set_cons_succ]
            refine wpAnyH_take (i := 39) (by simp only [List.getElem?_toArray, List.getElem?_cons_succ, List.getElem?_cons_zero]; rfl) (by kernel_rfl) (by kernel_rfl) (by kernel_rfl) (by exact fun _ _ _ h => h) (yields_ld (ad := ⟨gl, k + 1, none⟩) (by rfl) _ rfl rfl (fun w' h => ld3 h.2.2.1)) (by assumption) ?_
            try simp only [Act.put, List.setIfInBounds_toArray, List.set_cons_zero, List.set_cons_succ]
            refine wpAnyH_take (i := 40) (v := ?_) (by simp only [List.getElem?_toArray, List.getElem?_cons_succ, List.getElem?_cons_zero]; rfl) (by kernel_rfl) (by kernel_rfl) (by kernel_rfl) (by exact fun _ _ _ h => h) (Or.inl ⟨by rfl, ?_⟩) (by assumption) ?_
            rotate_left
            · intro wq hSw
              (try dsimp only at hSw)
              go_simp
              all_goals (with_reducible rfl)
            try simp only [Act.put, List.setIfInBounds_toArray, List.set_cons_zero, List.set_cons_succ]
            refine wpAnyH_take (i := 41) (v := ?_) (by simp only [List.getElem?_toArray, List.getElem?_cons_succ, List.getElem?_cons_zero]; rfl) (by kernel_rfl) (by kernel_rfl) (by kernel_rfl) (by exact fun _ _ _ h => h) (Or.inl ⟨by rfl, ?_⟩) (by assumption) ?_
            rotate_left
            · intro wq hSw
              (try dsimp only at hSw)
              go_simp
              all_goals (with_reducible rfl)
            try simp only [Act.put, List.setIfInBounds_toArray, List.set_cons_zero, List.set_cons_succ]
            refine wpAnyH_take (i := 42) (v := ?_) (by simp only [List.getElem?_toArray, List.getElem?_cons_succ, List.getElem?_cons_zero]; rfl) (by kernel_rfl) (by kernel_rfl) (by kernel_rfl) (by exact fun _ _ _ h => h) (Or.inl ⟨by rfl, ?_⟩) (by assumption) ?_
            rotate_left
            · intro wq hSw
              (try dsimp only at hSw)
              go_simp
              all_goals (with_reducible rfl)
            try simp only [Act.put, List.setIfInBounds_toArray, List.set_cons_zero, List.set_cons_succ]
            refine wpAnyH_take (i := 43) (by simp only [List.getElem?_toArray, List.getElem?_cons_succ, List.getElem?_cons_zero]; rfl) (by kernel_rfl) (by kernel_rfl) (by kernel_rfl) (by exact fun _ _ _ h => h) (yields_ixI (by rfl) _ _ rfl gl m lc k rfl rfl (by omega)) (by assumption) ?_
            try simp only [Act.put, List.setIfInBounds_toArray, List.set_cons_zero, List.set_cons_succ]
            refine wpAnyH_take (i := 44) (by simp only [List.getElem?_toArray, List.getElem?_cons_succ, List.getElem?_cons_zero]; rfl) (by kernel_rfl) (by kernel_rfl) (by kernel_rfl) (by exact fun _ _ _ h => h) (yields_ld (ad := ⟨gl, k, none⟩) (by rfl) _ rfl rfl (fun w' h => ld3 h.2.2.2)) (by assumption) ?_
            try simp only [Act.put, List.setIfInBounds_toArray, List.set_cons_zero, List.set_cons_succ]
            refine wpAnyH_take (i := 45) (v := ?_) (by simp only [List.getElem?_toArray, List.getElem?_cons_succ, List.getElem?_cons_zero]; rfl) (by kernel_rfl) (by kernel_rfl) (by kernel_rfl) (by exact fun _ _ _ h => h) (Or.inl ⟨by rfl, ?_⟩) (by assumption) ?_
            rotate_left
            · intro wq hSw
              (try dsimp only at hSw)
              go_simp
              all_goals (with_reducible rfl)
            try simp only [Act.put, List.setIfInBounds_toArray, List.set_cons_zero, List.set_cons_succ]
            refine wpAnyH_take (i := 46) (v := ?_) (by simp only [List.getElem?_toArray, List.getElem?_cons_succ, List.getElem?_cons_zero]; rfl) (by kernel_rfl) (by kernel_rfl) (by kernel_rfl) (by exact fun _ _ _ h => h) (Or.inl ⟨by rfl, ?_⟩) (by assumption) ?_
            rotate_left
            · intro wq hSw
              (try dsimp only at hSw)
              go_simp
              all_goals (with_reducible rfl)
            try simp only [Act.put, List.setIfInBounds_toArray, List.set_cons_zero, List.set_cons_succ]
            refine wpAnyH_take (i := 47) (v := ?_) (by simp only [List.getElem?_toArray, List.getElem?_cons_succ, List.getElem?_cons_zero]; rfl) (by kernel_rfl) (by kernel_rfl) (by kernel_rfl) (by exact fun _ _ _ h => h) (Or.inl ⟨by rfl, ?_⟩) (by assumption) ?_
            rotate_left
            · intro wq hSw
              (try dsimp only at hSw)
              go_simp
              all_goals (with_reducible rfl)
            try simp only [Act.put, List.setIfInBounds_toArray, List.set_cons_zero, List.set_cons_succ]
            clear hHeld
            refine wpAnyH_done (by kernel_rfl) ?_ _
            go_wp2_with fail
            go_roundw
            case rel => exact ⟨(k + 1) + 1, by go_num, by omega, HZ.out⟩
            case measure => simp [intOf]; omega
      have j1 : decide (k < m) = false := by simp; omega
      clear hkn
      replace HO := Lib.hid (HO.out.on HZ.out)
      replace HU := Lib.hid (HU.out.on HZ.out)
      clear HZ HLI HBK
      have HGA : Hid (atP t (t.last + 1) = (0, z16, 0, 1)) := by
        show _ = _
        unfold atP
        rw [num_none HWT.out (.inl (by omega))]
      have HGC : Hid (closeP t 0 = (1, t)) := by
        show _ = _
        unfold closeP
        rw [num_none HWT.out (.inr (by omega))]
      have hlw : IntKind.i64.wrap (t.last + 1) = t.last + 1 := by rw [IntKind.wrap_i64]; omega
      go_wp2_with fail
      refine (at_o HO.out (t.last + 1)).mono ?_
      rintro E w2 ⟨rfl, haw⟩
      rw [HGA.out]
      replace HO := Lib.hid (HO.out.on haw)
      replace HU := Lib.hid (HU.out.on haw)
      clear haw
      go_wp2_with (refine wpList_alloc32 rfl rfl ?_; refine Hid.out ?_)
      refine Lib.hid ?_
      intro g26 w3 hg26 hr26 haw
      have HR26 := Lib.hid hr26
      replace HO := Lib.hid (HO.out.give 9 haw)
      replace HU := Lib.hid (HU.out.give 9 haw)
      have H9 : Hid (give o w2 9 g26 = 9) := give_new hg26
      clear hr26 haw hg26
      generalize give o w2 9 = o at *
      go_wp2_with (refine wpList_store32 rfl _ _ rfl g26 rfl 0 z16 rfl rfl _ HR26.out ?_; refine Hid.out ?_)
      refine Lib.hid ?_
      intro w4 hr4 haw
      have hc : Chg o 9 w3 w4 := Chg.of haw (fun s hs => by simp at hs; subst hs; exact H9.out)
      replace HO := Lib.hid (HO.out.kp hc (by decide))
      replace HU := Lib.hid (HU.out.kp hc (by decide))
      clear hr4 haw hc
      go_wp2_with fail
      refine (close_o HO.out 0).mono ?_
      rintro E w5 ⟨rfl, ho, hc⟩
      rw [HGC.out]
      replace HU := Lib.hid (HU.out.keep hc (by decide))
      clear ho hc
      go_wp2_with fail
      go_ret
      exact ⟨rfl, HU.out.below⟩
namespace portsWhose
theorem lifted (os : Os) (started : os.Started) (H : Type) (enc : TypeId × Value → H) :
    ReturnsInHanded {} Try.checked os 4 .any (Rows.portsWhoseSpec.pre6 enc Try.prog Try.f4 Rows.portsWhoseRow.domain false) (Rows.portsWhoseSpec.post enc Try.prog Try.f4 false true false false) := by
  refine returnsInHanded_of_change_sized (C := Try.checked) ownKn started (by kernel_rfl) Try.func4
    (ChangeSpec.witness6 (enc := enc) (C := Try.checked) false ⟨#[], #[.int .i64 0, .slice none 0 0], []⟩ 8 (by kernel_rfl) (by kernel_rfl) (by kernel_rfl) (by kernel_rfl)) ?_
  intro W base args ds gs before hval0 hW _ hsz0 _
  have hsz : (DataW.weightsEach Try.prog (Try.f4.params.toList ++ Rows.portsWhoseSpec.plain.varTypes Try.prog) (ds ++ gs)).all (· ≤ reachBytes) = true := hsz0
  clear hsz0
  have hval : ∀ (j : Nat) t v, Try.f4.params[j]? = some t → args[j]? = some v → Value.okWide Try.prog W .any base t v := hval0
  have hW' := hW
  obtain ⟨p, q, hA0, hV, rfl, hfz, hnd⟩ := hW
  have hA : DataW.TrodAll enc Try.prog W 0 (fun _ => true) true Try.f4.params.toList args.toList ds p := hA0
  rw [Try.params4] at hA hval hsz
  obtain ⟨v0, vs0, d0, ds0, p0, q0, hargs, rfl, rfl, h0, r0⟩ := trodAll_cons hA
  obtain ⟨v1, vs1, d1, ds1, p1, q1, rfl, rfl, rfl, h1, r1⟩ := trodAll_cons r0
  obtain ⟨rfl, rfl, rfl⟩ := trodAll_nil r1
  obtain rfl : args = #[v0, v1] := by cases args; simp_all
  have hV2 : DataW.TrodVars enc Try.prog W (fun _ => true) Rows.portsWhoseSpec.vars gs q := hV
  obtain ⟨rfl, rfl⟩ := trodVars_none hV2
  obtain ⟨a0, rfl, rfl, rfl, w0⟩ := open_int Try.underlying3 (hval 0 3 v0 rfl rfl) h0
  have k1 := h1
  have lt1 : ∀ x ∈ p1, x.block < W.heap.size := by obtain ⟨m, hm⟩ := k1; exact DataW.trod_lt m _ _ _ hm
  have z1 : ∀ m ∈ d1.weights Try.prog 22, m ≤ reachBytes := fun m hm => by
    have := List.all_eq_true.1 hsz m (DataW.weights_mem_each (j := 1) (t := 22) rfl rfl m hm)
    simpa using this
  obtain ⟨a1, len1, cap1, rfl⟩ := okWide_slice Try.underlying22 (hval 1 22 v1 rfl rfl)
  obtain ⟨l1, rfl, w1, b1⟩ := open_script h1 z1 lt1
  clear hA0 hval0
  refine (walk a0 a1 l1 cap1 W w1 b1).mono fun e W' ⟨he, bel⟩ => ?_
  subst he
  exact ⟨_, rfl, _, _, _, [], _, [], hW', trodAll_mk1 (shut_bool Try.underlying4 _), (trodAll_cons_mk (shut_int Try.underlying3 w0) (trodAll_cons_mk (Below.trod laidOut (by kernel_rfl) (of_decide_eq_true (by kernel_rfl)) k1 bel lt1) trodAll_mk0)), rfl, bel.frame _, fun h => by cases h⟩
theorem over : Rows.portsWhoseRow.holds Try.pinned (OpenSpec.ofChange Rows.portsWhoseSpec) :=
  OpenClaim.holds_of_wide 4 Try.f4 rfl rfl rfl rfl rfl rfl rfl ⟨rfl, rfl, rfl, rfl, rfl⟩ rfl rfl rfl rfl rfl (by kernel_rfl) Try.func4 (by kernel_rfl)
    (of_decide_eq_true (by kernel_rfl)) (by unfold Func.isWrapper; first | (rw [if_pos (by decide +kernel)]; kernel_rfl) | (rw [if_neg (by decide +kernel)]; exact ⟨rfl, rfl⟩))
    (fun os started H enc _ => lifted os started H enc)
end portsWhose
theorem portsWhose_holds : Rows.PortsWhoseSaid := portsWhose.over
#print axioms portsWhose_holds
end Go.Proofs.Ytemdgggpfadecaa
