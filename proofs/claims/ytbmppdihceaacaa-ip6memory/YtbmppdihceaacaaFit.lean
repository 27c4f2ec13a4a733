/-
  fit of the law.
-/
import Derived.Test.YtbmppdihceaacaaFitN
import Derived.Test.YtbmppdihceaacaaOwnP
import Derived.Deep.CutRange
namespace Go.Proofs.Ytbmppdihceaacaa
open Go.ChangeShapes Go.WideShapes Go.ChangeAt Go.RowKit Num
set_option linter.unusedVariables false
set_option maxHeartbeats 4000000
set_option maxRecDepth 100000

theorem Owns.take {w : World} {a : Option Addr} {n cap m : Nat} {l : List Int} (h : Owns w (.slice a n cap) l) (hm : m ≤ l.length) : Owns w (.slice a m cap) (l.take m) := by
  obtain ⟨h1, h2⟩ := h
  refine ⟨by simp, ?_⟩
  rcases h2 with ⟨h2, h3⟩ | ⟨g, cap', cur, h2, hg, hh, hn, hc, hs, ht⟩
  · simp only [Value.slice.injEq] at h2
    obtain ⟨rfl, rfl, rfl⟩ := h2
    have hl : l = [] := by simpa using h3
    subst hl
    left
    simp at hm
    subst hm
    exact ⟨rfl, rfl⟩
  · simp only [Value.slice.injEq] at h2
    obtain ⟨rfl, rfl, rfl⟩ := h2
    right
    have e : ((l.take m).map (Value.int .u8)).length = m := by simp; omega
    simp only [List.length_map] at hn
    refine ⟨g, cap, cur, by rw [e], hg, hh, by rw [e]; omega, hc, hs, ?_⟩
    rw [e]
    simp only [List.length_map] at ht
    rw [List.map_take, ← ht, List.take_take]
    congr 1
    omega
/-- The state of fit: the packet at g1, the result at g2. -/
structure FS (w wx : World) (g1 g2 : Nat) (p : Pk) (ov dv : Value) : Prop where
  b1 : BoxP wx g1 p ov dv
  b2 : BoxP wx g2 zeroPk (.slice none 0 0) (.slice none 0 0)
  d : Owns wx dv p.d
  nd : New w.heap.size dv
  aw : Away [] w wx
  n1 : w.heap.size ≤ g1
  n2 : w.heap.size ≤ g2
  e1 : g1 ≠ g2
  k1 : ∀ k, dv.ownBlock = some k → k ≠ g1 ∧ k ≠ g2
  ad : Ad p
theorem FS.put {w wx : World} {g1 g2 : Nat} {p q : Pk} {ov ou dv : Value} (h : FS w wx g1 g2 p ov dv) (i : Nat) (x : Value) (hx : (csP p ov dv).setIfInBounds i x = csP q ou dv) (hd : q.d = p.d) (hq : Ad q) : FS w (wx.setCell ⟨g1, i, none⟩ x) g1 g2 q ou dv :=
  ⟨h.b1.put i x hx, h.b2.away (away_put i x) (by simp; exact fun e => h.e1 e.symm), by rw [hd]; exact h.d.away (away_put (g := g1) i x) (fun k hk => by simpa using (h.k1 k hk).1), h.nd, h.aw.setCell (.inr h.n1) _, h.n1, h.n2, h.e1, h.k1, hq⟩
theorem FS.data {w wx : World} {g1 g2 : Nat} {p : Pk} {ov : Value} {a : Option Addr} {n c m : Nat} (h : FS w wx g1 g2 p ov (.slice a n c)) (hm : m ≤ p.d.length) :
    FS w (wx.setCell ⟨g1, 45, none⟩ (.slice a m c)) g1 g2 { p with d := p.d.take m } ov (.slice a m c) := by
  have hob : (Value.slice a m c).ownBlock = (Value.slice a n c).ownBlock := by cases a <;> rfl
  exact ⟨h.b1.put 45 _ ((csP_set h.ad _ _).2.2.2.2.2.2.2.2.2.2.2.2.2 _ _), h.b2.away (away_put 45 _) (by simp; exact fun e => h.e1 e.symm), (h.d.take hm).away (away_put (g := g1) 45 _) (fun k hk => by rw [hob] at hk; simpa using (h.k1 k hk).1), fun k hk => h.nd k (by rw [← hob]; exact hk), h.aw.setCell (.inr h.n1) _, h.n1, h.n2, h.e1, fun k hk => h.k1 k (by rw [← hob]; exact hk), h.ad⟩
theorem u64mod (n m : Int) (hm : m = 256 ∨ m = 1048576 ∨ m = 65536) : wrap64 ((IntKind.u64.wrap n).tmod m) = n % m := by
  rw [IntKind.wrap_u64, Int.tmod_eq_emod_of_nonneg (by omega)]
  unfold wrap64
  rcases hm with rfl | rfl | rfl <;> omega
theorem u64mod8 (n : Int) : wrap64 (IntKind.u64.wrap (IntKind.u64.wrap (((IntKind.u64.wrap n).tmod 65536).tdiv 8) * 8)) = n % 65536 / 8 * 8 := by
  simp only [IntKind.wrap_u64]
  rw [Int.tmod_eq_emod_of_nonneg (by omega), Int.tdiv_eq_ediv_of_nonneg (by omega)]
  unfold wrap64
  omega
theorem Owns.slc {w : World} {v : Value} {l : List Int} (h : Owns w v l) : ∃ a c, v = .slice a l.length c ∧ l.length ≤ c := by
  obtain ⟨h1, h2⟩ := h
  rcases h2 with ⟨rfl, h3⟩ | ⟨g, cap, cur, rfl, _, _, h4, _⟩
  · have : l = [] := by simpa using h3
    subst this
    exact ⟨none, 0, rfl, by simp⟩
  · simp only [List.length_map] at h4 ⊢
    exact ⟨_, cap, rfl, h4⟩
theorem fit_c (p : Pk) (ov dv : Value) (w : World) (hp : Pkt w p ov dv) :
    Calls Try.prog 10 #[.agg (csP p ov dv)] w fun E w' => OwnOut w (fitP p) E w' := by
  have HAD := Lib.hid hp.wf.ad
  have HWF := Lib.hid hp.wf
  have HP := Lib.hid hp
  have m1 := u64mod p.tos 256 (by simp)
  have m2 := u64mod p.flow 1048576 (by simp)
  have m3 := u64mod p.proto 256 (by simp)
  have m4 := u64mod p.ttl 256 (by simp)
  have b0 : 0 ≤ p.tos % 256 ∧ p.tos % 256 ≤ 255 := by omega
  have b1 : 0 ≤ p.flow % 1048576 ∧ p.flow % 1048576 ≤ 1048575 := by omega
  have b2 : 0 ≤ p.proto % 256 ∧ p.proto % 256 ≤ 255 := by omega
  have b3 : 0 ≤ p.ttl % 256 ∧ p.ttl % 256 ≤ 255 := by omega
  clear hp
  go_enter Try.func10, Try.ntmps10
  go_wp2_with (refine wpList_box28 rfl _ rfl p _ _ rfl ?_; refine Hid.out ?_)
  refine Lib.hid ?_
  intro g1 w1 hg1 hb1 haw1
  have HB1 := Lib.hid hb1; have HA1 := Lib.hid haw1
  have hl1 := hb1.lt
  clear hb1 haw1
  go_wp2_with (refine wpList_alloc28 rfl rfl ?_; refine Hid.out ?_)
  refine Lib.hid ?_
  intro g2 w2 hg2 hb2 haw2
  have HB2 := Lib.hid hb2
  have HB12 := Lib.hid (HB1.out.on haw2)
  have HA2 := Lib.hid (HA1.out.next haw2 (by simp))
  have hl2 := hb2.lt
  have hs1 := HA1.out.size; have hs2 := haw2.size
  clear hb2 haw2 HB1 HA1
  go_wp2_with (refine wpList_load28 rfl _ rfl _ rfl p _ _ (by exact HB12.out) HAD.out ?_)
  refine (ownP_c p ov dv w2 (by exact HP.out.on HA2.out)).mono ?_
  rintro E w3 ⟨oo, dd, rfl, hm, haw3⟩
  have hs3 := haw3.size
  have HB13 := Lib.hid (HB12.out.on haw3)
  have HB23 := Lib.hid (HB2.out.on haw3)
  have HA3 := Lib.hid (HA2.out.next haw3 (by simp))
  have HM := Lib.hid hm
  clear hm haw3 HB12 HB2 HA2
  have ho1 : oo.oneCell' = true := by obtain ⟨a, c, rfl, _⟩ := HM.out.o.slc; rfl
  have hd1 : dd.oneCell' = true := by obtain ⟨a, c, rfl, _⟩ := HM.out.d.slc; rfl
  go_wp2_with (first | (refine wpList_store28 rfl _ _ rfl _ rfl p oo dd rfl p ov dv (by exact HB13.out) HAD.out HAD.out ho1 hd1 ?_; refine Hid.out ?_))
  refine Lib.hid ?_
  intro w4 hb4 haw4
  have hs4 := haw4.size
  have HL : Hid (FS w w4 g1 g2 p oo dd) := ⟨hb4, HB23.out.away haw4 (by simp; omega), HM.out.d.away haw4 (fun k hk => by have := HM.out.nd k hk; simp; omega), HM.out.nd.mono (by omega), HA3.out.next haw4 (fun x hx => .inr (by simp at hx; omega)), by omega, by omega, by omega, fun k hk => by have := HM.out.nd k hk; omega, HAD.out⟩
  obtain ⟨a, c, rfl, hcc⟩ := HM.out.o.slc
  clear hb4 haw4 HB13 HB23 HA3 HM hg1 hg2 hl1 hl2 hs1 hs2 hs3 hs4 ho1 hd1 hcc HP
  have hc := HL.out.b1.cells HAD.out
  have s0 := hc.v; have s1 := hc.tos; have s2 := hc.flow; have s3 := hc.sv; have s20 := hc.dv'; have s37 := hc.proto; have s38 := hc.ttl; have s40 := hc.df; have s44 := hc.o
  have t0 := HL.out.b1.free 0; have t1 := HL.out.b1.free 1; have t2 := HL.out.b1.free 2; have t3 := HL.out.b1.free 3; have t20 := HL.out.b1.free 20; have t37 := HL.out.b1.free 37; have t38 := HL.out.b1.free 38; have t40 := HL.out.b1.free 40; have t44 := HL.out.b1.free 44
  clear hc
  go_upto_if 39 with fail
  simp only [m1, m2, m3, m4]
  clear s0 s1 s2 s3 s20 s37 s38 s40 s44 t0 t1 t2 t3 t20 t37 t38 t40 t44
  obtain ⟨q1, hq1⟩ : ∃ q1 : Pk, q1 = { p with v := 6, sv := 6, dv := 6, df := false, o := [], tos := p.tos % 256, flow := p.flow % 1048576, proto := p.proto % 256, ttl := p.ttl % 256 } := ⟨_, rfl⟩
  have HL1 : Hid (FS w ((((((((((w4.setCell ⟨g1, 0, none⟩ (.int .i64 6)).setCell ⟨g1, 3, none⟩ (.int .i64 6)).setCell ⟨g1, 20, none⟩ (.int .i64 6)).setCell ⟨g1, 40, none⟩ (.bool false)).setCell ⟨g1, 44, none⟩ (.slice none 0 0)).setCell ⟨g1, 1, none⟩ (.int .i64 (p.tos % 256))).setCell ⟨g1, 2, none⟩ (.int .i64 (p.flow % 1048576))).setCell ⟨g1, 37, none⟩ (.int .i64 (p.proto % 256))).setCell ⟨g1, 38, none⟩ (.int .i64 (p.ttl % 256)))) g1 g2 q1 (.slice none 0 0) dd) := by
    rw [hq1]
    exact ((((((((HL.out.put 0 (.int .i64 6) ((csP_set HAD.out _ _).1 6) rfl HAD.out).put 3 (.int .i64 6) ((csP_set (by exact HAD.out) _ _).2.2.2.1 6) rfl HAD.out).put 20 (.int .i64 6) ((csP_set (by exact HAD.out) _ _).2.2.2.2.1 6) rfl HAD.out).put 40 (.bool false) ((csP_set (by exact HAD.out) _ _).2.2.2.2.2.2.2.2.1 false) rfl HAD.out).put 44 (.slice none 0 0) ((csP_set (by exact HAD.out) _ _).2.2.2.2.2.2.2.2.2.2.2.2.1 [] (.slice none 0 0)) rfl HAD.out).put 1 (.int .i64 (p.tos % 256)) ((csP_set (by exact HAD.out) _ _).2.1 _) rfl HAD.out).put 2 (.int .i64 (p.flow % 1048576)) ((csP_set (by exact HAD.out) _ _).2.2.1 _) rfl HAD.out).put 37 (.int .i64 (p.proto % 256)) ((csP_set (by exact HAD.out) _ _).2.2.2.2.2.1 _) rfl HAD.out).put 38 (.int .i64 (p.ttl % 256)) ((csP_set (by exact HAD.out) _ _).2.2.2.2.2.2.1 _) rfl HAD.out
  clear HL
  generalize ((((((((((w4.setCell ⟨g1, 0, none⟩ (.int .i64 6)).setCell ⟨g1, 3, none⟩ (.int .i64 6)).setCell ⟨g1, 20, none⟩ (.int .i64 6)).setCell ⟨g1, 40, none⟩ (.bool false)).setCell ⟨g1, 44, none⟩ (.slice none 0 0)).setCell ⟨g1, 1, none⟩ (.int .i64 (p.tos % 256))).setCell ⟨g1, 2, none⟩ (.int .i64 (p.flow % 1048576))).setCell ⟨g1, 37, none⟩ (.int .i64 (p.proto % 256))).setCell ⟨g1, 38, none⟩ (.int .i64 (p.ttl % 256)))) = w5 at *
  have HQ1 := Lib.hid hq1
  have HWA := Lib.hid HWF.out.fitA
  have hpr : q1.proto = p.proto % 256 := by rw [hq1]
  have HFA : Hid (fitA p = { q1 with proto := if p.proto % 256 = 44 then 17 else p.proto % 256 }) := by
    show _ = _
    rw [hq1]; rfl
  have HQD : Hid (Ad q1) := by rw [hq1]; exact HAD.out
  clear hq1
  go_cut [] (fun wc => FS w wc g1 g2 (fitA p) (.slice none 0 0) dd)
  case first =>
    have s37 := (HL1.out.b1.cells HL1.out.ad).proto
    rw [hpr] at s37
    have t37 := HL1.out.b1.free 37
    by_cases h44 : p.proto % 256 = 44
    · have k1 : (p.proto % 256 == 44) = true := by simp [h44]
      have hL := HL1.out.put 37 (.int .i64 17) ((csP_set HL1.out.ad _ _).2.2.2.2.2.1 17) rfl HL1.out.ad
      have HLn : Hid (FS w (w5.setCell ⟨g1, 37, none⟩ (.int .i64 17)) g1 g2 (fitA p) (.slice none 0 0) dd) := by
        rw [HFA.out, if_pos h44]; exact hL
      clear h44 hL
      go_wp2_with fail
      go_meet
      exact HLn.out
    · have k1 : (p.proto % 256 == 44) = false := by simp [h44]
      have HLn : Hid (FS w w5 g1 g2 (fitA p) (.slice none 0 0) dd) := by
        have e : fitA p = q1 := by rw [HFA.out, if_neg h44, ← hpr]
        rw [e]; exact HL1.out
      clear h44
      go_wp2_with fail
      go_meet
      exact HLn.out
  case rest =>
  clear HL1 HFA HQ1 HQD hpr q1 m1 m2 m3 m4 b0 b1 b2 b3
  have HL := Lib.hid hcut
  clear hcut
  obtain ⟨q, hq⟩ : ∃ q, q = fitA p := ⟨_, rfl⟩
  rw [← hq] at HL HWA
  have HQ := Lib.hid hq
  clear hq
  have m5 := u64mod8 q.off
  have s42 := (HL.out.b1.cells HL.out.ad).frag
  go_upto_if 42 with fail
  go_cut [3] (fun m wc' => m = .int .i64 (mostP (fitB q) : Nat) ∧ FS w wc' g1 g2 (fitB q) (.slice none 0 0) dd)
  case first =>
    have s39 := (HL.out.b1.cells HL.out.ad).id
    have t39 := HL.out.b1.free 39
    have s41 := (HL.out.b1.cells HL.out.ad).more
    have t41 := HL.out.b1.free 41
    have s43 := (HL.out.b1.cells HL.out.ad).off
    have t43 := HL.out.b1.free 43
    generalize hfr : q.frag = fr at s42 ⊢
    cases fr
    · have hL := ((HL.out.put 39 (.int .u32 0) ((csP_set HL.out.ad _ _).2.2.2.2.2.2.2.1 0) rfl HL.out.ad).put 43 (.int .i64 0) ((csP_set (by exact HL.out.ad) _ _).2.2.2.2.2.2.2.2.2.2.2.1 0) rfl HL.out.ad).put 41 (.bool false) ((csP_set (by exact HL.out.ad) _ _).2.2.2.2.2.2.2.2.2.1 false) rfl HL.out.ad
      have eB : fitB q = { q with id := 0, off := 0, more := false } := by unfold fitB; rw [if_neg (by simp [hfr])]
      have HLn := Lib.hid hL
      have HE := Lib.hid eB
      have HM : Hid (mostP (fitB q) = 65535) := by show _ = _; unfold mostP; rw [eB, if_neg (by simp [hfr])]
      clear hL eB hfr
      go_wp2_with fail
      go_meet
      exact ⟨by rw [HM.out]; rfl, by rw [HE.out]; exact HLn.out⟩
    · have hL := HL.out.put 43 (.int .i64 (q.off % 65536 / 8 * 8)) ((csP_set HL.out.ad _ _).2.2.2.2.2.2.2.2.2.2.2.1 (q.off % 65536 / 8 * 8)) rfl HL.out.ad
      have eB : fitB q = { q with off := q.off % 65536 / 8 * 8 } := by unfold fitB; rw [if_pos hfr]
      have HLn := Lib.hid hL
      have HE := Lib.hid eB
      have o0 : 0 ≤ q.off % 65536 / 8 * 8 := by omega
      have o1 : q.off % 65536 / 8 * 8 ≤ 65528 := by omega
      have HM : Hid ((mostP (fitB q) : Int) = min 65527 (65535 - q.off % 65536 / 8 * 8)) := by
        show _ = _
        unfold mostP; rw [eB, if_pos (by exact hfr)]; simp only; omega
      clear hL eB hfr
      generalize q.off % 65536 / 8 * 8 = O at *
      go_upto_region 16 with fail
      simp only [m5]
      by_cases hmin : 65527 ≤ 65535 - O
      · have HM2 : Hid ((mostP (fitB q) : Int) = 65527) := by show _ = _; rw [HM.out]; omega
        go_wp2_with fail
        all_goals (go_meet; exact ⟨by rw [HM2.out], by rw [HE.out]; exact HLn.out⟩)
      · have HM2 : Hid ((mostP (fitB q) : Int) = 65535 - O) := by show _ = _; rw [HM.out]; omega
        go_wp2_with fail
        all_goals (go_meet; exact ⟨by rw [HM2.out], by rw [HE.out]; exact HLn.out⟩)
  case rest =>
  obtain ⟨hm3, hL⟩ := hcut
  have HLB := Lib.hid hL
  clear hL HL s42 m5
  have HWB := Lib.hid HWA.out.fitB
  clear HWA
  obtain ⟨r, hr⟩ : ∃ r, r = fitB q := ⟨_, rfl⟩
  rw [← hr] at HLB HWB hm3
  have HR := Lib.hid hr
  clear hr
  rename Value => v3
  subst hm3
  obtain ⟨da, dc, rfl, hdc⟩ := HLB.out.d.slc
  have hdn := HWB.out.dn
  have s45 := (HLB.out.b1.cells HLB.out.ad).d
  go_upto_if 62 with fail
  go_cut [] (fun wc'' => ∃ dv', FS w wc'' g1 g2 (fitC r) (.slice none 0 0) dv')
  case first =>
    have t45 := HLB.out.b1.free 45
    by_cases hgt : mostP r < r.d.length
    · have hL := HLB.out.data (m := mostP r) (by omega)
      have HLn : Hid (FS w (wc.setCell ⟨g1, 45, none⟩ (.slice da (mostP r) dc)) g1 g2 (fitC r) (.slice none 0 0) (.slice da (mostP r) dc)) := hL
      have hsl := slice_h da r.d.length dc (mostP r) (mostP r : Int) rfl (by omega)
      clear hL
      generalize mostP r = M at *
      go_wp2_with fail
      go_meet
      exact ⟨_, HLn.out⟩
    · have e : fitC r = r := by unfold fitC; rw [List.take_of_length_le (by omega)]
      have HE := Lib.hid e
      clear e
      generalize mostP r = M at *
      go_wp2_with fail
      go_meet
      exact ⟨_, by rw [HE.out]; exact HLB.out⟩
  case rest =>
  obtain ⟨dv2, hL⟩ := hcut
  have HLC := Lib.hid hL
  clear hL HLB s45 hdn hdc
  have HWC := Lib.hid HWB.out.fitC
  clear HWB
  obtain ⟨s, hs⟩ : ∃ s, s = fitC r := ⟨_, rfl⟩
  rw [← hs] at HLC HWC
  have HS := Lib.hid hs
  clear hs
  obtain ⟨da2, dc2, rfl, hdc⟩ := HLC.out.d.slc
  have hdn := HWC.out.dn
  have s41 := (HLC.out.b1.cells HLC.out.ad).more
  go_upto_if 69 with fail
  go_cut [] (fun wx => ∃ dv', FS w wx g1 g2 (fitD s) (.slice none 0 0) dv')
  case first =>
    have s45 := (HLC.out.b1.cells HLC.out.ad).d
    have t45 := HLC.out.b1.free 45
    generalize hmr : s.more = mr at s41 ⊢
    cases mr
    · have e : fitD s = s := by unfold fitD; rw [if_neg (by simp [hmr])]
      have HE := Lib.hid e
      clear e hmr
      go_wp2_with fail
      go_meet
      exact ⟨_, by rw [HE.out]; exact HLC.out⟩
    · have hL := HLC.out.data (m := s.d.length / 8 * 8) (by omega)
      have e : fitD s = { s with d := s.d.take (s.d.length / 8 * 8) } := by unfold fitD; rw [if_pos hmr]
      rw [← e] at hL
      have HLn := Lib.hid hL
      have hsl := slice_h da2 s.d.length dc2 (s.d.length / 8 * 8) ((s.d.length : Int) / 8 * 8) (by omega) (by omega)
      clear hL e hmr
      go_wp2_with fail
      go_meet
      exact ⟨_, HLn.out⟩
  case rest =>
  obtain ⟨dv3, hL⟩ := hcut
  have HLD := Lib.hid hL
  clear hL HLC s41 hdn hdc
  have HWD := Lib.hid HWC.out.fitD
  clear HWC
  obtain ⟨u, hu⟩ : ∃ u, u = fitD s := ⟨_, rfl⟩
  rw [← hu] at HLD HWD
  have HU := Lib.hid hu
  clear hu
  obtain ⟨da3, dc3, rfl, hdc⟩ := HLD.out.d.slc
  have hdn := HWD.out.dn
  have s45 := (HLD.out.b1.cells HLD.out.ad).d
  go_upto_if 82 with fail
  go_cut [] (fun wx => FS w wx g1 g2 (fitE u) (.slice none 0 0) (.slice da3 u.d.length dc3))
  case first =>
    have s41 := (HLD.out.b1.cells HLD.out.ad).more
    have t41 := HLD.out.b1.free 41
    have s43 := (HLD.out.b1.cells HLD.out.ad).off
    have t43 := HLD.out.b1.free 43
    by_cases h0 : u.d.length = 0
    · have hL := (HLD.out.put 41 (.bool false) ((csP_set HLD.out.ad _ _).2.2.2.2.2.2.2.2.2.1 false) rfl HLD.out.ad).put 43 (.int .i64 0) ((csP_set (by exact HLD.out.ad) _ _).2.2.2.2.2.2.2.2.2.2.2.1 0) rfl HLD.out.ad
      have e : fitE u = { u with more := false, off := 0 } := by unfold fitE; rw [if_pos h0]
      have HE := Lib.hid e
      have HLn := Lib.hid hL
      have k1 : ((u.d.length : Int) == 0) = true := by simp; exact List.length_eq_zero_iff.1 h0
      clear e hL h0
      go_wp2_with fail
      go_meet
      rw [HE.out]; exact HLn.out
    · have e : fitE u = u := by unfold fitE; rw [if_neg h0]
      have HE := Lib.hid e
      have k1 : ((u.d.length : Int) == 0) = false := beq_eq_false_iff_ne.2 (by omega)
      clear e h0
      go_wp2_with fail
      go_meet
      rw [HE.out]; exact HLD.out
  case rest =>
  have HL := Lib.hid hcut
  clear hcut HLD s45 hdn
  have HFP : Hid (fitE u = fitP p) := by
    show _ = _
    unfold fitP; rw [HU.out, HS.out, HR.out, HQ.out]
  rw [HFP.out] at HL
  have hn2 := HL.out.n2
  go_wp2_with (first
    | (refine wpList_load28 rfl _ rfl _ rfl _ _ _ (by exact HL.out.b1) HL.out.ad ?_)
    | (refine wpList_store28 rfl _ _ rfl _ rfl _ _ _ rfl zeroPk (.slice none 0 0) (.slice none 0 0) (by exact HL.out.b2) HL.out.ad ⟨rfl, rfl⟩ rfl rfl ?_; refine Hid.out ?_))
  refine Lib.hid ?_
  intro w9 hb9 haw9
  have HB9 := Lib.hid hb9
  have HA9 : Hid (Away [] w w9) := HL.out.aw.next haw9 (fun x hx => .inr (by simp at hx; omega))
  have HD9 := Lib.hid (HL.out.d.away haw9 (fun k hk => by simpa using (HL.out.k1 k hk).2))
  have HND := Lib.hid HL.out.nd
  have HAD9 := Lib.hid HL.out.ad
  have HO9 : Hid ((fitP p).o = []) := ((right_iff _).1 (right_fit p)).o
  clear hb9 haw9 HL
  go_wp2_with fail
  refine bodyPost_ret (result28 rfl _ _ _ _ _ _ rfl HB9.out HAD9.out) rfl ⟨_, _, rfl, ⟨by rw [HO9.out]; exact Owns.nil _, HD9.out, New.nil _, HND.out, by simp [Value.ownBlock]⟩, HA9.out⟩
#print axioms fit_c
end Go.Proofs.Ytbmppdihceaacaa
