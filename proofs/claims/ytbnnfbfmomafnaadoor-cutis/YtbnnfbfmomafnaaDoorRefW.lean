/-
  Of the document: Six, Right, Whole, Head, Length.
-/
import Derived.Test.YtbnnfbfmomafnaaDoorRefF
import Derived.Deep.CutBlock
import Derived.Deep.DeepCutAuto
namespace Go.Proofs.YtbnnfbfmomafnaaDoor
open Go.ChangeShapes Go.WideShapes Go.ChangeAt Go.RowKit
open S6 (wp_region_cls quiet_val quiet_call quiet_ld ld3 ld4 ld5 ld25 ld26 load28_run load24m_run)
set_option linter.unusedVariables false
set_option linter.unusedSimpArgs false
set_option maxRecDepth 100000

set_option maxHeartbeats 8000000
def six1 (p : Pk) : Prop := p.v = 6 ∧ p.sv = 6 ∧ p.dv = 6 ∧ 0 ≤ p.tos ∧ p.tos ≤ 255 ∧ 0 ≤ p.flow ∧ p.flow ≤ 1048575 ∧ 0 ≤ p.proto ∧ p.proto ≤ 255 ∧ p.proto ≠ 44 ∧ 0 ≤ p.ttl ∧ p.ttl ≤ 255 ∧ p.df = false ∧ p.o = []
theorem six_iff (p : Pk) : S6.rightP p = true ↔ six1 p ∧ (if p.frag = false then p.id = 0 ∧ p.off = 0 ∧ p.more = false ∧ p.d.length ≤ 65535 else (0 ≤ p.off ∧ p.off ≤ 65528 ∧ p.off % 8 = 0 ∧ (p.d.length : Int) ≤ 65535 - p.off ∧ p.d.length ≤ 65527) ∧ (p.more = true → p.d.length ≠ 0 ∧ p.d.length % 8 = 0) ∧ (0 < p.off → p.d.length ≠ 0)) := by
  rw [S6.right_iff]
  constructor
  · intro h
    refine ⟨⟨h.v, h.sv, h.dv, h.t0, h.t1, h.f0, by have := h.f1; omega, h.r0, h.r1, h.r44, h.l0, h.l1, h.df, h.o⟩, ?_⟩
    by_cases hf : p.frag = false
    · rw [if_pos hf]
      obtain ⟨a, b, c⟩ := h.bare hf
      have := h.reach
      exact ⟨a, b, c, by omega⟩
    · rw [if_neg hf]
      have h1 := h.reach
      have h2 := h.all
      unfold S6.hofP at h2
      rw [if_pos (by simpa using hf)] at h2
      exact ⟨⟨h.o0, h.o1, h.o8, by omega, by omega⟩, fun e => ⟨h.mn (.inl e), h.m8 e⟩, fun e => h.mn (.inr e)⟩
  · rintro ⟨⟨h1, h2, h3, h4, h5, h6, h7, h8, h9, h10, h11, h12, h13, h14⟩, hr⟩
    by_cases hf : p.frag = false
    · rw [if_pos hf] at hr
      obtain ⟨a, b, c, d⟩ := hr
      exact ⟨h1, h13, h14, h6, by omega, h4, h5, h11, h12, h8, h9, h10, h2, h3, by omega, by omega, by omega, fun e => by rw [c] at e; simp at e, fun e => by rcases e with e | e; rw [c] at e; simp at e; omega, by omega, fun _ => ⟨a, b, c⟩, by unfold S6.hofP; rw [if_neg (by simp [hf])]; omega⟩
    · rw [if_neg hf] at hr
      obtain ⟨⟨a, b, c, d, e⟩, hm, ho⟩ := hr
      exact ⟨h1, h13, h14, h6, by omega, h4, h5, h11, h12, h8, h9, h10, h2, h3, a, b, c, fun x => (hm x).2, fun x => by rcases x with x | x; exact (hm x).1; exact ho x, by omega, fun x => absurd x hf, by unfold S6.hofP; rw [if_pos (by simpa using hf)]; omega⟩
theorem six_c (p : Pk) (ov dv : Value) (w : World) (hp : Pkt w p ov dv) :
    Calls Tryd.prog 71 #[.agg (csP p ov dv)] w fun E w' => E = .returned (.bool (S6.rightP p)) ∧ Away [] w w' := by
  have HAD := Lib.hid hp.wf.ad
  have hdn := hp.wf.dn
  obtain ⟨-, ⟨oa, oc, rfl, -⟩, ⟨da, dc, rfl, -⟩⟩ := hp
  obtain ⟨no, hno⟩ : ∃ n, n = p.o.length := ⟨_, rfl⟩
  rw [← hno]
  have HNO := Lib.hid hno
  clear hno
  obtain ⟨z, hz⟩ : ∃ z, z = S6.rightP p := ⟨_, rfl⟩
  rw [← hz]
  obtain ⟨b1, hb1⟩ : ∃ b, b = decide (p.v = 6 ∧ p.sv = 6 ∧ p.dv = 6 ∧ 0 ≤ p.tos ∧ p.tos ≤ 255 ∧ 0 ≤ p.flow ∧ p.flow ≤ 1048575 ∧ 0 ≤ p.proto ∧ p.proto ≤ 255 ∧ p.proto ≠ 44 ∧ 0 ≤ p.ttl ∧ p.ttl ≤ 255 ∧ p.df = false ∧ p.o = []) := ⟨_, rfl⟩
  have HB1 := Lib.hid hb1
  have HZ : Hid ((z = true) = (b1 = true ∧ (if p.frag = false then p.id = 0 ∧ p.off = 0 ∧ p.more = false ∧ p.d.length ≤ 65535 else (0 ≤ p.off ∧ p.off ≤ 65528 ∧ p.off % 8 = 0 ∧ (p.d.length : Int) ≤ 65535 - p.off ∧ p.d.length ≤ 65527) ∧ (p.more = true → p.d.length ≠ 0 ∧ p.d.length % 8 = 0) ∧ (0 < p.off → p.d.length ≠ 0)))) := by
    show _ = _
    rw [hz, hb1, decide_eq_true_eq, propext (six_iff p)]
    rfl
  clear hz hb1
  go_enter Tryd.func71, Tryd.ntmps71
  go_wp2_with (refine wpList_box28 rfl _ rfl p _ _ rfl ?_; refine Hid.out ?_)
  refine Lib.hid ?_
  intro g w1 hg hb haw
  have HA := Lib.hid haw
  have HB := Lib.hid hb
  have cc := hb.cells HAD.out
  have cv := cc.v; have csv := cc.sv; have cdv := cc.dv'; have ct := cc.tos; have cf := cc.flow; have cr := cc.proto; have cl := cc.ttl; have cdf := cc.df; have co := cc.o
  clear hb haw hg cc
  go_upto_region 1 with fail
  go_cut [73] (fun v wc => v = .bool (!b1) ∧ wc = w1)
  case first =>
    clear HZ
    by_cases gv : p.v = 6
    · have cv2 := cv
      rw [gv] at cv2
      clear cv
      by_cases gsv : p.sv = 6
      · have csv2 := csv
        rw [gsv] at csv2
        clear csv
        by_cases gdv : p.dv = 6
        · have cdv2 := cdv
          rw [gdv] at cdv2
          clear cdv
          by_cases gt0 : 0 ≤ p.tos
          · have xt0 : decide (p.tos < 0) = false := by simp; omega
            by_cases gt1 : p.tos ≤ 255
            · have xt1 : decide (255 < p.tos) = false := by simp; omega
              by_cases gf0 : 0 ≤ p.flow
              · have xf0 : decide (p.flow < 0) = false := by simp; omega
                by_cases gf1 : p.flow ≤ 1048575
                · have xf1 : decide (1048575 < p.flow) = false := by simp; omega
                  by_cases gr0 : 0 ≤ p.proto
                  · have xr0 : decide (p.proto < 0) = false := by simp; omega
                    by_cases gr1 : p.proto ≤ 255
                    · have xr1 : decide (255 < p.proto) = false := by simp; omega
                      by_cases gr4 : p.proto ≠ 44
                      · have xr4 : (p.proto == 44) = false := by simpa using gr4
                        have yr4 : decide (p.proto = 44) = false := by simpa using gr4
                        by_cases gl0 : 0 ≤ p.ttl
                        · have xl0 : decide (p.ttl < 0) = false := by simp; omega
                          by_cases gl1 : p.ttl ≤ 255
                          · have xl1 : decide (255 < p.ttl) = false := by simp; omega
                            by_cases gdf : p.df = false
                            · have cdf2 := cdf
                              rw [gdf] at cdf2
                              clear cdf
                              by_cases go : p.o = []
                              · have co2 := co
                                rw [show no = 0 from by rw [HNO.out, go]; rfl] at co2
                                have HGO := Lib.hid go
                                clear co go
                                obtain rfl : b1 = true := by rw [HB1.out, decide_eq_true_eq]; exact ⟨gv, gsv, gdv, gt0, gt1, gf0, gf1, gr0, gr1, gr4, gl0, gl1, gdf, HGO.out⟩
                                clear HB1
                                go_wp2_with fail
                                go_meet
                                first | exact ⟨rfl, rfl⟩ | (refine ⟨?_, rfl⟩; simp)
                              · obtain rfl : b1 = false := by rw [HB1.out, decide_eq_false_iff_not]; intro h; exact go h.2.2.2.2.2.2.2.2.2.2.2.2.2
                                clear HB1
                                have xo : 0 < no := by rw [HNO.out]; exact List.length_pos_iff.2 go
                                have yo : (0 : Int) < (no : Int) := by omega
                                have zo : decide ((0 : Int) < (no : Int)) = true := by simpa using yo
                                go_wp2_with fail
                                go_meet
                                first | exact ⟨rfl, rfl⟩ | (refine ⟨?_, rfl⟩; simp)
                            · obtain rfl : b1 = false := by rw [HB1.out, decide_eq_false_iff_not]; intro h; exact gdf h.2.2.2.2.2.2.2.2.2.2.2.2.1
                              clear HB1
                              have xdf : p.df = true := by simpa using gdf
                              rw [xdf] at cdf
                              go_wp2_with fail
                              go_meet
                              first | exact ⟨rfl, rfl⟩ | (refine ⟨?_, rfl⟩; simp)
                          · obtain rfl : b1 = false := by rw [HB1.out, decide_eq_false_iff_not]; intro h; exact gl1 h.2.2.2.2.2.2.2.2.2.2.2.1
                            clear HB1
                            have xl1 : decide (255 < p.ttl) = true := by simp; omega
                            go_wp2_with fail
                            go_meet
                            first | exact ⟨rfl, rfl⟩ | (refine ⟨?_, rfl⟩; simp)
                        · obtain rfl : b1 = false := by rw [HB1.out, decide_eq_false_iff_not]; intro h; exact gl0 h.2.2.2.2.2.2.2.2.2.2.1
                          clear HB1
                          have xl0 : decide (p.ttl < 0) = true := by simp; omega
                          go_wp2_with fail
                          go_meet
                          first | exact ⟨rfl, rfl⟩ | (refine ⟨?_, rfl⟩; simp)
                      · obtain rfl : b1 = false := by rw [HB1.out, decide_eq_false_iff_not]; intro h; exact gr4 h.2.2.2.2.2.2.2.2.2.1
                        clear HB1
                        have xr4 : (p.proto == 44) = true := by simpa using gr4
                        have yr4 : decide (p.proto = 44) = true := by simpa using gr4
                        go_wp2_with fail
                        go_meet
                        first | exact ⟨rfl, rfl⟩ | (refine ⟨?_, rfl⟩; simp)
                    · obtain rfl : b1 = false := by rw [HB1.out, decide_eq_false_iff_not]; intro h; exact gr1 h.2.2.2.2.2.2.2.2.1
                      clear HB1
                      have xr1 : decide (255 < p.proto) = true := by simp; omega
                      go_wp2_with fail
                      go_meet
                      first | exact ⟨rfl, rfl⟩ | (refine ⟨?_, rfl⟩; simp)
                  · obtain rfl : b1 = false := by rw [HB1.out, decide_eq_false_iff_not]; intro h; exact gr0 h.2.2.2.2.2.2.2.1
                    clear HB1
                    have xr0 : decide (p.proto < 0) = true := by simp; omega
                    go_wp2_with fail
                    go_meet
                    first | exact ⟨rfl, rfl⟩ | (refine ⟨?_, rfl⟩; simp)
                · obtain rfl : b1 = false := by rw [HB1.out, decide_eq_false_iff_not]; intro h; exact gf1 h.2.2.2.2.2.2.1
                  clear HB1
                  have xf1 : decide (1048575 < p.flow) = true := by simp; omega
                  go_wp2_with fail
                  go_meet
                  first | exact ⟨rfl, rfl⟩ | (refine ⟨?_, rfl⟩; simp)
              · obtain rfl : b1 = false := by rw [HB1.out, decide_eq_false_iff_not]; intro h; exact gf0 h.2.2.2.2.2.1
                clear HB1
                have xf0 : decide (p.flow < 0) = true := by simp; omega
                go_wp2_with fail
                go_meet
                first | exact ⟨rfl, rfl⟩ | (refine ⟨?_, rfl⟩; simp)
            · obtain rfl : b1 = false := by rw [HB1.out, decide_eq_false_iff_not]; intro h; exact gt1 h.2.2.2.2.1
              clear HB1
              have xt1 : decide (255 < p.tos) = true := by simp; omega
              go_wp2_with fail
              go_meet
              first | exact ⟨rfl, rfl⟩ | (refine ⟨?_, rfl⟩; simp)
          · obtain rfl : b1 = false := by rw [HB1.out, decide_eq_false_iff_not]; intro h; exact gt0 h.2.2.2.1
            clear HB1
            have xt0 : decide (p.tos < 0) = true := by simp; omega
            go_wp2_with fail
            go_meet
            first | exact ⟨rfl, rfl⟩ | (refine ⟨?_, rfl⟩; simp)
        · obtain rfl : b1 = false := by rw [HB1.out, decide_eq_false_iff_not]; intro h; exact gdv h.2.2.1
          clear HB1
          have xdv : (p.dv == 6) = false := by simpa using gdv
          have ydv : decide (p.dv = 6) = false := by simpa using gdv
          have zdv : (p.dv != 6) = true := by simpa using gdv
          go_wp2_with fail
          go_meet
          first | exact ⟨rfl, rfl⟩ | (refine ⟨?_, rfl⟩; simp)
      · obtain rfl : b1 = false := by rw [HB1.out, decide_eq_false_iff_not]; intro h; exact gsv h.2.1
        clear HB1
        have xsv : (p.sv == 6) = false := by simpa using gsv
        have ysv : decide (p.sv = 6) = false := by simpa using gsv
        have zsv : (p.sv != 6) = true := by simpa using gsv
        go_wp2_with fail
        go_meet
        first | exact ⟨rfl, rfl⟩ | (refine ⟨?_, rfl⟩; simp)
    · obtain rfl : b1 = false := by rw [HB1.out, decide_eq_false_iff_not]; intro h; exact gv h.1
      clear HB1
      have xv : (p.v == 6) = false := by simpa using gv
      have yv : decide (p.v = 6) = false := by simpa using gv
      have zv : (p.v != 6) = true := by simpa using gv
      go_wp2_with fail
      go_meet
      first | exact ⟨rfl, rfl⟩ | (refine ⟨?_, rfl⟩; simp)
  case rest =>
  obtain ⟨rfl, hwc⟩ := hcut
  replace hwc := hwc.symm
  subst hwc
  clear cv csv cdv ct cf cr cl cdf co HB1
  cases b1
  · have HR : Hid (z = false) := by
      show _ = _
      rw [Bool.eq_false_iff]; intro e
      rw [HZ.out] at e
      simp at e
    clear HZ
    obtain rfl := HR.out
    go_wp2_with fail
    go_ret
    exact ⟨rfl, HA.out⟩
  have cc := HB.out.cells HAD.out
  have c39 := cc.id; have c43 := cc.off; have c41 := cc.more; have c42 := cc.frag; have c45 := cc.d
  clear cc
  obtain ⟨n, hn⟩ : ∃ n, n = p.d.length := ⟨_, rfl⟩
  rw [← hn] at c45 HZ hdn
  clear hn
  cases hf : p.frag with
  | false =>
    have HZ2 : Hid ((z = true) = (p.id = 0 ∧ p.off = 0 ∧ p.more = false ∧ n ≤ 65535)) := by
      show _ = _
      rw [HZ.out, if_pos hf]; simp
    rw [hf] at c42
    clear HZ hf
    by_cases h1 : p.id = 0
    · rw [h1] at c39
      by_cases h2 : p.off = 0
      · rw [h2] at c43
        cases hm : p.more with
        | true =>
          rw [hm] at c41
          obtain rfl : z = false := by
            rw [Bool.eq_false_iff]; intro e
            rw [HZ2.out] at e
            rw [hm] at e; simp at e
          clear HZ2
          go_wp2_with fail
          go_ret
          exact ⟨rfl, HA.out⟩
        | false =>
          rw [hm] at c41
          by_cases h3 : n ≤ 65535
          · have x3 : decide ((n : Int) ≤ 65535) = true := by simp; omega
            obtain rfl : z = true := by rw [HZ2.out]; exact ⟨h1, h2, hm, h3⟩
            clear HZ2
            go_wp2_with fail
            go_ret
            exact ⟨rfl, HA.out⟩
          · have x3 : decide ((n : Int) ≤ 65535) = false := by simp; omega
            have x4 : ¬ ((n : Int) ≤ 65535) := by omega
            obtain rfl : z = false := by
              rw [Bool.eq_false_iff]; intro e
              rw [HZ2.out] at e
              omega
            clear HZ2
            go_wp2_with fail
            go_ret
            exact ⟨rfl, HA.out⟩
      · have x2 : (p.off == 0) = false := by simpa using h2
        have x3 : decide (p.off = 0) = false := by simpa using h2
        obtain rfl : z = false := by
          rw [Bool.eq_false_iff]; intro e
          rw [HZ2.out] at e
          exact h2 e.2.1
        clear HZ2
        go_wp2_with fail
        go_ret
        exact ⟨rfl, HA.out⟩
    · have x2 : (p.id == 0) = false := by simpa using h1
      have x3 : decide (p.id = 0) = false := by simpa using h1
      obtain rfl : z = false := by
        rw [Bool.eq_false_iff]; intro e
        rw [HZ2.out] at e
        exact h1 e.1
      clear HZ2
      go_wp2_with fail
      go_ret
      exact ⟨rfl, HA.out⟩
  | true =>
    have HZ2 : Hid ((z = true) = ((0 ≤ p.off ∧ p.off ≤ 65528 ∧ p.off % 8 = 0 ∧ (n : Int) ≤ 65535 - p.off ∧ n ≤ 65527) ∧ (p.more = true → n ≠ 0 ∧ n % 8 = 0) ∧ (0 < p.off → n ≠ 0))) := by
      show _ = _
      rw [HZ.out, if_neg (by simp [hf])]; simp
    rw [hf] at c42
    clear HZ hf
    by_cases h1 : 0 ≤ p.off
    · have x1 : decide (p.off < 0) = false := by simp; omega
      by_cases h2 : p.off ≤ 65528
      · have x2 : decide (65528 < p.off) = false := by simp; omega
        have ew : IntKind.i64.wrap (65535 - p.off) = 65535 - p.off := by rw [IntKind.wrap_i64]; omega
        by_cases h3 : p.off % 8 = 0
        · have x3 : p.off.tmod 8 = 0 := by rw [Int.tmod_eq_emod_of_nonneg h1]; exact h3
          by_cases h4 : (n : Int) ≤ 65535 - p.off
          · have x4 : decide (65535 - p.off < (n : Int)) = false := by simp; omega
            by_cases h5 : n ≤ 65527
            · have x5 : decide ((65527 : Int) < (n : Int)) = false := by simp; omega
              have x5b : ¬ ((65527 : Int) < (n : Int)) := by omega
              cases hm : p.more with
              | true =>
                rw [hm] at c41
                by_cases k1 : n = 0
                · subst k1
                  obtain rfl : z = false := by
                    rw [Bool.eq_false_iff]; intro e
                    rw [HZ2.out] at e
                    exact absurd rfl (e.2.1 hm).1
                  clear HZ2
                  go_wp2_with fail
                  go_ret
                  exact ⟨rfl, HA.out⟩
                · have y1 : ((n : Int) == 0) = false := by simpa using k1
                  have y1b : decide ((n : Int) = 0) = false := by simpa using k1
                  by_cases k2 : n % 8 = 0
                  · have y2 : (n : Int).tmod 8 = 0 := by rw [Int.tmod_eq_emod_of_nonneg (by omega)]; omega
                    have hno : n ≠ 0 := k1
                    by_cases k3 : 0 < p.off
                    · have y3 : decide (0 < p.off) = true := by simpa using k3
                      obtain rfl : z = true := by rw [HZ2.out]; exact ⟨⟨h1, h2, h3, h4, h5⟩, fun _ => ⟨k1, k2⟩, fun _ => k1⟩
                      clear HZ2
                      go_wp2_with fail
                      go_ret
                      exact ⟨rfl, HA.out⟩
                    · have y3 : decide (0 < p.off) = false := by simpa using k3
                      obtain rfl : z = true := by rw [HZ2.out]; exact ⟨⟨h1, h2, h3, h4, h5⟩, fun _ => ⟨k1, k2⟩, fun _ => k1⟩
                      clear HZ2
                      go_wp2_with fail
                      go_ret
                      exact ⟨rfl, HA.out⟩
                  · have y2 : ¬ ((n : Int).tmod 8 = 0) := by rw [Int.tmod_eq_emod_of_nonneg (by omega)]; omega
                    have y2b : ((n : Int).tmod 8 == 0) = false := by simpa using y2
                    have y2c : decide ((n : Int).tmod 8 = 0) = false := by simpa using y2
                    have y2d : ((n : Int).tmod 8 != 0) = true := by simpa using y2
                    obtain rfl : z = false := by
                      rw [Bool.eq_false_iff]; intro e
                      rw [HZ2.out] at e
                      exact k2 (e.2.1 hm).2
                    clear HZ2
                    go_wp2_with fail
                    go_ret
                    exact ⟨rfl, HA.out⟩
              | false =>
                rw [hm] at c41
                by_cases k3 : 0 < p.off
                · have y3 : decide (0 < p.off) = true := by simpa using k3
                  by_cases k1 : n = 0
                  · subst k1
                    obtain rfl : z = false := by
                      rw [Bool.eq_false_iff]; intro e
                      rw [HZ2.out] at e
                      exact absurd rfl (e.2.2 k3)
                    clear HZ2
                    go_wp2_with fail
                    go_ret
                    exact ⟨rfl, HA.out⟩
                  · have y1 : ((n : Int) == 0) = false := by simpa using k1
                    have y1b : decide ((n : Int) = 0) = false := by simpa using k1
                    obtain rfl : z = true := by rw [HZ2.out]; exact ⟨⟨h1, h2, h3, h4, h5⟩, fun e => by rw [hm] at e; simp at e, fun _ => k1⟩
                    clear HZ2
                    go_wp2_with fail
                    go_ret
                    exact ⟨rfl, HA.out⟩
                · have y3 : decide (0 < p.off) = false := by simpa using k3
                  obtain rfl : z = true := by rw [HZ2.out]; exact ⟨⟨h1, h2, h3, h4, h5⟩, fun e => by rw [hm] at e; simp at e, fun e => absurd e k3⟩
                  clear HZ2
                  go_wp2_with fail
                  go_ret
                  exact ⟨rfl, HA.out⟩
            · have x5 : decide ((65527 : Int) < (n : Int)) = true := by simp; omega
              have x5b : (65527 : Int) < (n : Int) := by omega
              obtain rfl : z = false := by
                rw [Bool.eq_false_iff]; intro e
                rw [HZ2.out] at e
                exact h5 e.1.2.2.2.2
              clear HZ2
              go_wp2_with fail
              go_ret
              exact ⟨rfl, HA.out⟩
          · have x4 : decide (65535 - p.off < (n : Int)) = true := by simp; omega
            obtain rfl : z = false := by
              rw [Bool.eq_false_iff]; intro e
              rw [HZ2.out] at e
              exact h4 e.1.2.2.2.1
            clear HZ2
            go_wp2_with fail
            go_ret
            exact ⟨rfl, HA.out⟩
        · have x3 : ¬ (p.off.tmod 8 = 0) := by rw [Int.tmod_eq_emod_of_nonneg h1]; exact h3
          have x3b : (p.off.tmod 8 == 0) = false := by simpa using x3
          have x3c : decide (p.off.tmod 8 = 0) = false := by simpa using x3
          have x3d : (p.off.tmod 8 != 0) = true := by simpa using x3
          obtain rfl : z = false := by
            rw [Bool.eq_false_iff]; intro e
            rw [HZ2.out] at e
            exact h3 e.1.2.2.1
          clear HZ2
          go_wp2_with fail
          go_ret
          exact ⟨rfl, HA.out⟩
      · have x2 : decide (65528 < p.off) = true := by simp; omega
        obtain rfl : z = false := by
          rw [Bool.eq_false_iff]; intro e
          rw [HZ2.out] at e
          exact h2 e.1.2.1
        clear HZ2
        go_wp2_with fail
        go_ret
        exact ⟨rfl, HA.out⟩
    · have x1 : decide (p.off < 0) = true := by simp; omega
      obtain rfl : z = false := by
        rw [Bool.eq_false_iff]; intro e
        rw [HZ2.out] at e
        exact h1 e.1.1
      clear HZ2
      go_wp2_with fail
      go_ret
      exact ⟨rfl, HA.out⟩
end Go.Proofs.YtbnnfbfmomafnaaDoor
