/-
  sameM and alive of the laws, IsError of icmp.
-/
import Derived.Test.YtbgpjhekohabiaaDoorBm
import Derived.Test.YtbgpjhekohabiaaDoorPm
import Derived.Test.YtbgpjhekohabiaaDoorHelp
import Derived.Lib.SlBytesConst
namespace Go.Proofs.YtbgpjhekohabiaaDoor
open Go.ChangeShapes Go.WideShapes Go.ChangeAt Go.RowKit Num
set_option linter.unusedVariables false
set_option maxHeartbeats 4000000
set_option maxRecDepth 100000

theorem Owns.slc {w : World} {v : Value} {l : List Int} (h : Owns w v l) : ∃ a c, v = .slice a l.length c ∧ (a = none → c = 0) ∧ l.length ≤ c := by
  rcases h.2 with ⟨rfl, h0⟩ | ⟨g, cap, cur, rfl, _, _, h4, _⟩
  · have : l = [] := by simpa using h0
    subst this
    exact ⟨none, 0, rfl, fun _ => rfl, by simp⟩
  · exact ⟨some ⟨g, 0, none⟩, cap, by simp, by simp, by simpa using h4⟩
/-- The same, of what can be read. -/
theorem same_sl (v u : Value) (l : List Int) (w : World) (hv : Sl w v l) (hu : Sl w u l) : Calls Tryd.prog 10 #[v, u] w fun E w' => E = .returned (.bool true) ∧ w' = w := by
  obtain ⟨a, c, rfl, h1, h2, h3⟩ := hv
  obtain ⟨b, d, rfl, k1, k2, k3⟩ := hu
  exact same_yes a b l l _ _ c d w rfl rfl h2 k2 h3 k3 rfl
theorem sameM_yes (g : Mg) (gv hv : Value) (w : World) (hg : Sl w gv g.d) (hh : Sl w hv g.d) :
    Calls Tryd.prog 17 #[.agg (csM g gv), .agg (csM g hv)] w fun E w' => E = .returned (.bool true) ∧ Away [] w w' := by
  obtain ⟨ga, gc, rfl, hg1, hg2, hg3⟩ := hg
  obtain ⟨ha, hc, rfl, hh1, hh2, hh3⟩ := hh
  have KS : Hid (∀ W, Away [] w W → Calls Tryd.prog 10 #[.slice ga g.d.length gc, .slice ha g.d.length hc] W fun E w' => E = .returned (.bool true) ∧ w' = W) := fun W h => same_yes ga ha g.d g.d _ _ gc hc W rfl rfl hg2 hh2 (hg3.on h) (hh3.on h) rfl
  clear hg3 hh3
  go_enter Tryd.func17, Tryd.ntmps17
  go_wp2_with (refine wpList_boxM rfl _ rfl g _ rfl ?_; refine Hid.out ?_)
  refine Lib.hid ?_
  intro g1 w1 hl1 hb haw
  have HA := Lib.hid haw; have HB := Lib.hid hb
  clear hb haw
  go_wp2_with (refine wpList_boxM rfl _ rfl g _ rfl ?_; refine Hid.out ?_)
  refine Lib.hid ?_
  intro g2 w2 hl2 hb haw
  replace HA := Lib.hid (HA.out.on haw); replace HB := Lib.hid (HB.out.on haw); have HC := Lib.hid hb
  clear hb haw
  have b0 := HB.out.c0; have b1 := HB.out.c1; have b2 := HB.out.c2; have b3 := HB.out.c3; have b4 := HB.out.c4
  have d0 := HC.out.c0; have d1 := HC.out.c1; have d2 := HC.out.c2; have d3 := HC.out.c3; have d4 := HC.out.c4
  have q1 : (g.v == g.v) = true := by simp
  have q2 : (g.ty == g.ty) = true := by simp
  have q3 : (g.co == g.co) = true := by simp
  have q4 : (g.re == g.re) = true := by simp
  go_wp2_with fail
  refine (KS.out _ HA.out).mono ?_
  rintro E w3 ⟨rfl, rfl⟩
  clear KS
  go_wp2_with fail
  go_ret
  exact ⟨rfl, HA.out⟩
#print axioms sameM_yes
theorem isError_c (g : Mg) (gv : Value) (w : World) : Calls Tryd.prog 22 #[.agg (csM g gv)] w fun E w' => E = .returned (.bool (errP g)) ∧ Away [] w w' := by
  obtain ⟨v, ty, co, re, d⟩ := g
  by_cases h4 : v = 4
  · subst h4
    by_cases h3 : 3 ≤ ty
    · by_cases h5 : ty ≤ 5
      · rw [show errP ⟨4, ty, co, re, d⟩ = true from by simp [errP, h3, h5]]
        go_enter Tryd.func22, Tryd.ntmps22
        go_wp2_with (refine wpList_boxM rfl _ rfl ⟨4, ty, co, re, d⟩ _ rfl ?_; refine Hid.out ?_)
        refine Lib.hid ?_
        intro g1 w1 hl1 hb haw
        have HA := Lib.hid haw
        have b0 := hb.c0; have b1 := hb.c1
        simp only at b0 b1
        clear hb haw
        go_wp2_with fail
        go_ret
        exact ⟨rfl, HA.out⟩
      · by_cases h11 : ty = 11
        · subst h11
          rw [show errP ⟨4, 11, co, re, d⟩ = true from by simp [errP]]
          go_enter Tryd.func22, Tryd.ntmps22
          go_wp2_with (refine wpList_boxM rfl _ rfl ⟨4, 11, co, re, d⟩ _ rfl ?_; refine Hid.out ?_)
          refine Lib.hid ?_
          intro g1 w1 hl1 hb haw
          have HA := Lib.hid haw
          have b0 := hb.c0; have b1 := hb.c1
          simp only at b0 b1
          clear hb haw
          go_wp2_with fail
          go_ret
          exact ⟨rfl, HA.out⟩
        · have q11 : (ty == 11) = false := by simpa using h11
          obtain ⟨z, hz⟩ : ∃ z, z = (ty == 12) := ⟨_, rfl⟩
          rw [show errP ⟨4, ty, co, re, d⟩ = z from by rw [hz]; simp [errP, h5, h11]; rfl]
          go_enter Tryd.func22, Tryd.ntmps22
          go_wp2_with (refine wpList_boxM rfl _ rfl ⟨4, ty, co, re, d⟩ _ rfl ?_; refine Hid.out ?_)
          refine Lib.hid ?_
          intro g1 w1 hl1 hb haw
          have HA := Lib.hid haw
          have b0 := hb.c0; have b1 := hb.c1
          simp only at b0 b1
          clear hb haw
          go_wp2_with fail
          go_ret
          exact ⟨ret_bool (by rw [hz, decide_eq_false (by omega)]; rfl), HA.out⟩
    · have q11 : (ty == 11) = false := by simp; omega
      have q12 : (ty == 12) = false := by simp; omega
      rw [show errP ⟨4, ty, co, re, d⟩ = false from by simp [errP, h3]; omega]
      go_enter Tryd.func22, Tryd.ntmps22
      go_wp2_with (refine wpList_boxM rfl _ rfl ⟨4, ty, co, re, d⟩ _ rfl ?_; refine Hid.out ?_)
      refine Lib.hid ?_
      intro g1 w1 hl1 hb haw
      have HA := Lib.hid haw
      have b0 := hb.c0; have b1 := hb.c1
      simp only at b0 b1
      clear hb haw
      go_wp2_with fail
      go_ret
      exact ⟨rfl, HA.out⟩
  · have q4 : (v == 4) = false := by simpa using h4
    by_cases h6 : v = 6
    · subst h6
      by_cases h0 : 0 ≤ ty
      · by_cases h7 : ty ≤ 127
        · rw [show errP ⟨6, ty, co, re, d⟩ = true from by simp [errP, h0, h7]]
          go_enter Tryd.func22, Tryd.ntmps22
          go_wp2_with (refine wpList_boxM rfl _ rfl ⟨6, ty, co, re, d⟩ _ rfl ?_; refine Hid.out ?_)
          refine Lib.hid ?_
          intro g1 w1 hl1 hb haw
          have HA := Lib.hid haw
          have b0 := hb.c0; have b1 := hb.c1
          simp only at b0 b1
          clear hb haw
          go_wp2_with fail
          go_ret
          exact ⟨rfl, HA.out⟩
        · rw [show errP ⟨6, ty, co, re, d⟩ = false from by simp [errP, h7]]
          go_enter Tryd.func22, Tryd.ntmps22
          go_wp2_with (refine wpList_boxM rfl _ rfl ⟨6, ty, co, re, d⟩ _ rfl ?_; refine Hid.out ?_)
          refine Lib.hid ?_
          intro g1 w1 hl1 hb haw
          have HA := Lib.hid haw
          have b0 := hb.c0; have b1 := hb.c1
          simp only at b0 b1
          clear hb haw
          go_wp2_with fail
          go_ret
          exact ⟨ret_bool (by simp [h7]), HA.out⟩
      · rw [show errP ⟨6, ty, co, re, d⟩ = false from by simp [errP, h0]]
        go_enter Tryd.func22, Tryd.ntmps22
        go_wp2_with (refine wpList_boxM rfl _ rfl ⟨6, ty, co, re, d⟩ _ rfl ?_; refine Hid.out ?_)
        refine Lib.hid ?_
        intro g1 w1 hl1 hb haw
        have HA := Lib.hid haw
        have b0 := hb.c0; have b1 := hb.c1
        simp only at b0 b1
        clear hb haw
        go_wp2_with fail
        go_ret
        exact ⟨rfl, HA.out⟩
    · have q6 : (v == 6) = false := by simpa using h6
      rw [show errP ⟨v, ty, co, re, d⟩ = false from by simp [errP, h4, h6]]
      go_enter Tryd.func22, Tryd.ntmps22
      go_wp2_with (refine wpList_boxM rfl _ rfl ⟨v, ty, co, re, d⟩ _ rfl ?_; refine Hid.out ?_)
      refine Lib.hid ?_
      intro g1 w1 hl1 hb haw
      have HA := Lib.hid haw
      have b0 := hb.c0; have b1 := hb.c1
      simp only at b0 b1
      clear hb haw
      go_wp2_with fail
      go_ret
      exact ⟨rfl, HA.out⟩
#print axioms isError_c
def kA : Ax := ⟨4, [10, 0, 0, 1, 0, 0, 0, 0, 0, 0, 0, 0, 0, 0, 0, 0]⟩
def kM : Mg := ⟨4, 8, 0, 65538, [97, 98]⟩
def kE : Mg := ⟨6, 2, 0, 0, []⟩
def kW : List Int := [8, 0, 150, 154, 0, 1, 0, 2, 97, 98]
theorem bytes_of {l : List Int} (h : l.all (fun x => decide (0 ≤ x) && decide (x ≤ 255)) = true) : Bytes l := fun n hn => by
  have := List.all_eq_true.1 h n hn
  simpa using this
theorem kA_wf : WfA kA := ⟨⟨by decide, by decide⟩, rfl, bytes_of (by decide)⟩
theorem kM_wf : WfM kM := ⟨⟨by decide, by decide⟩, ⟨by decide, by decide⟩, ⟨by decide, by decide⟩, by decide, by decide, bytes_of (by decide), by decide⟩
theorem kW_bytes : Bytes kW := bytes_of (by decide)
theorem kM_fit : FitM kA kM := ⟨rfl, by decide, by decide, by decide, by decide, by decide, by decide, by decide, kM_wf.d⟩
theorem k_lay : mlayP kA kA kM = kW := by decide +kernel
theorem k_build : mbuildP kA kA kM = (kW, 0) := by rw [mbuild_ok (by decide) kM_fit, k_lay]
theorem k_parse : mparseP kA kA kW = (kM, 0) := by
  have h := mparse_lay (s := kA) (t := kA) (m := kM) (by decide) kM_fit
  rwa [k_lay] at h
theorem Row.litM (w : World) (m : List Int) (fr : Nat × Nat) (hm : Bytes m) (hl : m.length ≤ 140737488355328) : Row (w.alloc (.cells (m.map (Value.int .u8)).toArray 5 fr)) (some ⟨w.heap.size, 0, none⟩) m := by
  refine ⟨hl, hm, .inr ⟨w.heap.size, 0, rfl, fun i hi => ?_⟩⟩
  rw [World.cell?_alloc_mark]
  simp [hi]
theorem under5 : Tryd.prog.underlying 5 = some (.int .u8) := by kernel_rfl
theorem alive_c (w : World) : Calls Tryd.prog 5 #[] w fun E w' => E = .returned (.bool true) ∧ Away [] w w' := by
  have HA : Hid (Away [] w w) := Away.refl _ _
  go_enter Tryd.func5, Tryd.ntmps5
  go_wp2_with (refine wpList_newX rfl rfl rfl _ _ rfl kA (fun _ => rfl) (fun _ => rfl) rfl ?_; refine Hid.out ?_)
  refine Lib.hid ?_
  intro g1 w1 hg1 hb haw
  replace HA := Lib.hid (HA.out.on haw); have HB := Lib.hid hb
  clear hb haw
  have haw := (Away.refl [] w1).alloc (.cells #[.int .u8 97, .int .u8 98] 5 (2, 3))
  have HR : Hid (Row (w1.alloc (.cells #[.int .u8 97, .int .u8 98] 5 (2, 3))) (some ⟨w1.heap.size, 0, none⟩) kM.d) := Row.litM w1 kM.d (2, 3) kM_wf.d (by decide)
  have kc : (convert 23 23 (.slice (some ⟨w1.heap.size, 0, none⟩) 2 2)).run Tryd.prog (w1.alloc (.cells #[.int .u8 97, .int .u8 98] 5)) = .ok (.slice (some ⟨w1.heap.size, 0, none⟩) 2 2) (w1.alloc (.cells #[.int .u8 97, .int .u8 98] 5 (2, 3))) := Lib.run_convert_bytes_const (P := Tryd.prog) w1 23 5 #[.int .u8 97, .int .u8 98] 2 2 Tryd.underlying23 under5
  replace HA := Lib.hid (HA.out.on haw); replace HB := Lib.hid (HB.out.on haw)
  clear haw
  go_wp2_with (refine wpList_newM rfl rfl rfl _ _ rfl kM (.slice (some ⟨w1.heap.size, 0, none⟩) 2 2) (fun _ => rfl) (fun _ => rfl) rfl ?_; refine Hid.out ?_)
  refine Lib.hid ?_
  clear kc
  intro g2 w2 hg2 hb haw
  replace HA := Lib.hid (HA.out.on haw); replace HB := Lib.hid (HB.out.on haw); replace HR := Lib.hid (HR.out.on haw); have HM := Lib.hid hb
  generalize w1.heap.size = s1 at *
  clear hb haw
  have haw := (Away.refl [] w2).alloc (.cells ((kW.map (Value.int .u8)).toArray) 5)
  have HW := Lib.hid (Row.lit w2 kW kW_bytes (by decide))
  replace HA := Lib.hid (HA.out.on haw); replace HB := Lib.hid (HB.out.on haw); replace HR := Lib.hid (HR.out.on haw); replace HM := Lib.hid (HM.out.on haw)
  clear haw
  go_upto_region 4 with fail
  have hs3 : w2.heap.size < (w2.alloc (.cells ((kW.map (Value.int .u8)).toArray) 5)).heap.size := by simp
  have e3 : w2.alloc (.cells ((kW.map (Value.int .u8)).toArray) 5) = w2.alloc (.cells #[.int .u8 8, .int .u8 0, .int .u8 150, .int .u8 154, .int .u8 0, .int .u8 1, .int .u8 0, .int .u8 2, .int .u8 97, .int .u8 98] 5) := rfl
  rw [e3] at HA HB HR HM HW hs3
  clear e3
  generalize w2.alloc (.cells #[.int .u8 8, .int .u8 0, .int .u8 150, .int .u8 154, .int .u8 0, .int .u8 1, .int .u8 0, .int .u8 2, .int .u8 97, .int .u8 98] 5) = w3 at *
  generalize w2.heap.size = s2 at *
  go_wp2_with (first | (refine wpList_loadX rfl _ rfl g1 rfl kA (by exact HB.out) kA_wf ?_) | (refine wpList_loadM rfl _ rfl g2 rfl kM (.slice (some ⟨s1, 0, none⟩) 2 2) (by exact HM.out) ?_))
  refine (mbuild_c kA kA kM (.slice (some ⟨s1, 0, none⟩) 2 2) _ kA_wf kA_wf ⟨kM_wf, ⟨_, _, rfl, by decide, by simp, by exact HR.out⟩⟩).mono ?_
  rw [k_build]
  rintro E w4 ⟨bv, rfl, hown, hnew, haw⟩
  replace HA := Lib.hid (HA.out.on haw); replace HB := Lib.hid (HB.out.on haw); replace HR := Lib.hid (HR.out.on haw); replace HM := Lib.hid (HM.out.on haw); replace HW := Lib.hid (HW.out.on haw)
  have HO := Lib.hid hown
  obtain ⟨ba, bc, rfl, hbn, hbc⟩ := hown.slc
  clear hown hnew haw
  go_wp2_with (first | (refine wpList_loadX rfl _ rfl g1 rfl kA (by exact HB.out) kA_wf ?_))
  refine (mparse_c kA kA (some ⟨s2, 0, none⟩) kW 10 _ kA_wf kA_wf (by exact HW.out) (by simp)).mono ?_
  rw [k_parse]
  rintro E w5 ⟨dv, rfl, hown, hnew, haw⟩
  replace HA := Lib.hid (HA.out.on haw); replace HR := Lib.hid (HR.out.on haw); replace HM := Lib.hid (HM.out.on haw); replace HW := Lib.hid (HW.out.on haw); replace HO := Lib.hid (HO.out.on haw)
  have HD := Lib.hid hown
  obtain ⟨da, dc, rfl, hdn, hdc⟩ := hown.slc
  clear hown hnew haw HB
  go_wp2_with (refine wpList_newM rfl rfl rfl _ _ rfl kM (.slice da kM.d.length dc) (fun _ => rfl) (fun _ => rfl) rfl ?_; refine Hid.out ?_)
  refine Lib.hid ?_
  intro g6 w6 hg6 hb haw
  replace HA := Lib.hid (HA.out.on haw); replace HR := Lib.hid (HR.out.on haw); replace HM := Lib.hid (HM.out.on haw); replace HW := Lib.hid (HW.out.on haw); replace HO := Lib.hid (HO.out.on haw); replace HD := Lib.hid (HD.out.on haw); have HN := Lib.hid hb
  clear hb haw
  go_wp2_with fail
  refine (same_sl _ _ kW _ (by exact HO.out.sl kW_bytes (by decide)) (by exact ⟨_, _, rfl, by decide, by simp, HW.out⟩)).mono ?_
  rintro E w6 ⟨rfl, rfl⟩
  go_wp2_with (first | (refine wpList_loadM rfl _ rfl g2 rfl kM (.slice (some ⟨s1, 0, none⟩) 2 2) (by exact HM.out) ?_) | (refine wpList_loadM rfl _ rfl g6 rfl kM (.slice da kM.d.length dc) (by exact HN.out) ?_))
  refine (sameM_yes kM _ _ _ (by exact ⟨_, _, rfl, by decide, by simp, HR.out⟩) (by exact HD.out.sl kM_wf.d (by decide))).mono ?_
  rintro E w7 ⟨rfl, haw⟩
  replace HA := Lib.hid (HA.out.on haw); replace HM := Lib.hid (HM.out.on haw)
  clear haw HN HD HR HW HO
  go_wp2_with (first | (refine wpList_loadM rfl _ rfl g2 rfl kM (.slice (some ⟨s1, 0, none⟩) 2 2) (by exact HM.out) ?_))
  refine (isError_c kM _ _).mono ?_
  rw [show errP kM = false from by decide]
  rintro E w8 ⟨rfl, haw⟩
  replace HA := Lib.hid (HA.out.on haw)
  clear haw HM
  go_wp2_with fail
  refine (isError_c kE (.slice none 0 0) _).mono ?_
  rw [show errP kE = true from by decide]
  rintro E w9 ⟨rfl, haw⟩
  replace HA := Lib.hid (HA.out.on haw)
  clear haw
  go_wp2_with fail
  go_ret
  exact ⟨rfl, HA.out⟩
#print axioms alive_c
end Go.Proofs.YtbgpjhekohabiaaDoor
