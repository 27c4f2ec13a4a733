/-
  Build of icmp.
-/
import Derived.Test.YtbgpjhekohabiaaDoorCk
namespace Go.Proofs.YtbgpjhekohabiaaDoor
open Go.ChangeShapes Go.WideShapes Go.ChangeAt Go.RowKit Num
set_option linter.unusedVariables false
set_option maxHeartbeats 4000000
set_option maxRecDepth 100000

/-- What Build tells. -/
def MBuildOut (w : World) (r : List Int × Int) (E : Ending) (w' : World) : Prop :=
  ∃ v, E = .returned (.tuple #[v, .int .i64 r.2]) ∧ Owns w' v r.1 ∧ New w.heap.size v ∧ Away [] w w'
theorem MBuildOut.no {w w' : World} (c : Int) (h : Away [] w w') : MBuildOut w ([], c) (.returned (.tuple #[.slice none 0 0, .int .i64 c])) w' := ⟨_, rfl, Owns.nil _, New.nil _, h⟩
theorem build_no1 (s t : Ax) (g : Mg) (dv : Value) (w : World) (hs : WfA s) (ht : WfA t) (hg : Dam w g dv) (hz : pairP s t = false) :
    Calls Tryd.prog 13 #[.agg (csA s.v s.l), .agg (csA t.v t.l), .agg (csM g dv)] w fun E w' => MBuildOut w ([], 1) E w' := by
  have K1 : Hid (∀ w, Calls Tryd.prog 27 #[.agg (csA s.v s.l), .agg (csA t.v t.l)] w fun e w' => e = .returned (.bool false) ∧ Away [] w w') := fun w => by rw [← hz]; exact pair_c s t w hs ht
  have HS := Lib.hid hs
  have HT := Lib.hid ht
  have HG := Lib.hid hg
  clear hs ht hg hz
  go_enter Tryd.func13, Tryd.ntmps13
  go_wp2_with (refine wpList_boxX rfl _ rfl s rfl ?_; refine Hid.out ?_)
  refine Lib.hid ?_
  intro g1 w1 hg1 hb haw
  have HA := Lib.hid haw; have HB := Lib.hid hb
  clear hb haw
  go_wp2_with (refine wpList_boxX rfl _ rfl t rfl ?_; refine Hid.out ?_)
  refine Lib.hid ?_
  intro g2 w2 hg2 hb haw
  replace HA := Lib.hid (HA.out.on haw); replace HB := Lib.hid (HB.out.on haw); have HC := Lib.hid hb
  clear hb haw
  go_wp2_with (refine wpList_boxM rfl _ rfl g dv rfl ?_; refine Hid.out ?_)
  refine Lib.hid ?_
  intro g3 w3 hg3 hb haw
  replace HA := Lib.hid (HA.out.on haw); replace HB := Lib.hid (HB.out.on haw); replace HC := Lib.hid (HC.out.on haw); have HD := Lib.hid hb
  clear hb haw
  go_wp2_with (first | (refine wpList_loadX rfl _ rfl g1 rfl s (by exact HB.out) HS.out ?_) | (refine wpList_loadX rfl _ rfl g2 rfl t (by exact HC.out) HT.out ?_))
  refine (K1.out _).mono ?_
  rintro E w4 ⟨rfl, haw⟩
  replace HA := Lib.hid (HA.out.on haw); replace HB := Lib.hid (HB.out.on haw); replace HC := Lib.hid (HC.out.on haw); replace HD := Lib.hid (HD.out.on haw)
  have hl1 := HB.out.lt; have hl2 := HC.out.lt; have hl3 := HD.out.lt
  clear haw K1
  have c0 := HD.out.c0; have c1 := HD.out.c1; have c2 := HD.out.c2; have c3 := HD.out.c3; have c4 := HD.out.c4; have cv := HB.out.cell
  go_wp2_with fail
  go_ret2
  exact MBuildOut.no 1 HA.out
theorem build_no2 (s t : Ax) (g : Mg) (dv : Value) (w : World) (hs : WfA s) (ht : WfA t) (hg : Dam w g dv) (hz : pairP s t = true) (hv : g.v ≠ s.v) :
    Calls Tryd.prog 13 #[.agg (csA s.v s.l), .agg (csA t.v t.l), .agg (csM g dv)] w fun E w' => MBuildOut w ([], 1) E w' := by
  have K1 : Hid (∀ w, Calls Tryd.prog 27 #[.agg (csA s.v s.l), .agg (csA t.v t.l)] w fun e w' => e = .returned (.bool true) ∧ Away [] w w') := fun w => by rw [← hz]; exact pair_c s t w hs ht
  have HS := Lib.hid hs
  have HT := Lib.hid ht
  have HG := Lib.hid hg
  have hve : (g.v != s.v) = true := by simpa using hv
  have HV := Lib.hid hv
  clear hv
  clear hs ht hg hz
  go_enter Tryd.func13, Tryd.ntmps13
  go_wp2_with (refine wpList_boxX rfl _ rfl s rfl ?_; refine Hid.out ?_)
  refine Lib.hid ?_
  intro g1 w1 hg1 hb haw
  have HA := Lib.hid haw; have HB := Lib.hid hb
  clear hb haw
  go_wp2_with (refine wpList_boxX rfl _ rfl t rfl ?_; refine Hid.out ?_)
  refine Lib.hid ?_
  intro g2 w2 hg2 hb haw
  replace HA := Lib.hid (HA.out.on haw); replace HB := Lib.hid (HB.out.on haw); have HC := Lib.hid hb
  clear hb haw
  go_wp2_with (refine wpList_boxM rfl _ rfl g dv rfl ?_; refine Hid.out ?_)
  refine Lib.hid ?_
  intro g3 w3 hg3 hb haw
  replace HA := Lib.hid (HA.out.on haw); replace HB := Lib.hid (HB.out.on haw); replace HC := Lib.hid (HC.out.on haw); have HD := Lib.hid hb
  clear hb haw
  go_wp2_with (first | (refine wpList_loadX rfl _ rfl g1 rfl s (by exact HB.out) HS.out ?_) | (refine wpList_loadX rfl _ rfl g2 rfl t (by exact HC.out) HT.out ?_))
  refine (K1.out _).mono ?_
  rintro E w4 ⟨rfl, haw⟩
  replace HA := Lib.hid (HA.out.on haw); replace HB := Lib.hid (HB.out.on haw); replace HC := Lib.hid (HC.out.on haw); replace HD := Lib.hid (HD.out.on haw)
  have hl1 := HB.out.lt; have hl2 := HC.out.lt; have hl3 := HD.out.lt
  clear haw K1
  have c0 := HD.out.c0; have c1 := HD.out.c1; have c2 := HD.out.c2; have c3 := HD.out.c3; have c4 := HD.out.c4; have cv := HB.out.cell
  go_wp2_with fail
  go_ret2
  exact MBuildOut.no 1 HA.out
theorem build_no3 (s t : Ax) (g : Mg) (dv : Value) (w : World) (hs : WfA s) (ht : WfA t) (hg : Dam w g dv) (hz : pairP s t = true) (hv : g.v = s.v) (h2 : octP g.ty = false) :
    Calls Tryd.prog 13 #[.agg (csA s.v s.l), .agg (csA t.v t.l), .agg (csM g dv)] w fun E w' => MBuildOut w ([], 1) E w' := by
  have K1 : Hid (∀ w, Calls Tryd.prog 27 #[.agg (csA s.v s.l), .agg (csA t.v t.l)] w fun e w' => e = .returned (.bool true) ∧ Away [] w w') := fun w => by rw [← hz]; exact pair_c s t w hs ht
  have HS := Lib.hid hs
  have HT := Lib.hid ht
  have HG := Lib.hid hg
  have hve : (g.v != s.v) = false := by simpa using hv
  have HV := Lib.hid hv
  have K2 : Hid (∀ w, Calls Tryd.prog 28 #[.int .i64 g.ty] w fun e w' => e = .returned (.bool false) ∧ w' = w) := fun w => by rw [← h2]; exact moctet_c g.ty w
  clear hv h2
  clear hs ht hg hz
  go_enter Tryd.func13, Tryd.ntmps13
  go_wp2_with (refine wpList_boxX rfl _ rfl s rfl ?_; refine Hid.out ?_)
  refine Lib.hid ?_
  intro g1 w1 hg1 hb haw
  have HA := Lib.hid haw; have HB := Lib.hid hb
  clear hb haw
  go_wp2_with (refine wpList_boxX rfl _ rfl t rfl ?_; refine Hid.out ?_)
  refine Lib.hid ?_
  intro g2 w2 hg2 hb haw
  replace HA := Lib.hid (HA.out.on haw); replace HB := Lib.hid (HB.out.on haw); have HC := Lib.hid hb
  clear hb haw
  go_wp2_with (refine wpList_boxM rfl _ rfl g dv rfl ?_; refine Hid.out ?_)
  refine Lib.hid ?_
  intro g3 w3 hg3 hb haw
  replace HA := Lib.hid (HA.out.on haw); replace HB := Lib.hid (HB.out.on haw); replace HC := Lib.hid (HC.out.on haw); have HD := Lib.hid hb
  clear hb haw
  go_wp2_with (first | (refine wpList_loadX rfl _ rfl g1 rfl s (by exact HB.out) HS.out ?_) | (refine wpList_loadX rfl _ rfl g2 rfl t (by exact HC.out) HT.out ?_))
  refine (K1.out _).mono ?_
  rintro E w4 ⟨rfl, haw⟩
  replace HA := Lib.hid (HA.out.on haw); replace HB := Lib.hid (HB.out.on haw); replace HC := Lib.hid (HC.out.on haw); replace HD := Lib.hid (HD.out.on haw)
  have hl1 := HB.out.lt; have hl2 := HC.out.lt; have hl3 := HD.out.lt
  clear haw K1
  have c0 := HD.out.c0; have c1 := HD.out.c1; have c2 := HD.out.c2; have c3 := HD.out.c3; have c4 := HD.out.c4; have cv := HB.out.cell
  go_wp2_with fail
  refine (K2.out _).mono ?_
  rintro E w4 ⟨rfl, rfl⟩
  clear K2
  go_wp2_with fail
  go_ret2
  exact MBuildOut.no 1 HA.out
theorem build_no4 (s t : Ax) (g : Mg) (dv : Value) (w : World) (hs : WfA s) (ht : WfA t) (hg : Dam w g dv) (hz : pairP s t = true) (hv : g.v = s.v) (h2 : octP g.ty = true) (h3 : octP g.co = false) :
    Calls Tryd.prog 13 #[.agg (csA s.v s.l), .agg (csA t.v t.l), .agg (csM g dv)] w fun E w' => MBuildOut w ([], 1) E w' := by
  have K1 : Hid (∀ w, Calls Tryd.prog 27 #[.agg (csA s.v s.l), .agg (csA t.v t.l)] w fun e w' => e = .returned (.bool true) ∧ Away [] w w') := fun w => by rw [← hz]; exact pair_c s t w hs ht
  have HS := Lib.hid hs
  have HT := Lib.hid ht
  have HG := Lib.hid hg
  have hve : (g.v != s.v) = false := by simpa using hv
  have HV := Lib.hid hv
  have K2 : Hid (∀ w, Calls Tryd.prog 28 #[.int .i64 g.ty] w fun e w' => e = .returned (.bool true) ∧ w' = w) := fun w => by rw [← h2]; exact moctet_c g.ty w
  have K3 : Hid (∀ w, Calls Tryd.prog 28 #[.int .i64 g.co] w fun e w' => e = .returned (.bool false) ∧ w' = w) := fun w => by rw [← h3]; exact moctet_c g.co w
  clear hv h2 h3
  clear hs ht hg hz
  go_enter Tryd.func13, Tryd.ntmps13
  go_wp2_with (refine wpList_boxX rfl _ rfl s rfl ?_; refine Hid.out ?_)
  refine Lib.hid ?_
  intro g1 w1 hg1 hb haw
  have HA := Lib.hid haw; have HB := Lib.hid hb
  clear hb haw
  go_wp2_with (refine wpList_boxX rfl _ rfl t rfl ?_; refine Hid.out ?_)
  refine Lib.hid ?_
  intro g2 w2 hg2 hb haw
  replace HA := Lib.hid (HA.out.on haw); replace HB := Lib.hid (HB.out.on haw); have HC := Lib.hid hb
  clear hb haw
  go_wp2_with (refine wpList_boxM rfl _ rfl g dv rfl ?_; refine Hid.out ?_)
  refine Lib.hid ?_
  intro g3 w3 hg3 hb haw
  replace HA := Lib.hid (HA.out.on haw); replace HB := Lib.hid (HB.out.on haw); replace HC := Lib.hid (HC.out.on haw); have HD := Lib.hid hb
  clear hb haw
  go_wp2_with (first | (refine wpList_loadX rfl _ rfl g1 rfl s (by exact HB.out) HS.out ?_) | (refine wpList_loadX rfl _ rfl g2 rfl t (by exact HC.out) HT.out ?_))
  refine (K1.out _).mono ?_
  rintro E w4 ⟨rfl, haw⟩
  replace HA := Lib.hid (HA.out.on haw); replace HB := Lib.hid (HB.out.on haw); replace HC := Lib.hid (HC.out.on haw); replace HD := Lib.hid (HD.out.on haw)
  have hl1 := HB.out.lt; have hl2 := HC.out.lt; have hl3 := HD.out.lt
  clear haw K1
  have c0 := HD.out.c0; have c1 := HD.out.c1; have c2 := HD.out.c2; have c3 := HD.out.c3; have c4 := HD.out.c4; have cv := HB.out.cell
  go_wp2_with fail
  refine (K2.out _).mono ?_
  rintro E w4 ⟨rfl, rfl⟩
  clear K2
  go_wp2_with fail
  refine (K3.out _).mono ?_
  rintro E w4 ⟨rfl, rfl⟩
  clear K3
  go_wp2_with fail
  go_ret2
  exact MBuildOut.no 1 HA.out
theorem build_long (s t : Ax) (g : Mg) (dv : Value) (w : World) (hs : WfA s) (ht : WfA t) (hg : Dam w g dv) (hz : pairP s t = true) (hv : g.v = s.v) (h2 : octP g.ty = true) (h3 : octP g.co = true) (hr : mostP g.v - 8 < g.d.length) :
    Calls Tryd.prog 13 #[.agg (csA s.v s.l), .agg (csA t.v t.l), .agg (csM g dv)] w fun E w' => MBuildOut w ([], 3) E w' := by
  have K1 : Hid (∀ w, Calls Tryd.prog 27 #[.agg (csA s.v s.l), .agg (csA t.v t.l)] w fun e w' => e = .returned (.bool true) ∧ Away [] w w') := fun w => by rw [← hz]; exact pair_c s t w hs ht
  have HS := Lib.hid hs
  have HT := Lib.hid ht
  have HG := Lib.hid hg
  have hve : (g.v != s.v) = false := by simpa using hv
  have HV := Lib.hid hv
  have K2 : Hid (∀ w, Calls Tryd.prog 28 #[.int .i64 g.ty] w fun e w' => e = .returned (.bool true) ∧ w' = w) := fun w => by rw [← h2]; exact moctet_c g.ty w
  have K3 : Hid (∀ w, Calls Tryd.prog 28 #[.int .i64 g.co] w fun e w' => e = .returned (.bool true) ∧ w' = w) := fun w => by rw [← h3]; exact moctet_c g.co w
  obtain ⟨sp0, sp1⟩ := oct_iff.1 h2
  obtain ⟨dp0, dp1⟩ := oct_iff.1 h3
  have re0 := hg.wf.re0; have re1 := hg.wf.re1
  clear hv h2 h3
  clear hs ht hg hz
  go_enter Tryd.func13, Tryd.ntmps13
  go_wp2_with (refine wpList_boxX rfl _ rfl s rfl ?_; refine Hid.out ?_)
  refine Lib.hid ?_
  intro g1 w1 hg1 hb haw
  have HA := Lib.hid haw; have HB := Lib.hid hb
  clear hb haw
  go_wp2_with (refine wpList_boxX rfl _ rfl t rfl ?_; refine Hid.out ?_)
  refine Lib.hid ?_
  intro g2 w2 hg2 hb haw
  replace HA := Lib.hid (HA.out.on haw); replace HB := Lib.hid (HB.out.on haw); have HC := Lib.hid hb
  clear hb haw
  go_wp2_with (refine wpList_boxM rfl _ rfl g dv rfl ?_; refine Hid.out ?_)
  refine Lib.hid ?_
  intro g3 w3 hg3 hb haw
  replace HA := Lib.hid (HA.out.on haw); replace HB := Lib.hid (HB.out.on haw); replace HC := Lib.hid (HC.out.on haw); have HD := Lib.hid hb
  clear hb haw
  go_wp2_with (first | (refine wpList_loadX rfl _ rfl g1 rfl s (by exact HB.out) HS.out ?_) | (refine wpList_loadX rfl _ rfl g2 rfl t (by exact HC.out) HT.out ?_))
  refine (K1.out _).mono ?_
  rintro E w4 ⟨rfl, haw⟩
  replace HA := Lib.hid (HA.out.on haw); replace HB := Lib.hid (HB.out.on haw); replace HC := Lib.hid (HC.out.on haw); replace HD := Lib.hid (HD.out.on haw)
  have hl1 := HB.out.lt; have hl2 := HC.out.lt; have hl3 := HD.out.lt
  clear haw K1
  have c0 := HD.out.c0; have c1 := HD.out.c1; have c2 := HD.out.c2; have c3 := HD.out.c3; have c4 := HD.out.c4; have cv := HB.out.cell
  go_wp2_with fail
  refine (K2.out _).mono ?_
  rintro E w4 ⟨rfl, rfl⟩
  clear K2
  go_wp2_with fail
  refine (K3.out _).mono ?_
  rintro E w4 ⟨rfl, rfl⟩
  clear K3
  obtain ⟨da, dcap, hdv, hdc⟩ : ∃ a c, dv = .slice a g.d.length c ∧ g.d.length ≤ c := by obtain ⟨a, c, h, h2, _⟩ := HG.out.d; exact ⟨a, c, h, h2⟩
  subst hdv
  have hdl := HG.out.wf.dn
  go_upto_region 3 with fail
  have HCL : Hid (Away [] w w4.drew ∧ BoxX w4.drew g1 s ∧ BoxX w4.drew g2 t ∧ BoxM w4.drew g3 g (.slice da g.d.length dcap)) := ⟨HA.out.drew, HB.out, HC.out, HD.out⟩
  obtain ⟨rm0, rm1⟩ := most_bd g.v
  have KR : Hid (∀ W, (Away [] w W ∧ BoxX W g1 s ∧ BoxX W g2 t ∧ BoxM W g3 g (.slice da g.d.length dcap)) → Calls Tryd.prog 29 #[.int .i64 g.v] W fun e w' => e = .returned (.int .i64 (mostP g.v)) ∧ (Away [] w w' ∧ BoxX w' g1 s ∧ BoxX w' g2 t ∧ BoxM w' g3 g (.slice da g.d.length dcap))) :=
    fun W h => (most_c g.v W).mono fun e w' k => ⟨k.1, by rw [k.2]; exact h⟩
  generalize mostP g.v = rm at *
  refine wp_region_cls (C := fun w' => Away [] w w' ∧ BoxX w' g1 s ∧ BoxX w' g2 t ∧ BoxM w' g3 g (.slice da g.d.length dcap)) (by kernel_rfl) (by kernel_rfl) HCL.out ?_
  go_big_quiet_want; (refine quiet_val ?_ ?_ ?_; rotate_left; (intro w; go_simp; rfl); go_simp; go_big_quiet_on)
  go_big_quiet_want; refine quiet_ld _ rfl (ad := ⟨g3, 4, none⟩) rfl (fun w' h => ldB h.2.2.2.c4) ?_; go_simp; go_big_quiet_on
  go_big_quiet_want; (refine quiet_val ?_ ?_ ?_; rotate_left; (intro w; go_simp; rfl); go_simp; go_big_quiet_on)
  go_big_quiet_want; (refine quiet_val ?_ ?_ ?_; rotate_left; (intro w; go_simp; rfl); go_simp; go_big_quiet_on)
  go_big_quiet_want; refine quiet_ld _ rfl (ad := ⟨g3, 0, none⟩) rfl (fun w' h => ld3 h.2.2.2.c0) ?_; go_simp; go_big_quiet_on
  go_big_quiet_want; refine quiet_call 29 #[.int .i64 g.v] (.int .i64 rm) ?_ KR.out ?_
  · intro w; go_simp; done
  go_simp; go_big_quiet_on
  go_big_quiet_want; (refine quiet_val ?_ ?_ ?_; rotate_left; (intro w; go_simp; rfl); go_simp; go_big_quiet_on)
  go_big_quiet_want; (refine quiet_val ?_ ?_ ?_; rotate_left; (intro w; go_simp; rfl); go_simp; go_big_quiet_on)
  refine wpQuiet_nil ?_
  intro V hV
  rw [show IntKind.i64.wrap (rm - 8) = rm - 8 from IntWalk.i64_in _ ⟨by omega, by omega⟩]
  replace HA := Lib.hid hV.1; replace HB := Lib.hid hV.2.1; replace HC := Lib.hid hV.2.2.1; replace HD := Lib.hid hV.2.2.2
  clear hV KR HCL c0 c1 c2 c3 c4 cv hl1 hl2 hl3
  have hl1 := HB.out.lt; have hl2 := HC.out.lt; have hl3 := HD.out.lt
  have c0 := HD.out.c0; have c1 := HD.out.c1; have c2 := HD.out.c2; have c3 := HD.out.c3; have c4 := HD.out.c4; have cv := HB.out.cell
  go_wp2_with fail
  go_ret2
  exact MBuildOut.no 3 HA.out
theorem build_yes (s t : Ax) (g : Mg) (dv : Value) (w : World) (hs : WfA s) (ht : WfA t) (hg : Dam w g dv) (hz : pairP s t = true) (hv : g.v = s.v) (h2 : octP g.ty = true) (h3 : octP g.co = true) (hr : (g.d.length : Int) ≤ mostP g.v - 8) :
    Calls Tryd.prog 13 #[.agg (csA s.v s.l), .agg (csA t.v t.l), .agg (csM g dv)] w fun E w' => MBuildOut w (mlayP s t g, 0) E w' := by
  have K1 : Hid (∀ w, Calls Tryd.prog 27 #[.agg (csA s.v s.l), .agg (csA t.v t.l)] w fun e w' => e = .returned (.bool true) ∧ Away [] w w') := fun w => by rw [← hz]; exact pair_c s t w hs ht
  have HS := Lib.hid hs
  have HT := Lib.hid ht
  have HG := Lib.hid hg
  have HF : Hid (FitM s g) := ⟨hv, (oct_iff.1 h2).1, (oct_iff.1 h2).2, (oct_iff.1 h3).1, (oct_iff.1 h3).2, hg.wf.re0, hg.wf.re1, by rw [← hv]; exact hr, hg.wf.d⟩
  have hrl0 := mraw_len g
  have hrm0 := most_bd g.v
  obtain ⟨x, hx⟩ : ∃ x, x = mckP s t (mrawP g) := ⟨_, rfl⟩
  obtain ⟨x0, x1⟩ := mck_bd hs ht (mraw_bytes HF.out) (by omega)
  have KC : Hid (∀ W a cap n, Row W a (mrawP g) → (a = none → cap = 0) → n = (mrawP g).length → Calls Tryd.prog 37 #[.agg (csA s.v s.l), .agg (csA t.v t.l), .slice a n cap] W fun E w' => E = .returned (.int .u16 x) ∧ Away [] W w') := fun W a cap n h1 h2 h3 => by subst h3; rw [hx]; exact checksum_c s t a (mrawP g) cap W hs ht hz h1 h2 (by omega) (by omega)
  rw [← hx] at x0 x1
  have HX := Lib.hid hx
  clear hx hrm0 hrl0
  have hve : (g.v != s.v) = false := by simpa using hv
  have HV := Lib.hid hv
  have K2 : Hid (∀ w, Calls Tryd.prog 28 #[.int .i64 g.ty] w fun e w' => e = .returned (.bool true) ∧ w' = w) := fun w => by rw [← h2]; exact moctet_c g.ty w
  have K3 : Hid (∀ w, Calls Tryd.prog 28 #[.int .i64 g.co] w fun e w' => e = .returned (.bool true) ∧ w' = w) := fun w => by rw [← h3]; exact moctet_c g.co w
  obtain ⟨sp0, sp1⟩ := oct_iff.1 h2
  obtain ⟨dp0, dp1⟩ := oct_iff.1 h3
  have re0 := hg.wf.re0; have re1 := hg.wf.re1
  clear hv h2 h3
  clear hs ht hg hz
  go_enter Tryd.func13, Tryd.ntmps13
  go_wp2_with (refine wpList_boxX rfl _ rfl s rfl ?_; refine Hid.out ?_)
  refine Lib.hid ?_
  intro g1 w1 hg1 hb haw
  have HA := Lib.hid haw; have HB := Lib.hid hb
  clear hb haw
  go_wp2_with (refine wpList_boxX rfl _ rfl t rfl ?_; refine Hid.out ?_)
  refine Lib.hid ?_
  intro g2 w2 hg2 hb haw
  replace HA := Lib.hid (HA.out.on haw); replace HB := Lib.hid (HB.out.on haw); have HC := Lib.hid hb
  clear hb haw
  go_wp2_with (refine wpList_boxM rfl _ rfl g dv rfl ?_; refine Hid.out ?_)
  refine Lib.hid ?_
  intro g3 w3 hg3 hb haw
  replace HA := Lib.hid (HA.out.on haw); replace HB := Lib.hid (HB.out.on haw); replace HC := Lib.hid (HC.out.on haw); have HD := Lib.hid hb
  clear hb haw
  go_wp2_with (first | (refine wpList_loadX rfl _ rfl g1 rfl s (by exact HB.out) HS.out ?_) | (refine wpList_loadX rfl _ rfl g2 rfl t (by exact HC.out) HT.out ?_))
  refine (K1.out _).mono ?_
  rintro E w4 ⟨rfl, haw⟩
  replace HA := Lib.hid (HA.out.on haw); replace HB := Lib.hid (HB.out.on haw); replace HC := Lib.hid (HC.out.on haw); replace HD := Lib.hid (HD.out.on haw)
  have hl1 := HB.out.lt; have hl2 := HC.out.lt; have hl3 := HD.out.lt
  clear haw K1
  have c0 := HD.out.c0; have c1 := HD.out.c1; have c2 := HD.out.c2; have c3 := HD.out.c3; have c4 := HD.out.c4; have cv := HB.out.cell
  go_wp2_with fail
  refine (K2.out _).mono ?_
  rintro E w4 ⟨rfl, rfl⟩
  clear K2
  go_wp2_with fail
  refine (K3.out _).mono ?_
  rintro E w4 ⟨rfl, rfl⟩
  clear K3
  obtain ⟨da, dcap, hdv, hdc⟩ : ∃ a c, dv = .slice a g.d.length c ∧ g.d.length ≤ c := by obtain ⟨a, c, h, h2, _⟩ := HG.out.d; exact ⟨a, c, h, h2⟩
  subst hdv
  have hdl := HG.out.wf.dn
  go_upto_region 3 with fail
  have HCL : Hid (Away [] w w4.drew ∧ BoxX w4.drew g1 s ∧ BoxX w4.drew g2 t ∧ BoxM w4.drew g3 g (.slice da g.d.length dcap)) := ⟨HA.out.drew, HB.out, HC.out, HD.out⟩
  obtain ⟨rm0, rm1⟩ := most_bd g.v
  have KR : Hid (∀ W, (Away [] w W ∧ BoxX W g1 s ∧ BoxX W g2 t ∧ BoxM W g3 g (.slice da g.d.length dcap)) → Calls Tryd.prog 29 #[.int .i64 g.v] W fun e w' => e = .returned (.int .i64 (mostP g.v)) ∧ (Away [] w w' ∧ BoxX w' g1 s ∧ BoxX w' g2 t ∧ BoxM w' g3 g (.slice da g.d.length dcap))) :=
    fun W h => (most_c g.v W).mono fun e w' k => ⟨k.1, by rw [k.2]; exact h⟩
  generalize mostP g.v = rm at *
  refine wp_region_cls (C := fun w' => Away [] w w' ∧ BoxX w' g1 s ∧ BoxX w' g2 t ∧ BoxM w' g3 g (.slice da g.d.length dcap)) (by kernel_rfl) (by kernel_rfl) HCL.out ?_
  go_big_quiet_want; (refine quiet_val ?_ ?_ ?_; rotate_left; (intro w; go_simp; rfl); go_simp; go_big_quiet_on)
  go_big_quiet_want; refine quiet_ld _ rfl (ad := ⟨g3, 4, none⟩) rfl (fun w' h => ldB h.2.2.2.c4) ?_; go_simp; go_big_quiet_on
  go_big_quiet_want; (refine quiet_val ?_ ?_ ?_; rotate_left; (intro w; go_simp; rfl); go_simp; go_big_quiet_on)
  go_big_quiet_want; (refine quiet_val ?_ ?_ ?_; rotate_left; (intro w; go_simp; rfl); go_simp; go_big_quiet_on)
  go_big_quiet_want; refine quiet_ld _ rfl (ad := ⟨g3, 0, none⟩) rfl (fun w' h => ld3 h.2.2.2.c0) ?_; go_simp; go_big_quiet_on
  go_big_quiet_want; refine quiet_call 29 #[.int .i64 g.v] (.int .i64 rm) ?_ KR.out ?_
  · intro w; go_simp; done
  go_simp; go_big_quiet_on
  go_big_quiet_want; (refine quiet_val ?_ ?_ ?_; rotate_left; (intro w; go_simp; rfl); go_simp; go_big_quiet_on)
  go_big_quiet_want; (refine quiet_val ?_ ?_ ?_; rotate_left; (intro w; go_simp; rfl); go_simp; go_big_quiet_on)
  refine wpQuiet_nil ?_
  intro V hV
  rw [show IntKind.i64.wrap (rm - 8) = rm - 8 from IntWalk.i64_in _ ⟨by omega, by omega⟩]
  replace HA := Lib.hid hV.1; replace HB := Lib.hid hV.2.1; replace HC := Lib.hid hV.2.2.1; replace HD := Lib.hid hV.2.2.2
  clear hV KR HCL c0 c1 c2 c3 c4 cv hl1 hl2 hl3
  have hl1 := HB.out.lt; have hl2 := HC.out.lt; have hl3 := HD.out.lt
  have c0 := HD.out.c0; have c1 := HD.out.c1; have c2 := HD.out.c2; have c3 := HD.out.c3; have c4 := HD.out.c4; have cv := HB.out.cell
  go_wp2_with fail
  refine (newWriter_any (8 + (g.d.length : Int)) _ (by omega) (by omega)).mono ?_
  intro E w5 hbe
  rw [show limOf (8 + (g.d.length : Int)) = (8 + (g.d.length : Int)) from by unfold limOf; rw [if_neg (by omega), if_pos (by omega)]] at hbe
  obtain ⟨gw, v, rfl, hL, haw⟩ := Wk.begin [g1, g2, g3] hbe (by exact HA.out) (by simp; omega)
  have HL := Lib.hid hL
  replace HB := Lib.hid (HB.out.on haw); replace HC := Lib.hid (HC.out.on haw); replace HD := Lib.hid (HD.out.on haw)
  clear hL haw hbe HA c0 c1 c2 c3 c4 cv
  have c0 := HD.out.c0; have c1 := HD.out.c1; have c2 := HD.out.c2; have c3 := HD.out.c3; have c4 := HD.out.c4
  go_wp2_with fail
  refine (w8_any _ gw _ (8 + (g.d.length : Int)) _ 0 g.ty (by exact HL.out.wr) (by omega) (by omega)).mono ?_
  rw [wrFit (by (try simp only [List.length_append]); (try simp only [List.length_cons]); (try simp only [List.length_nil]); omega), wrFitE (by (try simp only [List.length_append]); (try simp only [List.length_cons]); (try simp only [List.length_nil]); omega)]
  intro E w' hk
  obtain ⟨rfl, v', hL, hkeep⟩ := HL.out.step hk
  replace HL := Lib.hid hL
  replace HB : Hid (BoxX w' g1 s) := (hkeep g1 (by simp)).trans HB.out
  replace HC : Hid (BoxX w' g2 t) := (hkeep g2 (by simp)).trans HC.out
  replace HD : Hid (BoxM w' g3 g (.slice da g.d.length dcap)) := (hkeep g3 (by simp)).trans HD.out
  clear hL hkeep hk c0 c1 c2 c3 c4
  have c0 := HD.out.c0; have c1 := HD.out.c1; have c2 := HD.out.c2; have c3 := HD.out.c3; have c4 := HD.out.c4
  go_wp2_with fail
  refine (w8_any _ gw _ (8 + (g.d.length : Int)) _ 0 g.co (by exact HL.out.wr) (by omega) (by omega)).mono ?_
  rw [wrFit (by (try simp only [List.length_append]); (try simp only [List.length_cons]); (try simp only [List.length_nil]); omega), wrFitE (by (try simp only [List.length_append]); (try simp only [List.length_cons]); (try simp only [List.length_nil]); omega)]
  intro E w' hk
  obtain ⟨rfl, v', hL, hkeep⟩ := HL.out.step hk
  replace HL := Lib.hid hL
  replace HB : Hid (BoxX w' g1 s) := (hkeep g1 (by simp)).trans HB.out
  replace HC : Hid (BoxX w' g2 t) := (hkeep g2 (by simp)).trans HC.out
  replace HD : Hid (BoxM w' g3 g (.slice da g.d.length dcap)) := (hkeep g3 (by simp)).trans HD.out
  clear hL hkeep hk c0 c1 c2 c3 c4
  have c0 := HD.out.c0; have c1 := HD.out.c1; have c2 := HD.out.c2; have c3 := HD.out.c3; have c4 := HD.out.c4
  go_wp2_with fail
  refine (w16_any _ gw _ (8 + (g.d.length : Int)) _ 0 0 (by exact HL.out.wr) (by omega) (by omega)).mono ?_
  rw [wrFit (by (try simp only [List.length_append]); (try simp only [List.length_cons]); (try simp only [List.length_nil]); omega), wrFitE (by (try simp only [List.length_append]); (try simp only [List.length_cons]); (try simp only [List.length_nil]); omega)]
  intro E w' hk
  obtain ⟨rfl, v', hL, hkeep⟩ := HL.out.step hk
  replace HL := Lib.hid hL
  replace HB : Hid (BoxX w' g1 s) := (hkeep g1 (by simp)).trans HB.out
  replace HC : Hid (BoxX w' g2 t) := (hkeep g2 (by simp)).trans HC.out
  replace HD : Hid (BoxM w' g3 g (.slice da g.d.length dcap)) := (hkeep g3 (by simp)).trans HD.out
  clear hL hkeep hk c0 c1 c2 c3 c4
  have c0 := HD.out.c0; have c1 := HD.out.c1; have c2 := HD.out.c2; have c3 := HD.out.c3; have c4 := HD.out.c4
  go_wp2_with fail
  refine (w32_any _ gw _ (8 + (g.d.length : Int)) _ 0 g.re (by exact HL.out.wr) (by omega) (by omega)).mono ?_
  rw [wrFit (by (try simp only [List.length_append]); (try simp only [List.length_cons]); (try simp only [List.length_nil]); omega), wrFitE (by (try simp only [List.length_append]); (try simp only [List.length_cons]); (try simp only [List.length_nil]); omega)]
  intro E w' hk
  obtain ⟨rfl, v', hL, hkeep⟩ := HL.out.step hk
  replace HL := Lib.hid hL
  replace HB : Hid (BoxX w' g1 s) := (hkeep g1 (by simp)).trans HB.out
  replace HC : Hid (BoxX w' g2 t) := (hkeep g2 (by simp)).trans HC.out
  replace HD : Hid (BoxM w' g3 g (.slice da g.d.length dcap)) := (hkeep g3 (by simp)).trans HD.out
  clear hL hkeep hk c0 c1 c2 c3 c4
  have c0 := HD.out.c0; have c1 := HD.out.c1; have c2 := HD.out.c2; have c3 := HD.out.c3; have c4 := HD.out.c4
  obtain ⟨_, _, hdn, hdr⟩ := (HG.out.d.on HL.out.aw).of
  have HDR := Lib.hid hdr
  clear hdr
  go_wp2_with fail
  refine (wbytes_any _ gw _ (8 + (g.d.length : Int)) _ 0 da g.d g.d.length dcap (by exact HL.out.wr) rfl hdn (by exact HDR.out)).mono ?_
  rw [wrFit (by (try simp only [List.length_append]); (try simp only [List.length_cons]); (try simp only [List.length_nil]); omega), wrFitE (by (try simp only [List.length_append]); (try simp only [List.length_cons]); (try simp only [List.length_nil]); omega)]
  intro E w' hk
  obtain ⟨rfl, v', hL, hkeep⟩ := HL.out.step hk
  replace HL := Lib.hid hL
  replace HB : Hid (BoxX w' g1 s) := (hkeep g1 (by simp)).trans HB.out
  replace HC : Hid (BoxX w' g2 t) := (hkeep g2 (by simp)).trans HC.out
  replace HD : Hid (BoxM w' g3 g (.slice da g.d.length dcap)) := (hkeep g3 (by simp)).trans HD.out
  clear hL hkeep hk c0 c1 c2 c3 c4
  have c0 := HD.out.c0; have c1 := HD.out.c1; have c2 := HD.out.c2; have c3 := HD.out.c3; have c4 := HD.out.c4
  have hraw : [] ++ [g.ty] ++ [g.co] ++ [0 / 256, 0 % 256] ++ [g.re / 16777216, g.re / 65536 % 256, g.re / 256 % 256, g.re % 256] ++ g.d = mrawP g := by
    unfold mrawP; simp
  rw [hraw] at HL
  have HRL := Lib.hid (mraw_len g)
  clear HDR hdn hraw
  have HRB := Lib.hid (mraw_bytes HF.out)
  go_wp2_with fail
  refine (out_any _ gw _ (8 + (g.d.length : Int)) _ 0 (by exact HL.out.wr)).mono ?_
  rintro E w6 ⟨vo, rfl, hown, hnew, haw⟩
  rw [show ∀ l, wrOut l 0 = l from fun l => by unfold wrOut; rw [if_pos rfl]] at hown
  obtain ⟨ao, co, rfl, ho1, ho2, ho3, _⟩ := hown.row (by have := HRL.out; omega) HRB.out
  have HO := Lib.hid ho3
  replace HB := Lib.hid (HB.out.on haw); replace HC := Lib.hid (HC.out.on haw)
  replace HL : Hid (Wk w w6 [g1, g2, g3] gw _ (8 + (g.d.length : Int)) (mrawP g)) := ⟨HL.out.aw.on haw, HL.out.wr.away haw (by simp) (by simp), HL.out.new, HL.out.gB, fun k hk => ⟨(HL.out.ap k hk).1, (HL.out.ap k hk).2.1, Nat.lt_of_lt_of_le (HL.out.ap k hk).2.2 haw.size⟩⟩
  clear hown haw ho3 hnew HD c0 c1 c2 c3 c4
  go_wp2_with (first | (refine wpList_loadX rfl _ rfl g1 rfl s (by exact HB.out) HS.out ?_) | (refine wpList_loadX rfl _ rfl g2 rfl t (by exact HC.out) HT.out ?_))
  refine (KC.out _ ao co _ (by exact HO.out) ho2 rfl).mono ?_
  rintro E w7 ⟨rfl, haw⟩
  replace HL : Hid (Wk w w7 [g1, g2, g3] gw _ (8 + (g.d.length : Int)) (mrawP g)) := ⟨HL.out.aw.on haw, HL.out.wr.away haw (by simp) (by simp), HL.out.new, HL.out.gB, fun k hk => ⟨(HL.out.ap k hk).1, (HL.out.ap k hk).2.1, Nat.lt_of_lt_of_le (HL.out.ap k hk).2.2 haw.size⟩⟩
  clear haw HB HC KC HO
  go_wp2_with fail
  refine (put16_any _ gw _ (8 + (g.d.length : Int)) (mrawP g) 0 2 x (by exact HL.out.wr) (by omega) (by omega) (by omega) (by omega)).mono ?_
  rw [show putAll (mrawP g) 0 2 x = mlayP s t g from by have := HRL.out; unfold putAll mlayP; rw [if_pos ⟨rfl, by omega, by omega⟩, HX.out]; rfl, show putErr (mrawP g) 0 2 = 0 from by have := HRL.out; unfold putErr; rw [if_pos rfl, if_pos ⟨by omega, by omega⟩]]
  intro E w' hk
  obtain ⟨rfl, v', hL, hkeep⟩ := HL.out.step hk
  replace HL := Lib.hid hL
  clear hL hkeep hk
  go_wp2_with fail
  refine (out_any _ gw _ (8 + (g.d.length : Int)) _ 0 (by exact HL.out.wr)).mono ?_
  rintro E w8 ⟨vo, rfl, hown, hnew, haw⟩
  rw [show ∀ l, wrOut l 0 = l from fun l => by unfold wrOut; rw [if_pos rfl]] at hown
  have HO := Lib.hid hown
  have HA : Hid (Away [] w w8) := HL.out.aw.on haw
  have hs6 := HL.out.aw.size
  clear haw hown
  go_wp2_with fail
  go_ret2
  exact ⟨vo, rfl, HO.out, hnew.mono (by omega), HA.out⟩
theorem mbuild_c (s t : Ax) (g : Mg) (dv : Value) (w : World) (hs : WfA s) (ht : WfA t) (hg : Dam w g dv) :
    Calls Tryd.prog 13 #[.agg (csA s.v s.l), .agg (csA t.v t.l), .agg (csM g dv)] w fun E w' => MBuildOut w (mbuildP s t g) E w' := by
  unfold mbuildP
  cases hz : pairP s t
  · rw [if_neg (by simp [mOk, hz])]; exact build_no1 s t g dv w hs ht hg hz
  · by_cases hv : g.v = s.v
    · cases h2 : octP g.ty
      · rw [if_neg (by simp [mOk, h2])]; exact build_no3 s t g dv w hs ht hg hz hv h2
      · cases h3 : octP g.co
        · rw [if_neg (by simp [mOk, h3])]; exact build_no4 s t g dv w hs ht hg hz hv h2 h3
        · rw [if_pos (by simp [mOk, hz, hv, h2, h3])]
          by_cases hr : (g.d.length : Int) ≤ mostP g.v - 8
          · rw [if_pos hr]; exact build_yes s t g dv w hs ht hg hz hv h2 h3 hr
          · rw [if_neg hr]; exact build_long s t g dv w hs ht hg hz hv h2 h3 (by omega)
    · rw [if_neg (by simp [mOk, hv])]; exact build_no2 s t g dv w hs ht hg hz hv
#print axioms mbuild_c
end Go.Proofs.YtbgpjhekohabiaaDoor
